import PyProof.Rows.All
import Wide.All
import OpenK.AllK
import Wide.FinOn
import Lean
import PyProof.EqAt
import PyProof.EqKinds
import PyProof.TupleCall
import PyProof.NeKinds
import KE.IntBitsLaws
import PyProof.StrWalks
import PyProof.FString5
import PyProof.ConsumeWalk
import PyProof.DictCompW
import PyProof.ZipIter
import PyProof.EnumMake
import PyProof.Rows.SetFrom
import KE.KRevSl
import PyProof.FitsBits
import PyProof.Rows.SortStr
import PyProof.StrBlockL
import PyProof.JoinWalk
import PyProof.AttrMissHeap
import PyProof.ListNew
import PyProof.DictUpdate
import PyProof.DictWalks
import KE.KSortTup
import PyProof.Rows.StrMeet
import KE.KSortKey
import PyProof.ListRange
import PyProof.SumAny
import PyProof.WalkInts
import PyProof.StationsW
import PyProof.RulesAs
import OpenK.KRaise
import PyProof.ExcInit
import PyProof.ExcBaseAll.ValueError
import PyProof.PassesOwn
import PyProof.NsDelKeeps
import PyProof.Rows.Catch
import PyProof.FString
import PyProof.Rows.FStr
import PyProof.ExcArgs
import PyProof.ExcAttrAll.ValueError
import PyProof.Rows.SortWalk
import PyProof.ReprRoads
import PyProof.ReprText
import PyProof.CallFns
import KE.KEqDict
import PyProof.AutoListH
import PyProof.SliceStr2
import PyProof.StrOps2
import PyProof.Rows.StrMadeLen
import PyProof.StrLawsIn
import PyProof.TupleKey
import PyProof.DictRoadsH
import PyProof.SetScanFacts
import OpenK.KTop
import KE.KItemsList
import PySem.Challenge.RW_newsways_k62_roads_crossed
open Array renaming length_toList → Ah, getElem?_toList → A7, getElem?_eq_getElem → AL, getD_eq_getD_getElem? → AW, getElem?_eq_some_iff → Bj, forIn_toList → BS, getElem?_eq_none → CH, mem_toList_iff → CQ, toList_push → Dm, size_map → DF, toList_filterMap → E9, size_push → EU, getElem?_setIfInBounds → Fj, toList_setIfInBounds → Fz, getD → FI, size_setIfInBounds → FZ, getElem_mem_toList → F_, mem_of_getElem? → GH, getElem_toList → GR, mem_filter → Hd
open Bool renaming false_eq_true → Ay, false_ne_true → A3, and_eq_true → AX, not_true → Ce, eq_iff_iff → Cf, not_eq_true → Dc, not_eq_true' → Dl, and_false → DD, true_and → F8
open Classical renaming byContradiction → Ef
open False renaming elim → Dp
open Int renaming toNat_natCast → AU, emod_lt_of_pos → Ch, emod_nonneg → C4, eq_ofNat_of_zero_le → Dw, max_eq_left → Gs, mul_le_mul → GJ
open List renaming length_map → Ab, mem_cons_self → Ai, mem_cons_of_mem → Aj, mem_singleton → Ak, getElem?_map → Am, mem_append_right → Ao, map_append → Aq, mem_cons → Ar, mem_append → As, getElem?_eq_some_iff → Au, mem_of_getElem? → Av, size_toArray → Aw, mem_map → Ax, length_append → A5, not_mem_nil → A6, length_cons → AA, map_cons → AC, length_take → AE, range → AG, getElem?_eq_getElem → AK, mem_append_left → AO, replicate → AR, mem_range → Be, nodup_append → Bf, mem_map_of_mem → Bs, take_of_length_le → Bt, take_length → Bx, length_singleton → BB, length_filter_le → BC, append_assoc → BE, length_range → BF, mem_filter → BJ, length_replicate → BK, Nodup → BL, getElem?_append_left → BQ, filter_append → BR, map_map → BY, nodup_cons → Cg, replicate_succ' → Ci, toList_toArray → Ck, getElem?_append_right → Ct, getD_eq_getElem?_getD → Cv, pairwise_iff_getElem → Cz, getElem?_eq_none → C5, lookup_cons → C8, any_cons → CC, getElem?_of_mem → CF, append_nil → CG, take_succ → CM, map_replicate → CO, length → CP, all_cons → CW, mem_of_mem_take → Dr, length_drop → Dt, length_eq_zero_iff → Dx, getElem?_cons_succ → Dy, mem_filterMap → D0, find?_cons → D2, map_filterMap → D6, getElem?_take → D7, pairwise_lt_range → D8, reverse_cons → DA, map_nil → DC, perm_append_comm → DH, mem_iff_getElem? → DI, filter_cons → DM, any_eq_true → DN, length_eraseIdx → DO, getElem_map → DQ, mem_flatMap → DS, filterMap_cons → DV, getElem?_range → DW, forIn_cons → D_, foldl_cons → Ec, getElem?_zip_eq_some → Eg, pairwise_cons → En, any_map → Ep, append_of_mem → Er, getElem?_drop → Es, forIn_nil → Et, take_sublist → Ez, range_succ_eq_map → E7, map_take → EE, eraseIdxIfInBounds_toArray → EI, range_succ → ES, length_zip → EV, length_reverse → Fb, nodup_nil → Fe, drop_zero → Fi, find?_eq_none → Fp, perm_ext_iff_of_nodup → Fy, nodup_iff_pairwise_ne → F6, map_drop → F7, drop_eq_getElem_cons → FJ, mem_of_find?_eq_some → FK, cons_append → FP, getElem_mem → FQ, length_erase_of_mem → FX, sublist_append_left → Gb, eraseIdx_cons_succ → Ge, pairwise_singleton → Gm, getLast?_cons_cons → Gn, pairwise_filterMap → Go, of_mem_zip → Gq, getElem?_set_self → Gx, drop_eq_nil_of_le → G7, drop_of_length_le → G8, length_pos_of_mem → G9, getElem?_toArray → GF, take_append_drop → GI, getElem?_set_ne → GK, mem_of_getLast? → GP, pairwise_append → GQ, mem_of_mem_drop → GS, mem_iff_getElem → GT, flatMap_append → Ha, filter_sublist → Hb, length_pos_iff → Hc
open List.Perm renaming refl → Ds, of_eq → ET, append_left → GE
open List.Sublist renaming refl → E5
open Nat renaming le_refl → Af, ne_of_lt → An, lt_of_lt_of_le → A8, le_trans → AM, ne_of_gt → AV, le_of_lt → AZ, zero_le → Bc, lt_succ_self → BX, lt_succ_of_lt → Ca, lt_irrefl → Cs, lt_trans → Cu, le_succ → CD, mod_lt → CI, lt_of_le_of_lt → CL, le_add_right → Db, not_lt_zero → Ea, lt_trichotomy → E4, sub_self → EO, min_eq_left → ER, min_eq_right → FW, zero_add → FY, not_le_of_gt → Ga, add_le_add_left → GY
open Ne renaming symm → Bi
open Option renaming map_some → EL, isSome_iff_exists → FM, some_ne_none → G_
open Option.some renaming inj → AD
open PyProof.Rows renaming callWith_type1 → Bp, seqObj → BD, slot_tuple_getitem → Cb, callWith_builtin1 → Cy, entry_list_sort → Gu, subscriptTail_builtinR → Gz, slot_list_sort → GG
open PyProof.Rows.F renaming plain_set_update_loop → BH, entry_set_update_loop → CA
open PySem renaming wpAny_bind → Aa, wpAny_pure → Ac, sizeLine → Az, SetTable → A0, starEach → A9, wpAny_mono → AB, wpAny_holding → AF, mainGlobals → AH, wpAny_setState_of → AN, wpAny_call_entry → AT, wpAny_seqItems → Ba, bootBuiltins → Bm, wpAny_callSpecial?_slot → Bn, wpAny_newObj_type → Bo, wpAny_Call_Name_kw → Bq, codeAny_builtin → Br, Program → Bw, wpAny_field → BA, wpAny_standAt → BM, compareOp → BN, wpAny_truthy_bool → BP, wpAny_setField → BU, wpAny_specialOf → BV, plainId_quiet → BW, wpAny_forIn_list → BZ, foldedSetIterable → B_, FuncData → Cc, wpAny_rule → Cm, codeAny_mono → Cn, letOwnedTupleGo → Co, cellsFrom → Cq, Around → Cw, wpAny_typeOf → C7, wpAny_setField_rec → CN, wpAny_comprehension_free → CS, wpAny_updateSeq → CT, wpAny_loadPart' → CU, compStart → CY, wpAny_setEntries_of → CZ, wpAny_isInstance → Da, wpAny_askSetting → Dd, wpAny_passesOwn → Di, wpAny_attempt → Dj, wpAny_storeSet_of → Dn, mem_of_lookup → Dv, codeAny_of_tree → D5, wpAny_pyIter_list → D9, sysModules → DL, wpAny_callSpecialIfBoundUnlessNone?_slot → DR, wpAny_pyIter_tuple → Ek, scanBound → Eo, wpAny_newTuple → Eu, wpAny_setEpoch_of → E2, wpAny_nextOf_list_item → EA, wpAny_eqBool_int → EF, wpAny_isSame_ref_self → EH, wpAny_execs_nil → EJ, codeAny_loop → EM, wpAny_updateSeq_pair → EN, codeAny_call_builtin → EQ, wpAny_runValue → Fg, wpAny_fieldsOf → Fh, wpAny_noted → Fk, wpAny_richCompare_same_room → Fn, wpAny_tupleItemsOf → Fo, wpAny_onRaise → Fu, wpAny_newList → Fx, wpAny_assign_Name → FB, slot_list_getitem → FC, wpAny_pyIter_slot → FF, wpAny_getItem_list_slice → FN, wpAny_pyIter_zip → FR, entryFor_of_tree → FT, wpAny_pyNext_tuple_item → Gc, wpAny_ite_split → Gv, wpAny_pyNext_tuple_end → Gy, wpAny_of_eq → G2, wpAny_letGo → G3
open PySem.Around renaming under_plainId → AY, in1_units → C_
open PySem.Builtin renaming sorted → FV
open PySem.Builtin.Dict renaming updateFrom → Gk
open PySem.Builtin.Frozenset renaming updateFrom → Ff, sizeOf → FU, slot0 → Gi
open PySem.Builtin.Int renaming intBits → Fa
open PySem.Builtin.List renaming listExtendWith → BI, listSameRef → CB, listLengthHint → Dh, listTooLong → FO, listItems → GA
open PySem.Builtin.Range renaming rangeSize → Gd
open PySem.Builtin.Slice renaming slicePlaces → Dq, sliceAdjust → DZ, sliceApplied → Fs
open PySem.Builtin.SmallTypes renaming nextOf → Bb, ownedTupleIsFree → Bk, ownedTupleHandOut → Em
open PySem.Builtin.Str renaming strSliceIndices → Bd
open PySem.Builtin.Tuple renaming tupleExact → Du, tupleItemsOf → DT, tupleHashOf → Ed
open PySem.Calls renaming spliced_cons → CK, spliced_nil → CV, call_function_entry → Eb, Name_function_global → Fq, callWith_builtin → G0
open PySem.F renaming plainAttrs_list → AQ, called_set → Bh, slot_list_append → Bu, type_list_append → Bv, plain_extend_loop → Cj, slot_tuple_hash → Cr, slot_zip_next → C9, slot_tuple_iterator_next → CJ, slot_NoneType_hash → Dk, plain_list_iadd → Dz, slot_set_iter → DE, slot_tuple_eq → DG, slot_list_pop → DJ, type_list_pop → DK, args_tuple_add_2 → El, entry_tuple_add → Ew, args_tuple_iterator_next_1 → E1, slot_tuple_add → E6, entry_tuple_iterator_next → E8, entry_proto_collect → Fl, plain_proto_collect → Fm, sub_list_frozenset → Fw, entry_extend_loop → FL, args_zip_next_1 → Gf, entry_type_call → Gg, args_set_iter_1 → Gh, entry_list_iadd → Gj, entry_zip_next → G4, typeCall_set_1 → G5, entry_set_init → G6, plain_set_new → GD, sub_list_set → GO
open PySem.Heap renaming get?_push_of_some → Ad, lt_size → Ag, get?_push_size → Al, size_push → AS, get?_update_self → Bz, get?_update_other → BG, SameBut → BO, get?_push_ne → Do, size_update → DP, ExtBut → G1, get?_update_ne → GZ
open PySem.Heap.IsTuple renaming push → FD
open PySem.Heap.SameBut renaming update → AJ, refl → FE
open PySem.Obj renaming mapSeq → A_, mapFields → DU, putSet → FH
open PySem.PassesOwn renaming never → By
open PySem.SeqAt.EqAt renaming int_str → Eh, str_int → Ej, same → EK, none_int → EX, none_str → EY, int_none → EZ, str_none → E_, none_bool → GL, bool_none → GM, bool_bool → GN, bool_int → GU, bool_str → GV, int_bool → GW, str_bool → GX
open PySem.SeqAt.RcNeAt renaming lists_lengths → Ft
open PySem.SetTable renaming below → AI, grown → Cd, advance → De, insertAt_perm → Dg, fits → ED, tooFull → EG, sameMemory → Fc, laid → Fv, insertAt → FG
open PySem.SetTable.below renaming go → E3
open PySem.Shared renaming TypeIs → EC
open PySem.Str renaming ofString → C6
open PySem.Value renaming isStrOf → EB, isStrOf_shape → EW, isInt → Gw
open PySem.W renaming Frag → Ae, kia_one → Cp, kia_tup → C2, cellsFrom_some → Df, fnOf → DB, kitx_list → Ex, kitx_dict → Ey, keepIn → Fd, methodObj → F9, instObj → Gp, OpenLaw → Gr, lookIn → GB, codeIn → GC
variable{s:PySem.Shared}{w:PySem.World}{A:PySem.Around}{E:PySem.Value→PySem.Shared→Prop}{pins:List (PySem.Addr×PySem.Obj)}{prog:PySem.Program}{h:PySem.Heap}{a:PySem.Addr}{b:PySem.Addr}{i:Nat}{n:Nat}{us:List PySem.Value}{P:PySem.Program}{u:PySem.Value}{e:PySem.Expr}{scope:PySem.Scope}
open PySem PySem.Spec PyProof.Rows
set_option Elab.async false
set_option linter.all false
set_option maxRecDepth 100000
namespace L2
abbrev Jq:=Sum Int Str
def MO:Jq→Value→Bool
 | .inl k,v=>Gw k v
 | .inr x,v=>EB x v
def Sk(w:World):Jq→Int
 | .inl k=>hashInt k
 | .inr x=>hashStr w x
theorem LR:∀{k:Jq}{v:Value},MO k v=true→(∃i t,k=Sum.inl i∧v=Value.int i t)∨(∃x t,k=Sum.inr x∧v=Value.str x t)
 | .inl i,v,h=>by obtain⟨t,e⟩:=Value.isInt_shape (k:=i) (v:=v) h;exact .inl ⟨i,t,rfl,e⟩
 | .inr x,v,h=>by obtain⟨t,e⟩:=EW (x:=x) (v:=v) h;exact .inr ⟨x,t,rfl,e⟩
theorem Vk(i:Int)(t:Tok):MO (.inl i) (.int i t)=true:=by simp[MO,Gw]
theorem Vl(x:Str)(t:Tok):MO (.inr x) (.str x t)=true:=by simp[MO,EB]
theorem WS(a b:Int):decide ((Sum.inl a:Jq)=Sum.inl b)=(a==b):=by
 by_cases e:a=b
 · subst e;simp
 · have h:¬(Sum.inl a:Jq)=Sum.inl b:=λq=>e (Sum.inl.inj q);rw[decide_eq_false h];exact(beq_eq_false_iff_ne.mpr e).symm
theorem WV(a b:Str):decide ((Sum.inr a:Jq)=Sum.inr b)=decide (a=b):=by
 by_cases e:a=b
 · subst e;simp
 · have h:¬(Sum.inr a:Jq)=Sum.inr b:=λq=>e (Sum.inr.inj q);rw[decide_eq_false h,decide_eq_false e]
theorem WT(a:Int)(b:Str):decide ((Sum.inl a:Jq)=Sum.inr b)=false:=decide_eq_false (λq=>nomatch q)
theorem WU(a:Str)(b:Int):decide ((Sum.inr a:Jq)=Sum.inl b)=false:=decide_eq_false (λq=>nomatch q)
def K5(prog:Bw)(w:World):PySem.KeyKind prog w Jq where
 is:=MO
 hash:=Sk w
 inj:=λv a b ha hb=>by
  rcases LR ha with⟨i,t,rfl,rfl⟩ | ⟨x,t,rfl,rfl⟩
  · rcases LR hb with⟨j,u,rfl,e⟩ | ⟨y,u,rfl,e⟩
    · injection e with e1 _;rw[e1]
    · exact nomatch e
  · rcases LR hb with⟨j,u,rfl,e⟩ | ⟨y,u,rfl,e⟩
    · exact nomatch e
    · injection e with e1 _;rw[e1]
 byValue:=λk v h=>by rcases LR h with⟨i,t,rfl,rfl⟩ | ⟨x,t,rfl,rfl⟩<;>rfl
 pyHash:=λhv h=>by
  rcases LR hv with⟨i,t,rfl,rfl⟩ | ⟨x,t,rfl,rfl⟩
  · exact wpAny_pyHash_int h
  · exact wpAny_pyHash_str h
 eqBool:=λhu hv h=>by
  rcases LR hu with⟨i,t,rfl,rfl⟩ | ⟨x,t,rfl,rfl⟩
  · rcases LR hv with⟨j,u,rfl,rfl⟩ | ⟨y,u,rfl,rfl⟩
    · rw[WS] at h;exact EF h
    · rw[WT] at h;exact Eh i t y u _ _ _ _ h
  · rcases LR hv with⟨j,u,rfl,rfl⟩ | ⟨y,u,rfl,rfl⟩
    · rw[WU] at h;exact Ej x t j u _ _ _ _ h
    · rw[WV] at h;exact wpAny_eqBool_str h
 «strs»:=λk x t v h=>by
  rcases LR h with⟨i,u,rfl,e⟩ | ⟨y,u,rfl,e⟩
  · exact nomatch e
  · injection e with e1 _
    subst e1;cases v<;>rfl
theorem zhB(prog:Bw)(w:World)(i:Int)(t:Tok):(K5 prog w).is (.inl i) (.int i t)=true:=Vk i t
theorem zhA(prog:Bw)(w:World)(x:Str)(t:Tok):(K5 prog w).is (.inr x) (.str x t)=true:=Vl x t
inductive V where
 | non | bl (b:Bool) | int (i:Int) | str (x:Str) | byt (b:Array UInt8) | flt (b:UInt64) | ref (a:Addr) | ty (n:String)
 deriving DecidableEq
def RelV:V→Value→Prop
 | .non,u=>u=Value.none
 | .bl b,u=>u=Value.bool b
 | .int i,u=>∃t,u=Value.int i t
 | .str x,u=>∃t,u=Value.str x t
 | .byt b,u=>∃t,u=Value.bytes b t
 | .flt b,u=>∃t,u=Value.float b t
 | .ref a,u=>u=Value.ref a
 | .ty n,u=>u=Value.type n
abbrev Vals:List V→List Value→Prop:=Paired RelV
theorem Vals.length{xs:List V}(r:Vals xs us):xs.length=us.length:=Paired.length r
theorem Vals.get:∀{xs:List V}{us:List Value}{i:Nat}{x:V},Vals xs us→xs[i]?=some x→∃u,us[i]?=some u∧RelV x u
 | _,_,_,_,.nil,e=>by simp at e
 | _,_,0,_,.cons r _,e=>by simp at e;subst e;exact⟨_,rfl,r⟩
 | _,_,i+1,x,.cons _ t,e=>by obtain⟨u,h1,h2⟩:=Vals.get (i:=i) (x:=x) t (by simpa using e);exact⟨u,by simpa using h1,h2⟩
theorem Vals.set{x:V}(r:RelV x u):∀{xs:List V}{us:List Value}(i:Nat),Vals xs us→Vals (xs.set i x) (us.set i u)
 | _,_,_,.nil=> .nil
 | _,_,0,.cons _ t=> .cons r t
 | _,_,i+1,.cons q t=> .cons q (Vals.set r i t)
theorem Vals.append:∀{xs ys:List V}{us ws:List Value},Vals xs us→Vals ys ws→Vals (xs++ys) (us++ws)
 | _,_,_,_,.nil,s=>s
 | _,_,_,_,.cons r t,s=> .cons r (Vals.append t s)
theorem Vals.take:∀{xs:List V}{us:List Value}(n:Nat),Vals xs us→Vals (xs.take n) (us.take n)
 | _,_,0,_=> .nil
 | _,_,_+1,.nil=> .nil
 | _,_,n+1,.cons r t=> .cons r (Vals.take n t)
theorem Vals.drop:∀{xs:List V}{us:List Value}(n:Nat),Vals xs us→Vals (xs.drop n) (us.drop n)
 | _,_,0,r=>r
 | _,_,_+1,.nil=> .nil
 | _,_,n+1,.cons _ t=>Vals.drop n t
def RelO:Option V→Option Value→Prop
 | some v,some u=>RelV v u
 | none,none=>True
 | _,_=>False
def KV{κ:Type}:List (κ×V)→List (κ×Value)→Prop:=Paired λ(p:κ×V)(q:κ×Value)=>p.1=q.1∧RelV p.2 q.2
def kV:Jq→V
 | .inl i=> .int i
 | .inr x=> .str x
inductive HO where
 | lst (xs:List V)
 | tup (xs:List V)
 | dK (kvs:List (Jq×V)) | dT (kvs:List (List Jq×V))
 | set (S:Int→Bool) (n:Nat)
 | ins (C dx:Addr) (fs:List (Str×V))
 | own (x:Addr)
 | xd (fs:List (Str×V))
 | met (f x:Addr)
 | rng (lo hi:Int)
 | frz (o:Obj) (u:HO)
 | tbl (ps:Array Value)
 | ext (φ:Heap→Prop)
def IsTupP(h:Heap)(a:Addr)(items:Array Value):Prop:=∃o,h.get? a=some o∧o.cls= .type "tuple"∧o.dict=none∧∃n,o.data= .seq items n
theorem IsTupP.tup{items:Array Value}(x:IsTupP h a items):IsTup h a items:=let⟨o,h1,h2,_,h3⟩:=x;⟨o,h1,h2,h3⟩
theorem IsTupP.new(h:Heap)(items:Array Value):IsTupP (h.push {cls:= .type "tuple",data:= .seq items}) h.objs.size items:=⟨_,Al _ rfl,rfl,rfl,_,rfl⟩
abbrev Hp:=Addr→Option HO
def IU(H:Hp)(a:Addr)(o:HO):Hp:=λb=>if b=a then some o else H b
theorem IX{H:Hp}{o:HO}:IU H a o a=some o:=by unfold IU;rw[if_pos rfl]
theorem Ji{H:Hp}{o:HO}(h:b≠a):IU H a o b=H b:=by unfold IU;rw[if_neg h]
theorem YF{H:Hp}{o u:HO}:IU (IU H a o) a u=IU H a u:=by funext b;unfold IU;split<;>rfl
theorem Pz{H:Hp}{o u:HO}(h:H a=some o)(h':H b=some u)(d:o≠u):a≠b:=by intro e;subst e;rw[h] at h';exact d (AD h')
theorem JJ{H:Hp}{o:HO}(h:H a=some o)(h':H b=none):a≠b:=by intro e;subst e;rw[h] at h';cases h'
section
variable(P:Bw)(w:World)
def ObjOk(H:Hp)(h:Heap)(a:Addr):HO→Prop
 | .lst xs=>xs.length≤Az∧∃(its:List Value)(n:Nat),Vals xs its∧h.get? a=some {cls:= .type "list",data:= .seq its.toArray n}
 | .tup xs=>xs.length≤Az∧∃its:List Value,Vals xs its∧IsTupP h a its.toArray
 | .dK kvs=>kvs.length≤Az∧(a==DL)=false∧∃vs,KV kvs vs∧h.DictOf (K5 P w) a vs
 | .dT kvs=>kvs.length≤Az∧(a==DL)=false∧∃xs:List (List Jq×Addr×Value),
  Paired (λ(p:List Jq×V)(q:List Jq×Addr×Value)=>p.1=q.1∧H q.2.1=some (.tup (p.1.map kV))∧RelV p.2 q.2.2) kvs xs∧
  ∃o es ep,h.get? a=some o∧o.ExactDict∧o.data= .dict es ep∧es.toList=xs.map (entryOfKey (tupleKind (K5 P w)))∧(xs.map (·.1)).Nodup
 | .set S n=>h.SetOf (intKind P w) a S n
 | .ins C dx fs=>H dx=some (.own a)∧fs.length≤1000∧dx≠a∧h.get? a=some (Gp C dx)∧
  ∃mA,h.Ns1 dx mA∧(∀f,RelO (fs.lookup f) (mA f))∧PySem.Within mA (fs.map (·.1))
 | .own _=>∃o,h.get? a=some o
 | .xd fs=>∃mA,h.Ns1 a mA∧∀f,RelO (fs.lookup f) (mA f)
 | .rng lo hi=>∃t u v,h.get? a=some {cls:= .type "range",data:= .fields #[.int lo t,.int hi u,.int 1 v]}
 | .frz o u=>h.get? a=some o∧ObjOk H h a u
 | .tbl ps=>h.get? a=some {cls:= .none,data:= .fields ps}
 | .met f x=>h.get? a=some (F9 (.ref f) (.ref x))
 | .ext φ=>φ h∧(∃o,h.get? a=some o)∧∀h1 h2:Heap,φ h1→(∀o,h1.get? a=some o→h2.get? a=some o)→φ h2
def HOk(H:Hp)(h:Heap):Prop:=∀a o,H a=some o→ObjOk P w H h a o
end
section
variable{H H':Hp}{h':Heap}{o:HO}
theorem ObjOk.lt(x:ObjOk P w H h a o):a<h.objs.size:=by
 cases o with
 | lst xs=>obtain⟨_,_,_,_,e⟩:=x;exact Ag e
 | tup xs=>obtain⟨_,_,_,p⟩:=x;exact(show IsTupP _ _ _ from p).tup.lt
 | dK kvs=>obtain⟨_,_,_,_,o,_,_,e,_⟩:=x;exact Ag e
 | dT kvs=>obtain⟨_,_,_,_,o,_,_,e,_⟩:=x;exact Ag e
 | set S n=>obtain⟨o,_,_,_,e,_⟩:=x;exact Ag e
 | ins C dx fs=>obtain⟨_,_,_,e,_⟩:=x;exact Ag e
 | own y=>obtain⟨_,e⟩:=x;exact Ag e
 | xd fs=>obtain⟨_,⟨_,_,_,e,_⟩,_⟩:=x;exact Ag e
 | rng lo hi=>obtain⟨_,_,_,e⟩:=x;exact Ag e
 | frz ob u=>obtain⟨e,_⟩:=x;exact Ag e
 | tbl ps=>exact Ag (show h.get? a=some _ from x)
 | met f y=>exact Ag (show h.get? a=some _ from x)
 | ext φ=>obtain⟨_,⟨_,e⟩,_⟩:=x;exact Ag e
theorem Paired.mapP{α β:Type}{F G:α→β→Prop}:∀{l₁:List α}{l₂:List β},Paired F l₁ l₂→(∀a b,F a b→G a b)→Paired G l₁ l₂
 | _,_,.nil,_=> .nil
 | _,_,.cons r t,f=> .cons (f _ _ r) (Paired.mapP t f)
theorem ObjOk.stay(x:ObjOk P w H h a o)(k:∀b u,(b=a∨H b=some (.own a))→h.get? b=some u→h'.get? b=some u)
 (ho:∀b,H b=some (.own a)→H' b=some (.own a)) (ht:∀b xs,H b=some (.tup xs)→H' b=some (.tup xs)):ObjOk P w H' h' a o:=by
 induction o with
 | lst xs=>obtain⟨z,its,n,r,e⟩:=x;exact⟨z,its,n,r,k _ _ (.inl rfl) e⟩
 | tup xs=>obtain⟨z,its,r,ob,e,c⟩:=x;exact⟨z,its,r,ob,k _ _ (.inl rfl) e,c⟩
 | dK kvs=>obtain⟨z,y,vs,r,ob,es,ep,e,c⟩:=x;exact⟨z,y,vs,r,ob,es,ep,k _ _ (.inl rfl) e,c⟩
 | dT kvs=> obtain⟨z,y,xs,r,ob,es,ep,e,c⟩:=x;exact⟨z,y,xs,Paired.mapP r λp q z=>⟨z.1,ht _ _ z.2.1,z.2.2⟩,ob,es,ep,k _ _ (.inl rfl) e,c⟩
 | set S n=>obtain⟨ob,es,ep,t,e,c⟩:=x;exact⟨ob,es,ep,t,k _ _ (.inl rfl) e,c⟩
 | ins C dx fs=> obtain⟨d,z,ne,e,mA,⟨od,es,ep,e2,c⟩,r⟩:=x;exact⟨ho _ d,z,ne,k _ _ (.inl rfl) e,mA,⟨od,es,ep,k _ _ (.inr d) e2,c⟩,r⟩
 | own y=>obtain⟨ob,e⟩:=x;exact⟨ob,k _ _ (.inl rfl) e⟩
 | xd fs=>obtain⟨mA,⟨od,es,ep,e,c⟩,r⟩:=x;exact⟨mA,⟨od,es,ep,k _ _ (.inl rfl) e,c⟩,r⟩
 | rng lo hi=>obtain⟨t,u,v,e⟩:=x;exact⟨t,u,v,k _ _ (.inl rfl) e⟩
 | frz ob u ih=>obtain⟨e,q⟩:=x;exact⟨k _ _ (.inl rfl) e,ih q⟩
 | tbl ps=> have e:h.get? a=some {cls:= .none,data:= .fields ps}:=x;show h'.get? a=some {cls:= .none,data:= .fields ps};exact k a _ (.inl rfl) e
 | met f y=> have e:h.get? a=some (F9 (.ref f) (.ref y)):=x;show h'.get? a=some (F9 (.ref f) (.ref y));exact k a _ (.inl rfl) e
 | ext φ=>obtain⟨p,⟨o,e⟩,st⟩:=x;exact⟨st _ _ p λo q=>k _ _ (.inl rfl) q,⟨o,k _ _ (.inl rfl) e⟩,st⟩
theorem HOk.lt(x:HOk P w H h)(e:H a=some o):a<h.objs.size:=(x a o e).lt
theorem HOk.fresh(x:HOk P w H h)(e:h.objs.size≤a):H a=none:=by
 cases q:H a with
 | none=>rfl
 | some u=>exact absurd (A8 (x.lt q) e) (Cs _)
theorem HOk.kept(x:HOk P w H h)(k:∀b u,h.get? b=some u→h'.get? b=some u):HOk P w H h':=λa o e=>
 (x a o e).stay (λb u _ q=>k b u q) (λ_ q=>q) λ_ _ q=>q
theorem HOk.laid(x:HOk P w H h)(k:∀b u,h.get? b=some u→h'.get? b=some u)(hp:h.objs.size≤a)(new:ObjOk P w (IU H a o) h' a o):HOk P w (IU H a o) h':=λb u e=>by
 have hn:=x.fresh hp;by_cases hb:b=a
 · subst hb;rw[IX] at e;cases e;exact new
 · rw[Ji hb] at e;exact(x b u e).stay (λc v _ q=>k c v q) (λc q=>by rw[Ji (JJ q hn)];exact q) λc xs q=>by rw[Ji (JJ q hn)];exact q
end
def Rd(H:Hp)(a:Addr)(u:HO):Prop:=H a=some u∨∃o,H a=some (.frz o u)
theorem Rd.ok{H:Hp}{u:HO}(r:Rd H a u)(x:HOk P w H h):ObjOk P w H h a u:=by
 rcases r with r | ⟨o,r⟩
 · exact x a u r
 · obtain⟨_,q⟩:=x a _ r;exact q
def Oq:Option HO→Prop
 | some (.lst _)=>True
 | some (.dK _)=>True
 | some (.dT _)=>True
 | some (.set _ _)=>True
 | some (.ins _ _ _)=>True
 | some (.ext _)=>True
 | _=>False
section
variable{H:Hp}{h':Heap}{x e:Addr}{o':HO}
theorem HOk.write(ok:HOk P w H h)(mu:Oq (H x))(he:e=x∨H e=some (.own x))(k:∀b u,b≠e→h.get? b=some u→h'.get? b=some u)(heo:∃u,h'.get? e=some u)
 (new:ObjOk P w (IU H x o') h' x o'):HOk P w (IU H x o') h':=λb u q=>by
 have nown:∀c y,H c=some (.own y)→c≠x:=λc y r z=>by subst z;rw[r] at mu;exact mu
 have ntup:∀c xs,H c=some (.tup xs)→c≠x:=λc xs r z=>by subst z;rw[r] at mu;exact mu
 by_cases hb:b=x
 · subst hb;rw[IX] at q;cases q;exact new
 · rw[Ji hb] at q;by_cases hbe:b=e
   · have q':H b=some (.own x):=by
      rcases he with z | z
      · exact absurd (hbe.trans z) hb
      · rw[hbe];exact z
     rw[q] at q';cases q';obtain⟨v,hv⟩:=heo;exact⟨v,by rw[hbe];exact hv⟩
   · refine(ok b u q).stay (λc v hc r=>k c v ?_ r) (λc r=>by rw[Ji (nown c b r)];exact r) λc xs r=>by rw[Ji (ntup c xs r)];exact r
     rcases hc with rfl | hc
     · exact hbe
     · rintro rfl;rcases he with z | z
       · exact nown c b hc z
       · rw[hc] at z;cases z;exact hb rfl
end
structure Un(fs ex:List Addr)(H H':Hp)(h h':Heap):Prop where
 keep:∀b o,h.get? b=some o→H b=none→b ∉ fs→b ∉ ex→h'.get? b=some o
 slot:∀b o,h.get? b=some o→H b=none→b∈fs→b ∉ ex→∃sl,h'.get? b=some {o with slots:=sl}
 free:∀b o,h.get? b=some o→H b=none→b ∉ ex→H' b=none
 there:∀b o,h.get? b=some o→b ∉ ex→∃o',h'.get? b=some o'
 tups:∀b xs,H b=some (.tup xs)→H' b=some (.tup xs)
 frzs:∀b o u,H b=some (.frz o u)→H' b=some (.frz o u)
 tbls:∀b ps,H b=some (.tbl ps)→∃more,H' b=some (.tbl (ps++more))
section
variable{fs fs' ex ex':List Addr}{H H1 H2:Hp}{h1 h2 h':Heap}{x e:Addr}{o:HO}
theorem Un.any(u:Un fs ex H H1 h h1){ob:Obj}(q:h.get? b=some ob)(n:H b=none)(hx:b ∉ ex):∃sl,h1.get? b=some {ob with slots:=sl}:=by
 by_cases hb:b∈fs
 · exact u.slot b ob q n hb hx
 · exact⟨ob.slots,u.keep b ob q n hb hx⟩
theorem Un.kept(k:∀b u,h.get? b=some u→h'.get? b=some u):Un fs ex H H h h':=
 ⟨λb ob q _ _ _=>k b ob q,λb ob q _ _ _=>⟨ob.slots,k b ob q⟩,λ_ _ _ n _=>n,λb ob q _=>⟨ob,k b ob q⟩,λ_ _ q=>q,λ_ _ _ q=>q,λ_ ps q=>⟨#[],by rw[q];simp⟩⟩
theorem Un.refl:Un fs ex H H h h:=Un.kept λ_ _ q=>q
theorem Un.laid(k:∀b u,h.get? b=some u→h'.get? b=some u)(hp:h.objs.size≤a)(hn:H a=none):Un fs ex H (IU H a o) h h' where
 keep:=λb u q _ _ _=>k b u q
 slot:=λb u q _ _ _=>⟨u.slots,k b u q⟩
 free:=λb u q n _=>by rw[Ji (An (A8 (Ag q) hp))];exact n
 there:=λb u q _=>⟨u,k b u q⟩
 tups:=λb xs q=>by rw[Ji (JJ q hn)];exact q
 frzs:=λb u xs q=>by rw[Ji (JJ q hn)];exact q
 tbls:=λb ps q=>⟨#[],by rw[Ji (JJ q hn),q];simp⟩
theorem Un.write(mu:Oq (H x))(he:e=x∨H e=some (.own x))(k:∀b u,b≠e→h.get? b=some u→h'.get? b=some u)(heo:∃u,h'.get? e=some u):Un fs ex H (IU H x o) h h':=by
 have hx:∀b,H b=none→b≠x:=λb n z=>by subst z;rw[n] at mu;exact mu
 have hb:∀b,H b=none→b≠e:=λb n z=>by
  subst z;rcases he with r | r
  · exact hx b n r
  · rw[n] at r;cases r
 have hm:∀b u,H b=some u→¬Oq (some u)→b≠x:=λb u q nm z=>by subst z;rw[q] at mu;exact nm mu
 refine⟨λb u q n _ _=>k b u (hb b n) q,λb u q n _ _=>⟨u.slots,k b u (hb b n) q⟩,λb u q n _=>by rw[Ji (hx b n)];exact n,λb u q _=>?_,
  λb xs q=>by rw[Ji (hm b _ q λz=>z)];exact q,λb u xs q=>by rw[Ji (hm b _ q λz=>z)];exact q,λb ps q=>⟨#[],by rw[Ji (hm b _ q λz=>z),q];simp⟩⟩
 by_cases hbe:b=e
 · subst hbe;exact heo
 · exact⟨u,k b u hbe q⟩
end
def trk(h:Heap)(H:Hp):List Addr:=(AG h.objs.size).filter λa=>(H a).isSome
def Kk(h:Heap)(H:Hp):Heap:=PySem.W.hideAll h (trk h H)
theorem ZH(h:Heap)(H:Hp):(Kk h H).objs.size=h.objs.size:=PySem.W.hideAll_size _ _
theorem Z5{H:Hp}{o:Obj}(e:h.get? b=some o)(n:H b=none):(Kk h H).get? b=some o:=
 PySem.W.hideAll_get _ e λhm=>by have q:(H b).isSome=true:=(BJ.mp hm).2;rw[n] at q;simp at q
theorem YN{H:Hp}{o:Obj}(e:(Kk h H).get? b=some o):h.get? b=some o∧H b=none:=by
 have e':h.get? b=some o:=PySem.W.of_hideAll (trk h H) e;refine⟨e',?_⟩;cases q:H b with
 | none=>rfl
 | some x=> have hm:b∈trk h H:=BJ.mpr ⟨Be.mpr (Ag e'),by simp[q]⟩;have z:(Kk h H).get? b=none:=PySem.W.hideAll_none (trk h H) hm;rw[z] at e;cases e
def XA(g h:Heap)(L:Addr):List (Addr×Obj):=(AG h.objs.size).filterMap λa=>if a=L∨(g.get? a).isSome=true then none else(h.get? a).map λo=>(a,o)
def rest(g h:Heap)(L d:Addr):List (Addr×Obj):=(XA g h L).filter λp=>decide (p.1≠d)
structure Mod(K:Ae)(mg:Str→Option Value)(base:Heap):Prop where
 kin:K.In base
 glob:base.Ns AH mg
 blt:∃mb,base.Ns builtinsNs mb∧∀x:Str,x≠"__name__"→mb x=Bm x
 nolimit:base.NoLimit
structure Cx where
 prog:Bw
 w:World
 K:Ae
 mg:Str→Option Value
 base:Heap
 A:Cw
 N:List Str
 s₀:Shared
 H₀:Hp
 env:Env
 outer:List Env
 stack:List Env
 ex:List Addr
 fn:Str→Bool
 calm:Bool
 pn:List (Addr×Obj)
 xe:Value→Shared→Prop
def Lv(l:List Env):List Addr:=l.filterMap (·.frame)
abbrev Cx.fs(X:Cx):List Addr:=Lv X.outer
def Po(sc:Scope)(x:Str):Prop:=sc.names.lookup x=some .local∨sc.names.lookup x=some .cell∨sc.names.lookup x=some .free
def Nk(sc:Scope)(x:Str):Prop:=sc.names.lookup x=some .local∨sc.names.lookup x=some .cell
def Sz(env:Env)(h:Heap)(m:Str→Option Value)(x:Str)(u:Value):Prop:=
 (env.kindOf x=some .local∧m x=some u)∨((env.kindOf x=some .cell∨env.kindOf x=some .free)∧∃c,env.cells.lookup x=some c∧h.IsCell c (some u))
structure Cx.Ok(X:Cx):Prop where
 mod:Mod X.K X.mg X.base
 kind:X.env.scope.kind= .function
 glob:X.env.globals=AH
 blt:X.env.builtins=builtinsNs
 above:X.s₀.heap.objs.size≤X.env.locals
 inj:∀x y c,X.env.cells.lookup x=some c→X.env.cells.lookup y=some c→x=y
 has:∀x,(X.env.kindOf x=some .cell∨X.env.kindOf x=some .free)→∃c,X.env.cells.lookup x=some c
 cab:∀x c,X.fn x=true→X.env.cells.lookup x=some c→X.s₀.heap.objs.size≤c
 hd:X.calm=true→X.A.handled=none
 frames:X.A.frames=some X.stack
 stk:X.stack=X.outer∨(X.stack=X.env::X.outer∧X.env.frame=some X.env.locals)
 exf:∀b∈X.ex,b≠X.env.locals∧∀x c,X.env.cells.lookup x=some c→c≠b
 bs:∀b o,X.base.get? b=some o→X.s₀.heap.get? b=some o∧X.H₀ b=none
 bsz:X.base.objs.size≤X.s₀.heap.objs.size
 noex:∀b o,X.base.get? b=some o→b ∉ X.ex
 exfs:∀b∈X.ex,b ∉ X.fs
 funs:X.s₀.heap.FunFrames X.base X.outer
 frf:∀b∈X.fs,X.H₀ b=none
structure Inv(X:Cx)(pins:List (Addr×Obj))(σ:List (Option V))(H:Hp)(s:Shared):Prop where
 ok:X.Ok
 os:s.os=X.s₀.os
 bare:AllBare s.gens
 base:Un X.fs X.ex X.H₀ H X.s₀.heap s.heap
 loc:∃m,s.heap.Ns X.env.locals m∧∀(i:Nat)(x:Str)(v:V),X.N[i]?=some x→σ[i]?=some (some v)→Po X.env.scope x→∃u,RelV v u∧Sz X.env s.heap m x u
 cell:∀x c,X.env.cells.lookup x=some c→∃v,s.heap.IsCell c v
 free:H X.env.locals=none
 freeC:∀x c,X.env.cells.lookup x=some c→H c=none
 pin:∀p∈X.pn++pins,s.heap.get? p.1=some p.2∧H p.1=none∧p.1≠X.env.locals∧p.1 ∉ X.fs∧∀v,p.2.data≠ .cell v
 hok:HOk X.prog X.w H s.heap
 len:σ.length=X.N.length
section
variable{X:Cx}{σ:List (Option V)}{H H':Hp}{h':Heap}
theorem Cx.Ok.nofr(ok:X.Ok){o:Obj}(e:X.base.get? b=some o):b ∉ X.fs:=λhb=>by have:=(ok.funs.mem hb).1;rw[e] at this;cases this
theorem Inv.bs(I:Inv X pins σ H s):∀b o,X.base.get? b=some o→s.heap.get? b=some o∧H b=none:=λb o e=>
 ⟨I.base.keep b o (I.ok.bs b o e).1 (I.ok.bs b o e).2 (I.ok.nofr e) (I.ok.noex b o e),I.base.free b o (I.ok.bs b o e).1 (I.ok.bs b o e).2 (I.ok.noex b o e)⟩
theorem Inv.bk(I:Inv X pins σ H s):∀b o,X.base.get? b=some o→s.heap.get? b=some o:=λb o e=>(I.bs b o e).1
theorem Inv.mod(I:Inv X pins σ H s):Mod X.K X.mg X.base:=I.ok.mod
theorem Inv.kIn(I:Inv X pins σ H s):X.K.In s.heap:=I.ok.mod.kin.keeps I.bk
theorem Inv.lt(I:Inv X pins σ H s):X.env.locals<s.heap.objs.size:=let⟨_,hn,_⟩:=I.loc;hn.lt
theorem Inv.sz(I:Inv X pins σ H s):X.s₀.heap.objs.size≤s.heap.objs.size:=AM I.ok.above (AZ I.lt)
theorem Inv.nofs(I:Inv X pins σ H s)(h:s.heap.objs.size≤a):a ∉ X.fs:=λhb=>by obtain⟨_,o,ho,_⟩:=I.ok.funs.mem hb;exact absurd (A8 (Ag ho) (AM I.sz h)) (Cs _)
theorem Inv.cne(I:Inv X pins σ H s):∀x c,X.env.cells.lookup x=some c→c≠X.env.locals:=λx c e z=>by obtain⟨v,o,ho,hd⟩:=I.cell x c e;obtain⟨m,⟨o',es,ep,ho',hd',_⟩,_⟩:=I.loc;rw[z,ho'] at ho;cases ho;rw[hd'] at hd;cases hd
theorem Inv.funs(I:Inv X pins σ H s):s.heap.FunFrames X.base X.outer:=by
 have all:∀(l:List Env),(∀b∈Lv l,b∈X.fs)→X.s₀.heap.FunFrames X.base l→s.heap.FunFrames X.base l:=by
  intro l
  induction l with
  | nil=>intro _ _;trivial
  | cons env r ih=> intro hs hl;obtain⟨hk,⟨L,o,hf,hn,ho,hd⟩,hr⟩:=hl;have hL:L∈X.fs:=hs L (by unfold Lv;rw[DV,hf];exact Ai);obtain⟨sl,e⟩:=I.base.slot L o ho (I.ok.frf L hL) hL λz=>I.ok.exfs L z hL;exact⟨hk,⟨L,_,hf,hn,e,hd⟩,ih (λb hb=>hs b (by unfold Lv;rw[DV,hf];exact Aj _ hb)) hr⟩
 exact all X.outer (λ_ hb=>hb) I.ok.funs
theorem Inv.stack(I:Inv X pins σ H s):s.heap.FunFrames X.base X.stack:=by
 rcases I.ok.stk with e | ⟨e,hf⟩
 · rw[e];exact I.funs
 · rw[e];obtain⟨m,hn,_⟩:=I.loc;refine .cons (by rw[I.ok.kind];decide) hf hn ?_ I.funs;exact Heap.get?_none_of_le (AM I.ok.bsz I.ok.above)
theorem Inv.stkSub(I:Inv X pins σ H s):∀b∈Lv X.stack,b∈X.env.locals::X.fs:=λb hb=>by
 rcases I.ok.stk with e | ⟨e,hf⟩
 · rw[e] at hb;exact Aj _ hb
 · rw[e] at hb;unfold Lv at hb;rw[DV,hf] at hb;exact hb
theorem Inv.stkFree(I:Inv X pins σ H s):∀b∈Lv X.stack,H b=none:=λb hb=>by
 rcases Ar.mp (I.stkSub b hb) with e | hb
 · rw[e];exact I.free
 · obtain⟨_,o,ho,_⟩:=I.ok.funs.mem hb;exact I.base.free b o ho (I.ok.frf b hb) λz=>I.ok.exfs b z hb
theorem Inv.step{g':Array GenState}{t':Nat}{d':Drawn}{ch:List Addr}(I:Inv X pins σ H s)
 (hch:∀b∈ch,(b∈X.ex∨X.s₀.heap.objs.size≤b)∧b≠X.env.locals∧(∀x c,X.env.cells.lookup x=some c→c≠b)∧∀p∈X.pn++pins,p.1≠b)
 (keep:∀b o,b≠X.env.locals→b ∉ X.fs→b ∉ ch→s.heap.get? b=some o→H b=none→h'.get? b=some o)
 (slot:∀b o,b≠X.env.locals→b∈X.fs→b ∉ ch→s.heap.get? b=some o→H b=none→∃sl,h'.get? b=some {o with slots:=sl}) (free:∀b o,b ∉ ch→s.heap.get? b=some o→H b=none→H' b=none)
 (there:∀b o,b ∉ ch→s.heap.get? b=some o→∃o',h'.get? b=some o')
 (tups:∀b xs,H b=some (.tup xs)→H' b=some (.tup xs)) (frzs:∀b o u,H b=some (.frz o u)→H' b=some (.frz o u)) (tbls:∀b ps,H b=some (.tbl ps)→∃more,H' b=some (.tbl (ps++more)))
 (ns:∀m,s.heap.Ns X.env.locals m→h'.Ns X.env.locals m) (hok:HOk X.prog X.w H' h') (hg:AllBare g'):
 Inv X pins σ H' {s with heap:=h',gens:=g',drawn:=d',toks:=t'}:=by
 have neL:∀b o,X.s₀.heap.get? b=some o→b≠X.env.locals:=λb o e=>An (A8 (Ag e) I.ok.above);have neC:∀b o,X.s₀.heap.get? b=some o→b ∉ X.ex→b ∉ ch:=λb o e hx hb=>by
  rcases(hch b hb).1 with z | z
  · exact hx z
  · exact absurd (A8 (Ag e) z) (Cs _)
 have cellK:∀x c,X.env.cells.lookup x=some c→∀v,s.heap.IsCell c v→h'.IsCell c v:=λx c e v ⟨o,ho,hd⟩=>by
  have nch:c ∉ ch:=λz=>(hch c z).2.2.1 x c e rfl;by_cases hc:c∈X.fs
  · obtain⟨sl,q⟩:=slot c o (I.cne x c e) hc nch ho (I.freeC x c e);exact⟨_,q,hd⟩
  · exact⟨o,keep c o (I.cne x c e) hc nch ho (I.freeC x c e),hd⟩
 refine⟨I.ok,I.os,hg,⟨λb o e n hb hx=>?_,λb o e n hb hx=>?_,λb o e n hx=>?_,λb o e hx=>?_,λb xs e=>tups b xs (I.base.tups b xs e),λb o xs e=>frzs b o xs (I.base.frzs b o xs e),λb ps e=>?_⟩,?_,λx c e=>?_,?_,λx c e=>?_,λp hp=>?_,hok,I.len⟩
 · exact keep b o (neL b o e) hb (neC b o e hx) (I.base.keep b o e n hb hx) (I.base.free b o e n hx)
 · obtain⟨sl,e1⟩:=I.base.slot b o e n hb hx;obtain⟨sl',e2⟩:=slot b _ (neL b o e) hb (neC b o e hx) e1 (I.base.free b o e n hx);exact⟨sl',e2⟩
 · obtain⟨o',e1⟩:=I.base.there b o e hx;exact free b o' (neC b o e hx) e1 (I.base.free b o e n hx)
 · obtain⟨o',e1⟩:=I.base.there b o e hx;exact there b o' (neC b o e hx) e1
 · obtain⟨m1,e1⟩:=I.base.tbls b ps e;obtain⟨m2,e2⟩:=tbls b _ e1;exact⟨m1++m2,by rw[e2,Array.append_assoc]⟩
 · obtain⟨m,hn,hl⟩:=I.loc;refine⟨m,ns m hn,λi x v e1 e2 e3=>?_⟩;obtain⟨u,r,l⟩:=hl i x v e1 e2 e3;refine⟨u,r,?_⟩;rcases l with l | ⟨k,c,e,z⟩
   · exact .inl l
   · exact .inr ⟨k,c,e,cellK x c e _ z⟩
 · obtain⟨v,z⟩:=I.cell x c e;exact⟨v,cellK x c e v z⟩
 · obtain⟨m,⟨o,_,_,ho,_⟩,_⟩:=I.loc;exact free _ o (λz=>(hch _ z).2.1 rfl) ho I.free
 · obtain⟨v,o,ho,hd⟩:=I.cell x c e;exact free c o (λz=>(hch c z).2.2.1 x c e rfl) ho (I.freeC x c e)
 · obtain⟨e,n,ne,nf,d⟩:=I.pin p hp;have nch:p.1 ∉ ch:=λz=>(hch p.1 z).2.2.2 p hp rfl;exact⟨keep p.1 p.2 ne nf nch e n,free p.1 p.2 nch e n,ne,nf,d⟩
theorem Inv.un{t':Nat}(I:Inv X pins σ H s)(u:Un X.fs [] H H' s.heap h')(hok:HOk X.prog X.w H' h'):Inv X pins σ H' {s with heap:=h',toks:=t'}:=by obtain⟨m,⟨o,es,ep,ho,r⟩,_⟩:=id I.loc;obtain⟨sl,hL⟩:=u.any ho I.free (by simp);exact I.step (g':=s.gens) (d':=s.drawn) (ch:=[]) (λ_ z=>nomatch z) (λb o _ hb _ e n=>u.keep b o e n hb (by simp)) (λb o _ hb _ e n=>u.slot b o e n hb (by simp)) (λb o _ e n=>u.free b o e n (by simp)) (λb o _ e=>u.there b o e (by simp)) u.tups u.frzs u.tbls (λm' hm=>by obtain⟨o',es',ep',ho',r'⟩:=hm;rw[ho] at ho';cases ho';exact⟨_,es',ep',hL,r'⟩) hok I.bare
theorem Inv.call{g':Array GenState}{t':Nat}{d':Drawn}{ch:List Addr}(I:Inv X pins σ H s)(u:Un (Lv X.stack) ch H H' s.heap h')(hok:HOk X.prog X.w H' h')(hg:AllBare g')
 (hch:∀b∈ch,(b∈X.ex∨X.s₀.heap.objs.size≤b)∧b≠X.env.locals∧(∀x c,X.env.cells.lookup x=some c→c≠b)∧∀p∈X.pn++pins,p.1≠b):
 Inv X pins σ H' {s with heap:=h',gens:=g',drawn:=d',toks:=t'}:=by
 obtain⟨m,⟨o,es,ep,ho,r⟩,_⟩:=id I.loc;obtain⟨sl,hL⟩:=u.any ho I.free λz=>(hch _ z).2.1 rfl;exact I.step (ch:=ch) hch (λb o hL hb hc e n=>u.keep b o e n (λz=>(Ar.mp (I.stkSub b z)).elim hL hb) hc) (λb o _ _ hc e n=>u.any e n hc) (λb o hc e n=>u.free b o e n hc) (λb o hc e=>u.there b o e hc) u.tups u.frzs u.tbls (λm' hm=>by obtain⟨o',es',ep',ho',r'⟩:=hm;rw[ho] at ho';cases ho';exact⟨_,es',ep',hL,r'⟩) hok hg
theorem Inv.turned{t':Nat}{it:Addr}(I:Inv X pins σ H s)(k:∀b o,b≠it→s.heap.get? b=some o→h'.get? b=some o)(hn:H it=none)(hL:it≠X.env.locals)
 (h1:it∈X.ex∨X.s₀.heap.objs.size≤it) (h2:∀x c,X.env.cells.lookup x=some c→c≠it) (h3:∀p∈X.pn++pins,p.1≠it):Inv X pins σ H {s with heap:=h',toks:=t'}:=by
 have nit:∀b u,H b=some u→b≠it:=λb u e z=>by rw[z,hn] at e;cases e
 refine I.step (g':=s.gens) (d':=s.drawn) (ch:=[it]) (λb hb=>?_) (λb o _ _ hc e _=>k b o (λz=>hc (by simp[z])) e) (λb o _ _ hc e _=>⟨o.slots,k b o (λz=>hc (by simp[z])) e⟩) (λ_ _ _ _ n=>n)
  (λb o hc e=>⟨o,k b o (λz=>hc (by simp[z])) e⟩) (λ_ _ e=>e) (λ_ _ _ e=>e) (λb ps e=>⟨#[],by rw[e];simp⟩) (λm hm=>?_) (λb u e=>?_) I.bare
 · have e:b=it:=by simpa using hb
   subst e;exact⟨h1,hL,h2,h3⟩
 · obtain⟨o,es,ep,ho,r⟩:=hm;exact⟨o,es,ep,k _ o (Bi hL) ho,r⟩
 · refine(I.hok b u e).stay (λc v hc q=>k c v ?_ q) (λ_ q=>q) λ_ _ q=>q;rcases hc with z | z
   · rw[z];exact nit b u e
   · exact nit c _ z
theorem Inv.tok(I:Inv X pins σ H s)(t:Nat):Inv X pins σ H {s with toks:=t}:=I.un (h':=s.heap) (t':=t) Un.refl I.hok
theorem Inv.kept{t':Nat}(I:Inv X pins σ H s)(k:∀b u,s.heap.get? b=some u→h'.get? b=some u):Inv X pins σ H {s with heap:=h',toks:=t'}:=I.un (Un.kept k) (I.hok.kept k)
theorem Inv.laid{o:HO}{t':Nat}(I:Inv X pins σ H s)(k:∀b u,s.heap.get? b=some u→h'.get? b=some u)(hp:s.heap.objs.size≤a)(new:ObjOk X.prog X.w (IU H a o) h' a o):
 Inv X pins σ (IU H a o) {s with heap:=h',toks:=t'}:=I.un (Un.laid k hp (I.hok.fresh hp)) (I.hok.laid k hp new)
theorem Inv.write{x e:Addr}{o:HO}{t':Nat}(I:Inv X pins σ H s)(mu:Oq (H x))(he:e=x∨H e=some (.own x))(k:∀b u,b≠e→s.heap.get? b=some u→h'.get? b=some u)(heo:∃u,h'.get? e=some u)
 (new:ObjOk X.prog X.w (IU H x o) h' x o):Inv X pins σ (IU H x o) {s with heap:=h',toks:=t'}:=I.un (Un.write mu he k heo) (I.hok.write mu he k heo new)
theorem Inv.pins_of{pins':List (Addr×Obj)}(I:Inv X pins σ H s)(h:∀p∈pins',s.heap.get? p.1=some p.2∧H p.1=none∧p.1≠X.env.locals∧p.1 ∉ X.fs∧∀v,p.2.data≠ .cell v):Inv X pins' σ H s:=
 ⟨I.ok,I.os,I.bare,I.base,I.loc,I.cell,I.free,I.freeC,λp hp=>(As.mp hp).elim (λz=>I.pin p (AO _ z)) (h p),I.hok,I.len⟩
theorem UN{N:List Str}(hN:N.Nodup){j:Nat}{x:Str}(a:N[i]?=some x)(b:N[j]?=some x):i=j:=by obtain⟨h1,e1⟩:=Au.mp a;obtain⟨h2,e2⟩:=Au.mp b;exact(List.getElem_inj hN).mp (e1.trans e2.symm)
theorem Ra{M:Model}{A:Cw}{E:Value→Shared→Prop}{x:Str}{v:V}{Q:Unit→Shared→Prop}(I:Inv X pins σ H s)(hN:X.N.Nodup)(hi:X.N[i]?=some x)(hx:Nk X.env.scope x)(r:RelV v u)
 (h:∀s',Inv X pins (σ.set i (some v)) H s'→(∃a,BO a s.heap s'.heap∧(a=X.env.locals∨X.env.cells.lookup x=some a))→Q () s') (hf:X.fn x=true∨X.env.scope.names.lookup x=some .local:=by first | exact .inl rfl | exact .inr rfl | assumption):wpAny M A (storeName X.env x u) Q E s:=by
 obtain⟨m,hn,hl⟩:=id I.loc;have hcls:(X.env.scope.kind== .class || (X.env.scope.kind== .module && X.env.locals !=X.env.globals))=false:=by rw[I.ok.kind];rfl
 have hiσ:i<σ.length:=by rw[I.len];exact(Au.mp hi).1
 have cne:=I.cne;have tracked:∀{a:Addr}{h':Heap},(∃o,s.heap.get? a=some o∧H a=none)→BO a s.heap h'→HOk X.prog X.w H h':=λ{a h'}ha hs b ob e=>by
  obtain⟨_,_,hfree⟩:=ha;refine(I.hok b ob e).stay (λc w' hc q=>(hs.2 c ?_).trans q) (λ_ q=>q) λ_ _ q=>q;rintro rfl;rcases hc with rfl | hc
  · rw[hfree] at e;cases e
  · rw[hfree] at hc;cases hc
 rcases hx with hk | hk
 · refine wpAny_storeName_local hk hn (λh' hn' hs=>?_) hcls;obtain⟨oL,_,_,hoL,_⟩:=id hn;refine h _ ⟨I.ok,I.os,I.bare,⟨λb o e n hb hx=>?_,λb o e n hb hx=>?_,I.base.free,λb o e hx=>?_,I.base.tups,I.base.frzs,I.base.tbls⟩,⟨_,hn',λj y v' e1 e2 e3=>?_⟩,λy c e=>?_,I.free,I.freeC,λp hp=>?_,tracked ⟨oL,hoL,I.free⟩ hs,by simpa using I.len⟩ ⟨_,hs,.inl rfl⟩
   · exact(hs.2 b (An (A8 (Ag e) I.ok.above))).trans (I.base.keep b o e n hb hx)
   · obtain⟨sl,e1⟩:=I.base.slot b o e n hb hx;exact⟨sl,(hs.2 b (An (A8 (Ag e) I.ok.above))).trans e1⟩
   · obtain⟨o',e1⟩:=I.base.there b o e hx;exact⟨o',(hs.2 b (An (A8 (Ag e) I.ok.above))).trans e1⟩
   · by_cases hj:j=i
     · subst hj;rw[hi] at e1;cases e1;rw[Gx hiσ] at e2;cases e2;exact⟨u,r,.inl ⟨hk,by simp⟩⟩
     · rw[GK (Bi hj)] at e2;obtain⟨u',r',q⟩:=hl j y v' e1 e2 e3;refine⟨u',r',?_⟩;rcases q with⟨k,e⟩ | ⟨k,c,e,z⟩
       · refine .inl ⟨k,?_⟩;have:y≠x:=λe=>hj (UN hN e1 (e ▸ hi));simp[this,e]
       · exact .inr ⟨k,c,e,z.sameBut hs (cne y c e)⟩
   · obtain⟨w',z⟩:=I.cell y c e;exact⟨w',z.sameBut hs (cne y c e)⟩
   · obtain⟨e,n,ne,nf,d⟩:=I.pin p hp;exact⟨(hs.2 p.1 ne).trans e,n,ne,nf,d⟩
 · have hfn:X.fn x=true:=by
    rcases hf with z | z
    · exact z
    · rw[z] at hk;cases hk
   obtain⟨c,hc⟩:=I.ok.has x (.inl hk);obtain⟨w',z⟩:=I.cell x c hc;refine wpAny_storeName_cell I.ok.kind hk hc z (λh' hc' hs=>?_);obtain⟨oc,hoc,hocd⟩:=id z;refine h {s with heap:=h'} ⟨I.ok,I.os,I.bare,⟨λb o e n hb hx=>?_,λb o e n hb hx=>?_,I.base.free,λb o e hx=>?_,I.base.tups,I.base.frzs,I.base.tbls⟩,⟨m,hn.sameBut hs (Bi (cne x c hc)),λj y v' e1 e2 e3=>?_⟩,λy c' e=>?_,I.free,I.freeC,λp hp=>?_,tracked ⟨oc,hoc,I.freeC x c hc⟩ hs,by simpa using I.len⟩ ⟨c,hs,.inr hc⟩
   · exact(hs.2 b (An (A8 (Ag e) (I.ok.cab x c hfn hc)))).trans (I.base.keep b o e n hb hx)
   · obtain⟨sl,e1⟩:=I.base.slot b o e n hb hx;exact⟨sl,(hs.2 b (An (A8 (Ag e) (I.ok.cab x c hfn hc)))).trans e1⟩
   · obtain⟨o',e1⟩:=I.base.there b o e hx;exact⟨o',(hs.2 b (An (A8 (Ag e) (I.ok.cab x c hfn hc)))).trans e1⟩
   · by_cases hj:j=i
     · subst hj;rw[hi] at e1;cases e1;rw[Gx hiσ] at e2;cases e2;exact⟨u,r,.inr ⟨.inl hk,c,hc,hc'⟩⟩
     · rw[GK (Bi hj)] at e2;obtain⟨u',r',q⟩:=hl j y v' e1 e2 e3;refine⟨u',r',?_⟩;rcases q with q | ⟨k,c',e,z'⟩
       · exact .inl q
       · refine .inr ⟨k,c',e,z'.sameBut hs ?_⟩;rintro rfl;exact hj (UN hN e1 (I.ok.inj _ _ _ e hc ▸ hi))
   · by_cases hcc:c'=c
     · subst hcc;exact⟨_,hc'⟩
     · obtain⟨w2,z2⟩:=I.cell y c' e;exact⟨w2,z2.sameBut hs hcc⟩
   · obtain⟨e,n,ne,nf,d⟩:=I.pin p hp;refine⟨(hs.2 p.1 ?_).trans e,n,ne,nf,d⟩;intro q;rw[q,hoc] at e;have q':oc=p.2:=AD e;exact d w' (by rw[←q'];exact hocd)
theorem UU{M:Model}{A:Cw}{E:Value→Shared→Prop}{x:Str}{v:V}{Q:Unit→Shared→Prop}(I:Inv X pins σ H s)(hN:X.N.Nodup)(hi:X.N[i]?=some x)(hx:Nk X.env.scope x)(r:RelV v u)
 (h:∀s',Inv X pins (σ.set i (some v)) H s'→Q () s') (hf:X.fn x=true∨X.env.scope.names.lookup x=some .local:=by first | exact .inl rfl | exact .inr rfl | assumption):wpAny M A (storeName X.env x u) Q E s:=
 Ra I hN hi hx r (λs' I' _=>h s' I') hf
theorem Inv.call'{s':Shared}{ch:List Addr}(I:Inv X pins σ H s)(ho:s'.os=s.os)(u:Un (Lv X.stack) ch H H' s.heap s'.heap)(hok:HOk X.prog X.w H' s'.heap)(hg:AllBare s'.gens)
 (hch:∀b∈ch,(b∈X.ex∨X.s₀.heap.objs.size≤b)∧b≠X.env.locals∧(∀x c,X.env.cells.lookup x=some c→c≠b)∧∀p∈X.pn++pins,p.1≠b):Inv X pins σ H' s':=by
 obtain⟨h',g',d',t',o'⟩:=s';have e:o'=s.os:=ho;subst e;exact I.call (g':=g') (t':=t') (d':=d') u hok hg hch
end
abbrev XK:=Value→Option Addr→Hp→Prop
abbrev St:=List (Option V)
abbrev VK:=V→Hp→Prop
abbrev TE:=St→Hp→VK→Prop
abbrev TT:=St→Hp→(Bool→Hp→Prop)→Prop
abbrev TA:=St→Hp→(List V→Hp→Prop)→Prop
structure Ends where
 nx:St→Hp→Prop
 rt:VK
 bk:St→Hp→Prop:=λ_ _=>False
 ct:St→Hp→Prop:=λ_ _=>False
abbrev TS:=Ends→St→Hp→Prop
def EP(X:Cx)(pins:List (Addr×Obj))(σ:St)(Q:VK)(u:Value)(s':Shared):Prop:=∃v H',Inv X pins σ H' s'∧RelV v u∧Q v H'
def TP(X:Cx)(pins:List (Addr×Obj))(σ:St)(Q:Bool→Hp→Prop)(b:Bool)(s':Shared):Prop:=∃H',Inv X pins σ H' s'∧Q b H'
def AP(X:Cx)(pins:List (Addr×Obj))(σ:St)(Q:List V→Hp→Prop)(us:List Value)(s':Shared):Prop:=∃vs H',Inv X pins σ H' s'∧Vals vs us∧Q vs H'
def SP(X:Cx)(pins:List (Addr×Obj))(D:Ends)(f:Flow)(s':Shared):Prop:=
 match f with
 | .next=>∃σ' H',Inv X pins σ' H' s'∧D.nx σ' H'
 | .brk=>∃σ' H',Inv X pins σ' H' s'∧D.bk σ' H'
 | .cont=>∃σ' H',Inv X pins σ' H' s'∧D.ct σ' H'
 | .ret u=>∃v σ' H',Inv X pins σ' H' s'∧RelV v u∧D.rt v H'
def PE(X:Cx)(e:Expr)(t:TE):Prop:=
 ∀(pins:List (Addr×Obj))(s:Shared)(σ:St)(H:Hp)(Q:VK),Inv X pins σ H s→t σ H Q→wpAny (model X.prog X.w) X.A (eval e X.env) (EP X pins σ Q) X.xe s
def PT(X:Cx)(e:Expr)(t:TT):Prop:=
 ∀(pins:List (Addr×Obj))(s:Shared)(σ:St)(H:Hp)(Q:Bool→Hp→Prop),Inv X pins σ H s→t σ H Q→wpAny (model X.prog X.w) X.A (isTrue e X.env (eval e X.env)) (TP X pins σ Q) X.xe s
def PW(X:Cx)(e:Expr)(t:TT):Prop:=
 ∀(whole:Sem Value)(pins:List (Addr×Obj))(s:Shared)(σ:St)(H:Hp)(Q:Bool→Hp→Prop),Inv X pins σ H s→t σ H Q→wpAny (model X.prog X.w) X.A (isTrue e X.env whole) (TP X pins σ Q) X.xe s
theorem PW.pt{X:Cx}{t:TT}(h:PW X e t):PT X e t:=h _
def PA(X:Cx)(es:List Expr)(t:TA):Prop:=
 ∀(pos:Pos)(pins:List (Addr×Obj))(s:Shared)(σ:St)(H:Hp)(Q:List V→Hp→Prop),Inv X pins σ H s→t σ H Q→wpAny (model X.prog X.w) X.A (spliced (backTo pos (A9 es X.env))) (AP X pins σ Q) X.xe s
def PS(X:Cx)(st:Stmt)(t:TS):Prop:=
 ∀(pins:List (Addr×Obj))(s:Shared)(σ:St)(H:Hp)(D:Ends),Inv X pins σ H s→t D σ H→wpAny (model X.prog X.w) X.A (exec st X.env) (SP X pins D) X.xe s
def PSs(X:Cx)(st:List Stmt)(t:TS):Prop:=
 ∀(pins:List (Addr×Obj))(s:Shared)(σ:St)(H:Hp)(D:Ends),Inv X pins σ H s→t D σ H→wpAny (model X.prog X.w) X.A (execs st X.env) (SP X pins D) X.xe s
theorem I_{α:Type}{t:Sem α}{Q Q':α→Shared→Prop}{M:Model}(h:wpAny M A t Q E s)(hQ:∀a s,Q a s→Q' a s):wpAny M A t Q' E s:=AB h hQ λ_ _ x=>x
section
variable{X:Cx}
def Lp(i:Nat):TE:=λσ H Q=>∃v,σ[i]?=some (some v)∧Q v H
def tC(v:V):TE:=λ_ H Q=>Q v H
theorem Ys{x:Str}{pos:Pos}(hN:X.N[i]?=some x)(hv:Po X.env.scope x)(hd:(x==("__debug__":Str))=false:=by decide)(hcd:(x==("__classdict__":Str))=false:=by decide):PE X (.Name x pos) (Lp i):=by
 intro pins s σ H Q I h;obtain⟨v,e,h⟩:=h;obtain⟨m,hn,hl⟩:=I.loc;obtain⟨u,r,l⟩:=hl i x v hN e hv;have fin:EP X pins σ Q u s:=⟨v,H,I,r,h⟩;rcases l with⟨hk,hm⟩ | ⟨hk,c,hc,hcell⟩
 · exact wpAny_Name (wpAny_loadName_local I.ok.kind hk hn hm fin) hd
 · rcases hk with hk | hk
   · exact wpAny_Name (wpAny_loadName_cell I.ok.kind hk hc hcell fin) hd
   · exact wpAny_Name (wpAny_loadName_free I.ok.kind hk hc hcell fin hcd) hd
theorem IV{i j pos}:PE X (.Constant (.int i) j pos) (tC (.int i)):=λ_ _ _ H _ I h=>wpAny_Constant_int ⟨.int i,H,I.tok _,⟨_,rfl⟩,h⟩
theorem J_{b j pos}:PE X (.Constant (.bool b) j pos) (tC (.bl b)):=λ_ _ _ H _ I h=>Constant_bool ⟨.bl b,H,I,rfl,h⟩
theorem Oy{j pos}:PE X (.Constant .none j pos) (tC .non):=λ_ _ _ H _ I h=>Constant_none ⟨.non,H,I,rfl,h⟩
theorem Nv{x j pos}:PE X (.Constant (.str x) j pos) (tC (.str x)):=λ_ _ _ H _ I h=>Calls.Constant_str ⟨.str x,H,I.tok _,⟨_,rfl⟩,h⟩
def Gl(X:Cx)(x:Str):Prop:=X.env.kindOf x=some .globalImplicit
theorem TW{E:Value→Shared→Prop}{σ:St}{H:Hp}{x:Str}{pos:Pos}{Q:Value→Shared→Prop}(I:Inv X pins σ H s)(hg:Gl X x)(hm:X.mg x=some u)(h:Q u s)
 (hd:(x==("__debug__":Str))=false:=by decide):wpAny (model X.prog X.w) X.A (eval (.Name x pos) X.env) Q E s:=
 Fq I.ok.kind hg (Calls.loadGlobal_global (by rw[I.ok.glob];exact I.mod.glob.keeps I.bk) hm h) hd
theorem K2{E:Value→Shared→Prop}{σ:St}{H:Hp}{x:Str}{pos:Pos}{Q:Value→Shared→Prop}(I:Inv X pins σ H s)(hg:Gl X x)(hm:X.mg x=none)(hv:Bm x=some u)(h:Q u s)
 (hn:x≠"__name__":=by decide) (hd:(x==("__debug__":Str))=false:=by decide):wpAny (model X.prog X.w) X.A (eval (.Name x pos) X.env) Q E s:=by
 obtain⟨mb,h1,h2⟩:=I.mod.blt;exact Fq I.ok.kind hg (Calls.loadGlobal_builtin (by rw[I.ok.glob];exact I.mod.glob.keeps I.bk) hm (by rw[I.ok.blt];exact h1.keeps I.bk) ((h2 x hn).trans hv) h) hd
theorem O2{x:Str}{v:V}{pos:Pos}(hg:Gl X x)(hm:X.mg x=some u)(r:RelV v u)(hd:(x==("__debug__":Str))=false:=by decide):PE X (.Name x pos) (tC v):=
 λ_ _ _ H _ I h=>TW I hg hm ⟨v,H,I,r,h⟩ hd
theorem JO{x:Str}{v:V}{pos:Pos}(hg:Gl X x)(hm:X.mg x=none)(hv:Bm x=some u)(r:RelV v u)(hn:x≠"__name__":=by decide)(hd:(x==("__debug__":Str))=false:=by decide):PE X (.Name x pos) (tC v):=
 λ_ _ _ H _ I h=>K2 I hg hm hv ⟨v,H,I,r,h⟩ hn hd
variable{a b:Expr}{ta tb:TE}{pos:Pos}
def PC(X:Cx)(op:CmpOp)(a b:Expr)(t:TE):Prop:=
 ∀(pins:List (Addr×Obj))(s:Shared)(σ:St)(H:Hp)(Q:VK),Inv X pins σ H s→t σ H Q→
  wpAny (model X.prog X.w) X.A (eval a X.env) (λv s₁=>wpAny (model X.prog X.w) X.A (eval b X.env) (λu s₂=>wpAny (model X.prog X.w) X.A (BN op v u) (EP X pins σ Q) X.xe s₂) X.xe s₁) X.xe s
theorem UM(b:Expr){op:CmpOp}(h:op≠ .In)(h2:op≠ .NotIn):behindInMarks op b=false:=by
 have e1:(op==CmpOp.In)=false:=by cases op<;>first | rfl | exact absurd rfl h
 have e2:(op==CmpOp.NotIn)=false:=by cases op<;>first | rfl | exact absurd rfl h2
 cases b<;>simp[behindInMarks,e1,e2]
def RH(ta:TE):TE:=λσ H Q=>ta σ H λx H1=>Q (.bl (decide (x= .non))) H1
def Xs(ta:TE):TE:=λσ H Q=>ta σ H λx H1=>Q (.bl (!decide (x= .non))) H1
theorem RelV.none_iff{x:V}{v:Value}(r:RelV x v):(v==Value.none)=decide (x= .non):=by
 cases x with
 | non=>cases r;rfl
 | bl _=>cases r;rfl
 | int _=>obtain⟨t,rfl⟩:=r;rfl
 | str _=>obtain⟨t,rfl⟩:=r;rfl
 | byt _=>obtain⟨t,rfl⟩:=r;rfl
 | flt _=>obtain⟨t,rfl⟩:=r;rfl
 | ref _=>cases r;rfl
 | ty _=>cases r;rfl
theorem LN{j pos'}(ha:PE X a ta):PC X .Is a (.Constant .none j pos') (RH ta):=by intro pins s σ H Q I h;refine I_ (ha pins s σ H _ I h) λv s1 ⟨x,H1,I1,r1,q1⟩=>?_;exact Constant_none (is_none_gen ⟨.bl _,H1,I1,by rw[r1.none_iff];rfl,q1⟩)
theorem U9{j pos'}(ha:PE X a ta):PC X .IsNot a (.Constant .none j pos') (Xs ta):=by intro pins s σ H Q I h;refine I_ (ha pins s σ H _ I h) λv s1 ⟨x,H1,I1,r1,q1⟩=>?_;exact Constant_none (isnot_none_gen ⟨.bl _,H1,I1,by rw[r1.none_iff];rfl,q1⟩)
def tB(t:TE):TT:=λσ H Q=>t σ H λx H1=>∃c,x= .bl c∧Q c H1
theorem M3{op:CmpOp}{t:TE}(h:PC X op a b t)(h1:behindInMarks op b=false:=by first | exact UM _ (by decide) (by decide) | rfl):PE X (.Compare a [op] [b] pos) t:=λpins s σ H Q I hw=>wpAny_Compare1 (h pins s σ H Q I hw) h1
theorem MP{op:CmpOp}{t:TE}(h:PC X op a b t)(h1:behindInMarks op b=false:=by first | exact UM _ (by decide) (by decide) | rfl):PT X (.Compare a [op] [b] pos) (tB t):=by intro pins s σ H Q I hw;refine wpAny_isTrue_Compare1 (I_ (h pins s σ H _ I hw) λv s1 h1=>I_ h1 λu s2 h2=>I_ h2 λc s3 ⟨x,H1,I1,r1,q1⟩=>?_) h1;obtain⟨d,rfl,q⟩:=q1;cases r1;exact BP ⟨H1,I1,q⟩
theorem JQ{t:TE}(h:PE X e t)(he:∀whole,isTrue e X.env whole=(do let v ←whole;standAt e.pos;holding [v] (truthy v)):=by intro _;rfl):PT X e (tB t):=by intro pins s σ H Q I hw;refine isTrue_plain (I_ (h pins s σ H _ I hw) λv s1 ⟨x,H1,I1,r1,q1⟩=>?_) (he _);obtain⟨d,rfl,q⟩:=q1;cases r1;exact BP ⟨H1,I1,q⟩
variable{tA tB':TT}{rest:List Expr}
def RL(t u:TT):TT:=λσ H Q=>t σ H λc H1=>if c=true then u σ H1 Q else Q false H1
def tOr(t u:TT):TT:=λσ H Q=>t σ H λc H1=>if c=true then Q true H1 else u σ H1 Q
def RE(t:TT):TT:=λσ H Q=>t σ H λc H1=>Q (!c) H1
theorem O3(ha:PT X a tA):PW X (.BoolOp .And [a] pos) tA:=by
 intro wh pins s σ H Q I h;refine isTrue_and (I_ (ha pins s σ H Q I h) λc s1 e=>?_);cases c with
 | true=>exact isTrue_and_nil e
 | false=>exact e
theorem KI(ha:PT X a tA):PW X (.BoolOp .Or [a] pos) tA:=by
 intro wh pins s σ H Q I h;refine isTrue_or (I_ (ha pins s σ H Q I h) λc s1 e=>?_);cases c with
 | false=>exact isTrue_or_nil e
 | true=>exact e
theorem Oz(ha:PT X a tA)(hb:PW X (.BoolOp .And (b::rest) pos) tB'):PW X (.BoolOp .And (a::b::rest) pos) (RL tA tB'):=by
 intro wh pins s σ H Q I h;refine isTrue_and (I_ (ha pins s σ H _ I h) λc s1 ⟨H1,I1,q1⟩=>?_);cases c with
 | true=>exact hb wh pins s1 σ H1 Q I1 q1
 | false=>exact⟨H1,I1,q1⟩
theorem KE(ha:PT X a tA)(hb:PW X (.BoolOp .Or (b::rest) pos) tB'):PW X (.BoolOp .Or (a::b::rest) pos) (tOr tA tB'):=by
 intro wh pins s σ H Q I h;refine isTrue_or (I_ (ha pins s σ H _ I h) λc s1 ⟨H1,I1,q1⟩=>?_);cases c with
 | true=>exact⟨H1,I1,q1⟩
 | false=>exact hb wh pins s1 σ H1 Q I1 q1
theorem Ka(ha:PT X a tA):PT X (.UnaryOp .Not a pos) (RE tA):=by intro pins s σ H Q I h;exact isTrue_not (ha pins s σ H (λc H1=>Q (!c) H1) I h)
def Xn(ta tb:TE):TE:=λσ H Q=>ta σ H λx H1=>∃c,x= .bl c∧if c=true then tb σ H1 Q else Q (.bl false) H1
def NK(ta tb:TE):TE:=λσ H Q=>ta σ H λx H1=>∃c,x= .bl c∧if c=true then Q (.bl true) H1 else tb σ H1 Q
def Xt(ta:TE):TE:=λσ H Q=>ta σ H λx H1=>∃c,x= .bl c∧Q (.bl (!c)) H1
theorem Kp{op}{t:TE}(h:PE X a t):PE X (.BoolOp op [a] pos) t:=λpins s σ H Q I hw=>BoolOp_one (h pins s σ H Q I hw)
theorem K3(ha:PE X a ta)(hb:PE X (.BoolOp .And (b::rest) pos) tb):PE X (.BoolOp .And (a::b::rest) pos) (Xn ta tb):=by
 intro pins s σ H Q I h;refine BoolOp_and (I_ (ha pins s σ H _ I h) λv s1 ⟨x,H1,I1,r1,q1⟩=>?_);obtain⟨c,rfl,q1⟩:=q1;cases r1;refine BP ?_;cases c with
 | true=>exact hb pins s1 σ H1 Q I1 q1
 | false=>exact⟨.bl false,H1,I1,rfl,q1⟩
theorem Nr(ha:PE X a ta)(hb:PE X (.BoolOp .Or (b::rest) pos) tb):PE X (.BoolOp .Or (a::b::rest) pos) (NK ta tb):=by
 intro pins s σ H Q I h;refine BoolOp_or (I_ (ha pins s σ H _ I h) λv s1 ⟨x,H1,I1,r1,q1⟩=>?_);obtain⟨c,rfl,q1⟩:=q1;cases r1;refine BP ?_;cases c with
 | false=>exact hb pins s1 σ H1 Q I1 q1
 | true=>exact⟨.bl true,H1,I1,rfl,q1⟩
theorem Yq(ha:PE X a ta):PE X (.UnaryOp .Not a pos) (Xt ta):=by intro pins s σ H Q I h;refine UnaryOp_ (I_ (ha pins s σ H _ I h) λv s1 ⟨x,H1,I1,r1,q1⟩=>?_);obtain⟨c,rfl,q1⟩:=q1;cases r1;exact not_of (BP ⟨.bl (!c),H1,I1,rfl,q1⟩)
def tIf(t:TT)(ta tb:TE):TE:=λσ H Q=>t σ H λc H1=>if c=true then ta σ H1 Q else tb σ H1 Q
theorem OM{c:Expr}(hc:PT X c tA)(ha:PE X a ta)(hb:PE X b tb):PE X (.IfExp c a b pos) (tIf tA ta tb):=by
 intro pins s σ H Q I h;refine wpAny_IfExp (I_ (hc pins s σ H _ I h) λd s1 ⟨H1,I1,q1⟩=>?_);cases d with
 | true=>exact ha pins s1 σ H1 Q I1 q1
 | false=>exact hb pins s1 σ H1 Q I1 q1
end
def SqL(K:Ae)(H:Hp)(a:Addr)(xs:List V):Prop:=
 Rd H a (.lst xs)∨
  ∃(o:Obj)(its:Array Value)(n:Nat),K.lookup a=some o∧o.cls= .type "list"∧o.dict=none∧o.data= .seq its n∧its.size≤Az∧Vals xs its.toList
def SqT(K:Ae)(H:Hp)(a:Addr)(xs:List V):Prop:=
 Rd H a (.tup xs)∨
  ∃(o:Obj)(its:Array Value)(n:Nat),K.lookup a=some o∧o.cls= .type "tuple"∧o.data= .seq its n∧its.size≤Az∧Vals xs its.toList
def Sv:Value→Option V
 | .none=>some .non
 | .bool b=>some (.bl b)
 | .int i _=>some (.int i)
 | .str x _=>some (.str x)
 | .bytes b _=>some (.byt b)
 | .float b _=>some (.flt b)
 | .ref a=>some (.ref a)
 | .type n=>some (.ty n)
 | _=>none
theorem RelV.abs{x:V}(r:RelV x u):Sv u=some x:=by
 cases x with
 | non=>cases r;rfl
 | bl _=>cases r;rfl
 | int _=>obtain⟨t,rfl⟩:=r;rfl
 | str _=>obtain⟨t,rfl⟩:=r;rfl
 | byt _=>obtain⟨t,rfl⟩:=r;rfl
 | flt _=>obtain⟨t,rfl⟩:=r;rfl
 | ref _=>cases r;rfl
 | ty _=>cases r;rfl
theorem RelV.inj{x y:V}(r:RelV x u)(q:RelV y u):x=y:=AD (r.abs.symm.trans q.abs)
theorem l0{α:Type}{P:List α→Prop}(h:P []):∀us:List α,us.length=0→P us
 | [],_=>h
theorem lS{α:Type}{n:Nat}{P:List α→Prop}(h:∀a us,us.length=n→P (a::us)):∀us:List α,us.length=n+1→P us
 | a::us,e=>h a us (Nat.succ.inj e)
theorem Vals.inj:∀{xs ys:List V}{us:List Value},Vals xs us→Vals ys us→xs=ys
 | _,_,_,.nil,.nil=>rfl
 | _,_,_,.cons r t,.cons r' t'=>by rw[r.inj r',Vals.inj t t']
section
variable{X:Cx}{σ:St}{H:Hp}{xs ys:List V}
theorem SqL.of{K:Ae}(h:H a=some (.lst xs)):SqL K H a xs:= .inl (.inl h)
theorem SqT.of{K:Ae}(h:H a=some (.tup xs)):SqT K H a xs:= .inl (.inl h)
theorem Inv.list(I:Inv X pins σ H s)(h:SqL X.K H a xs):∃its:List Value,Vals xs its∧PlainL s.heap a its.toArray∧xs.length≤Az:=by
 rcases h with h | ⟨o,its,n,hk,hc,hd,hs,hz,r⟩
 · obtain⟨z,its,n,r,e⟩:=h.ok I.hok;exact⟨its,r,⟨_,n,e,rfl,rfl,rfl⟩,z⟩
 · refine⟨its.toList,r,⟨o,n,I.kIn a o hk,hc,hd,by simpa using hs⟩,?_⟩;have e:=r.length;simp only[Ah] at e;omega
theorem Inv.tuple(I:Inv X pins σ H s)(h:SqT X.K H a xs):∃its:List Value,Vals xs its∧IsTup s.heap a its.toArray∧xs.length≤Az:=by
 rcases h with h | ⟨o,its,n,hk,hc,hs,hz,r⟩
 · obtain⟨z,its,r,p⟩:=h.ok I.hok;exact⟨its,r,p.tup,z⟩
 · refine⟨its.toList,r,⟨o,I.kIn a o hk,hc,n,by simpa using hs⟩,?_⟩;have e:=r.length;simp only[Ah] at e;omega
theorem Inv.list_inj(I:Inv X pins σ H s)(h:SqL X.K H a xs)(h':SqL X.K H a ys):xs=ys:=by
 obtain⟨its,r,⟨o,n,e,_,_,d⟩,_⟩:=I.list h;obtain⟨its',r',⟨o',n',e',_,_,d'⟩,_⟩:=I.list h';rw[e] at e';cases e';rw[d] at d';injection d' with d1 _;have:its=its':=by simpa using congrArg Array.toList d1
 subst this;exact r.inj r'
theorem Inv.tuple_inj(I:Inv X pins σ H s)(h:SqT X.K H a xs)(h':SqT X.K H a ys):xs=ys:=by
 obtain⟨its,r,⟨o,e,_,n,d⟩,_⟩:=I.tuple h;obtain⟨its',r',⟨o',e',_,n',d'⟩,_⟩:=I.tuple h';rw[e] at e';cases e';rw[d] at d';injection d' with d1 _;have:its=its':=by simpa using congrArg Array.toList d1
 subst this;exact r.inj r'
end
abbrev Cx.wish(X:Cx)(E:Value→Shared→Prop):Cx:={X with xe:=E}
abbrev Cx.nox(X:Cx):Cx:=X.wish λ_ _=>False
theorem Cx.Ok.wish{X:Cx}(ok:X.Ok)(E:Value→Shared→Prop):(X.wish E).Ok:=
 ⟨ok.mod,ok.kind,ok.glob,ok.blt,ok.above,ok.inj,ok.has,ok.cab,ok.hd,ok.frames,ok.stk,ok.exf,ok.bs,ok.bsz,ok.noex,ok.exfs,ok.funs,ok.frf⟩
theorem Cx.Ok.unwish{X:Cx}(ok:(X.wish E).Ok):X.Ok:=
 ⟨ok.mod,ok.kind,ok.glob,ok.blt,ok.above,ok.inj,ok.has,ok.cab,ok.hd,ok.frames,ok.stk,ok.exf,ok.bs,ok.bsz,ok.noex,ok.exfs,ok.funs,ok.frf⟩
section
variable{X:Cx}{σ:St}{H:Hp}
theorem Inv.wish(I:Inv X pins σ H s)(E:Value→Shared→Prop):Inv (X.wish E) pins σ H s:=⟨I.ok.wish E,I.os,I.bare,I.base,I.loc,I.cell,I.free,I.freeC,I.pin,I.hok,I.len⟩
theorem Inv.unwish(I:Inv (X.wish E) pins σ H s):Inv X pins σ H s:=⟨I.ok.unwish,I.os,I.bare,I.base,I.loc,I.cell,I.free,I.freeC,I.pin,I.hok,I.len⟩
theorem SP.unwish{D:Ends}{f:Flow}{s':Shared}(h:SP (X.wish E) pins D f s'):SP X pins D f s':=by
 cases f with
 | next=>obtain⟨σ',H',I,q⟩:=h;exact⟨σ',H',I.unwish,q⟩
 | brk=>obtain⟨σ',H',I,q⟩:=h;exact⟨σ',H',I.unwish,q⟩
 | cont=>obtain⟨σ',H',I,q⟩:=h;exact⟨σ',H',I.unwish,q⟩
 | ret u=>obtain⟨v,σ',H',I,r,q⟩:=h;exact⟨v,σ',H',I.unwish,r,q⟩
theorem PSs.nox{st:List Stmt}{t:TS}(h:PSs X.nox st t):PSs X st t:=λpins s σ H D I hw=> AB (h pins s σ H D (I.wish _) hw) (λ_ _ q=>q.unwish) λ_ _ z=>Dp z
end
section
variable{X:Cx}{st:Stmt}{rest:List Stmt}{t u:TS}{te:TE}{pos:Pos}
def Xr:TS:=λD σ H=>D.nx σ H
def Lq(t u:TS):TS:=λD σ H=>t {D with nx:=u D} σ H
theorem Jz:PSs X [] Xr:=λ_ _ σ H _ I h=>EJ ⟨σ,H,I,h⟩
theorem IZ(h1:PS X st t)(h2:PSs X rest u):PSs X (st::rest) (Lq t u):=by
 intro pins s σ H D I h;refine wpAny_execs_cons (I_ (h1 pins s σ H {D with nx:=u D} I h) λf s1 q=>?_)
 cases f with
 | next=> obtain⟨σ',H',I',q⟩:=q;exact h2 pins s1 σ' H' D I' q
 | ret v=>exact q
 | brk=>exact q
 | cont=>exact q
theorem Jb(h1:PS X st t):PSs X [st] t:=by
 intro pins s σ H D I h;refine wpAny_execs_cons (I_ (h1 pins s σ H D I h) λf s1 q=>?_);cases f with
 | next=>exact EJ q
 | ret v=>exact q
 | brk=>exact q
 | cont=>exact q
theorem Inv.quiet{σ:St}{H:Hp}(I:Inv X pins σ H s):interactive X.env=false:=by simp[interactive,I.ok.kind]
def Xq(te:TE):TS:=λD σ H=>te σ H λ_ H1=>D.nx σ H1
theorem Kv(he:PE X e te)(hs:swapsWith e none pos.line X.env=pure false:=by rfl):PS X (.Expr e pos) (Xq te):=by intro pins s σ H D I h;exact wpAny_Expr_any (I_ (he pins s σ H _ I h) λv s1 ⟨x,H1,I1,r1,q1⟩=>⟨σ,H1,I1,q1⟩) I.quiet hs
def RD(te:TE):TS:=λD σ H=>te σ H D.rt
theorem Jl(he:PE X e te):PS X (.Return (some e) pos) (RD te):=by intro pins s σ H D I h;exact wpAny_Return_some (I_ (he pins s σ H _ I h) λv s1 ⟨x,H1,I1,r1,q1⟩=>⟨x,σ,H1,I1,r1,q1⟩)
def RI(c:TT)(t u:TS):TS:=λD σ H=>c σ H λb H1=>if b=true then t D σ H1 else u D σ H1
theorem J0{c:Expr}{a b:List Stmt}{tc:TT}(hc:PT X c tc)(ha:PSs X a t)(hb:PSs X b u):PS X (.If c a b pos) (RI tc t u):=by
 intro pins s σ H D I h;refine wpAny_If (I_ (hc pins s σ H _ I h) λd s1 ⟨H1,I1,q1⟩=>?_);cases d with
 | true=>exact ha pins s1 σ H1 D I1 q1
 | false=>exact hb pins s1 σ H1 D I1 q1
def Yj:TS:=λ_ _ _=>False
theorem OH:PS X st Yj:=λ_ _ _ _ _ _ h=>h.elim
end
abbrev TG:=V→St→Hp→(St→Hp→Prop)→Prop
abbrev Mr:=List V→St→Hp→(St→Hp→Prop)→Prop
def PG(X:Cx)(target:Expr)(t:TG):Prop:=
 ∀(pins:List (Addr×Obj))(s:Shared)(σ:St)(H:Hp)(v:V)(u:Value)(Q:St→Hp→Prop),Inv X pins σ H s→RelV v u→t v σ H Q→
  wpAny (model X.prog X.w) X.A (assign target X.env u) (λ_ s'=>∃σ' H',Inv X pins σ' H' s'∧Q σ' H') X.xe s
def Oo(X:Cx)(ts:List Expr)(t:Mr):Prop:=
 ∀(pins:List (Addr×Obj))(s:Shared)(σ:St)(H:Hp)(vs:List V)(us:List Value)(Q:St→Hp→Prop),Inv X pins σ H s→Vals vs us→t vs σ H Q→
  wpAny (model X.prog X.w) X.A (assignInOrder ((assignEach ts X.env).map (·.2)) us) (λ_ s'=>∃σ' H',Inv X pins σ' H' s'∧Q σ' H') X.xe s
abbrev MI:=V→V→V→Hp→(Hp→Prop)→Prop
def On(X:Cx)(t:MI):Prop:=
 ∀(pins:List (Addr×Obj))(s:Shared)(σ:St)(H:Hp)(o i v:V)(ov iv u:Value)(Q:Hp→Prop),Inv X pins σ H s→RelV o ov→RelV i iv→RelV v u→t o i v H Q→
  wpAny (model X.prog X.w) X.A (setItem ov iv u) (λ_ s'=>∃H',Inv X pins σ H' s'∧Q H') X.xe s
section
variable{X:Cx}{pos:Pos}
def KY(i:Nat):TG:=λv σ H Q=>Q (σ.set i (some v)) H
theorem Jn{x:Str}(hN:X.N.Nodup)(hi:X.N[i]?=some x)(hx:Nk X.env.scope x)(hf:X.fn x=true∨X.env.scope.names.lookup x=some .local:=by first | exact .inl rfl | exact .inr rfl | assumption):PG X (.Name x pos) (KY i):=by intro pins s σ H v u Q I r h;exact FB (UU I hN hi hx r (λs' I'=>⟨_,H,I',h⟩) hf)
def Ss:Mr:=λvs σ H Q=>vs=[]∧Q σ H
def X7(t:TG)(u:Mr):Mr:=λvs σ H Q=>∃v r,vs=v::r∧t v σ H λσ' H'=>u r σ' H' Q
theorem Ku:Oo X [] Ss:=by intro pins s σ H vs us Q I r h;obtain⟨e,h⟩:=h;subst e;cases r;exact assignInOrder_nil ⟨σ,H,I,h⟩
theorem J3{es:List Expr}{t:TG}{u:Mr}(h1:PG X e t)(h2:Oo X es u)
 (hs:(assignEach (e::es) X.env).map (·.2)=assign e X.env::(assignEach es X.env).map (·.2):=by rfl):Oo X (e::es) (X7 t u):=by
 intro pins s σ H vs us Q I r h;obtain⟨v,vr,e1,h⟩:=h;subst e1;cases r with
 | cons r rr=> rw[hs];refine assignInOrder_cons (I_ (h1 pins s σ H _ _ _ I r h) λ_ s1 ⟨σ1,H1,I1,q1⟩=>?_);exact h2 pins s1 σ1 H1 _ _ Q I1 rr q1
def Ol(K:Ae)(n:Nat)(t:Mr):TG:=λv σ H Q=>∃a xs,v= .ref a∧SqT K H a xs∧xs.length=n∧t xs σ H Q
theorem KZ{es:List Expr}{k:Nat}{t:Mr}{n:Nat}(hc:X.calm=true)(h:Oo X es t)
 (hn:(assignEach es X.env).length=n:=by rfl) (hst:(assignEach es X.env).findIdx? (·.1)=none:=by rfl):PG X (.Tuple es k pos) (Ol X.K n t):=by
 intro pins s σ H v u Q I r hw;obtain⟨a,xs,e1,hq,hl,hw⟩:=hw;subst e1;cases r;obtain⟨its,rv,ht,hz⟩:=I.tuple hq;refine assign_Tuple_tuple (I.ok.hd hc) ht (by simp[hn,←hl,rv.length]) hst λh' hx=>?_;have I1:Inv X pins σ H {s with heap:=h'}:=I.kept (t':=s.toks) λb o e=>hx b o (An (Ag e)) e
 exact h pins _ σ H xs _ Q I1 (by simpa using rv) hw
def Sr(to ti:TE)(t:MI):TG:=λv σ H Q=>to σ H λo H1=>ti σ H1 λi H2=>t o i v H2 λH3=>Q σ H3
theorem PV{o i:Expr}{to ti:TE}{t:MI}(ho:PE X o to)(hi:PE X i ti)(hs:On X t)
 (ha:∀v,assign (.Subscript o i pos) X.env v=(do
  let ov ←holding [v] (eval o X.env)
  let iv ←holding [v,ov] (eval i X.env)
  standAt pos
  holding [v,ov,iv] (setItem ov iv v)
  release [v,ov,iv] []):=by intro _;rfl):PG X (.Subscript o i pos) (Sr to ti t):=by
 intro pins s σ H v u Q I r h;rw[ha];refine Aa (AF (I_ (ho pins s σ H _ I h) λov s1 ⟨x,H1,I1,r1,q1⟩=>?_));refine Aa (AF (I_ (hi pins s1 σ H1 _ I1 q1) λiv s2 ⟨y,H2,I2,r2,q2⟩=>?_));refine Aa (BM (Aa (AF (I_ (hs pins s2 σ H2 x y v ov iv u _ I2 r1 r2 r q2) λ_ s3 ⟨H3,I3,q3⟩=>?_))));exact wpAny_release ⟨σ,H3,I3,q3⟩
def KQ(te:TE)(g:TG):TS:=λD σ H=>te σ H λx H1=>g x σ H1 D.nx
theorem L7{tg:Expr}{te:TE}{g:TG}(he:PE X e te)(hg:PG X tg g)(hs:swapsWithSole [tg] e pos.line X.env=pure false:=by rfl)(hw:swappedStores [tg] e X.env=pure none:=by rfl)
 (h1:(assignEach [tg] X.env).map (·.2)=[assign tg X.env]:=by rfl):PS X (.Assign [tg] e pos) (KQ te g):=by
 intro pins s σ H D I h;refine wpAny_Assign_stores (I_ (he pins s σ H _ I h) λv s1 ⟨x,H1,I1,r1,q1⟩=>?_) hs hw;rw[h1];exact I_ (hg pins s1 σ H1 x v _ I1 r1 q1) λ_ s2 q=>q
theorem Jk{x:Str}{te:TE}{pos':Pos}(hN:X.N.Nodup)(hi:X.N[i]?=some x)(hx:Nk X.env.scope x)(he:PE X e te)(hs:swapsWith e (some (.Name x pos')) pos.line X.env=pure false:=by rfl)(hf:X.fn x=true∨X.env.scope.names.lookup x=some .local:=by first | exact .inl rfl | exact .inr rfl | assumption):
 PS X (.Assign [.Name x pos'] e pos) (KQ te (KY i)):=by
 intro pins s σ H D I h;refine wpAny_Assign_Name (I_ (he pins s σ H _ I h) λv s1 ⟨y,H1,I1,r1,q1⟩=>?_) hs;exact UU I1 hN hi hx r1 (λs2 I2=>⟨_,H1,I2,q1⟩) hf
end
section
variable{X:Cx}{pos:Pos}
def T7(c:TT)(tb:TS):TS:=λD σ H=>∃W:Nat→St→Hp→Prop,(∃m,W m σ H)∧∀m σ H,W m σ H→
 c σ H λb H1=>if b=true then ∃N:St→Hp→Prop,(∀σ' H',N σ' H'→∃m',m'<m∧W m' σ' H')∧tb {D with nx:=N,ct:=N,bk:=D.nx} σ H1 else D.nx σ H1
theorem Qq{c:Expr}{body:List Stmt}{tc:TT}{tb:TS}(hp:PassesOwn (model X.prog X.w) X.A X.env X.xe)(hc:PT X c tc)(hb:PSs X body tb):PS X (.While c body [] pos) (T7 tc tb):=by
 intro pins s σ H D I h;obtain⟨W,⟨m0,w0⟩,turn⟩:=h;refine wpAny_While (codeAny_whileLoop (λn s'=>∃σ' H',Inv X pins σ' H' s'∧W n σ' H') ?_ m0 ⟨σ,H,I,w0⟩);rintro n s1 ⟨σ1,H1,I1,w1⟩;refine Di hp (I_ (hc pins s1 σ1 H1 _ I1 (turn n σ1 H1 w1)) λb s2 ⟨H2,I2,q2⟩=>?_);cases b with
 | true=>
  obtain⟨N,hN,q2⟩:=q2;rw[if_pos rfl];refine Di hp (I_ (hb pins s2 σ1 H2 _ I2 q2) λf s3 q3=>?_);cases f with
  | next=> obtain⟨σ3,H3,I3,n3⟩:=q3;obtain⟨m',hm,w3⟩:=hN σ3 H3 n3;exact⟨m',hm,σ3,H3,I3,w3⟩
  | cont=> obtain⟨σ3,H3,I3,n3⟩:=q3;obtain⟨m',hm,w3⟩:=hN σ3 H3 n3;exact⟨m',hm,σ3,H3,I3,w3⟩
  | brk=>exact q3
  | ret v=>exact q3
 | false=> rw[if_neg A3];exact EJ ⟨σ1,H2,I2,q2⟩
end
structure It where
 go:Nat→Hp→Prop
 yld:Nat→Hp→V→Hp→Prop
 stop:Nat→Hp→Prop
def Je(X:Cx)(pins:List (Addr×Obj))(H:Hp)(b:Addr):Prop:=
 H b=none∧b≠X.env.locals∧b ∉ X.fs∧(b∈X.ex∨X.s₀.heap.objs.size≤b)∧(∀x c,X.env.cells.lookup x=some c→c≠b)∧∀p∈X.pn++pins,p.1≠b
theorem Inv.fpOk{X:Cx}{σ:St}{H H':Hp}(I:Inv X pins σ H s)(hb:s.heap.objs.size≤b)(hn:H' b=none):Je X pins H' b:=by
 refine⟨hn,AV (A8 I.lt hb),I.nofs hb,.inr (AM I.sz hb),λx c e z=>?_,λp hp z=>?_⟩
 · obtain⟨v,q⟩:=I.cell x c e;exact absurd (A8 q.lt (by rw[z];exact hb)) (Cs _)
 · exact absurd (A8 (Ag (I.pin p hp).1) (by rw[z];exact hb)) (Cs _)
structure Turn(P:Bw)(w:World)(K:Ae)(tg:Expr)(J:It)(fp:List Addr)(it:Addr)(tn:Nat→Heap→Prop):Prop where
 mem:it∈fp
 obj:∀i h,tn i h→∀b∈fp,∃o,h.get? b=some o∧∀v,o.data≠ .cell v
 keep:∀i h h',tn i h→(∀b∈fp,∀o,h.get? b=some o→h'.get? b=some o)→tn i h'
 item:∀(X:Cx),X.prog=P→X.w=w→X.K=K→X.calm=true→∀(i:Nat)(pins:List (Addr×Obj))(s:Shared)(σ:St)(H:Hp)(E:Value→Shared→Prop),Inv X pins σ H s→(∀b∈fp,Je X pins H b)→tn i s.heap→J.go i H→
  wpAny (model P w) X.A (pyNext (.ref it)) (λr s1=>∃u,r=some u∧
   wpAny (model P w) X.A (Co tg (.ref it) u) (λ_ s2=>∃x H',Inv X pins σ H' s2∧RelV x u∧J.yld i H x H'∧tn (i+1) s2.heap∧∀b∈fp,H' b=none) E s1) E s
 done:∀(X:Cx),X.prog=P→X.w=w→X.K=K→X.calm=true→∀(i:Nat)(pins:List (Addr×Obj))(s:Shared)(σ:St)(H:Hp)(E:Value→Shared→Prop),Inv X pins σ H s→(∀b∈fp,Je X pins H b)→tn i s.heap→J.stop i H→
  wpAny (model P w) X.A (pyNext (.ref it)) (λr s1=>r=none∧Inv X pins σ H s1) E s
 self:∀(A:Cw)(i:Nat)(s:Shared)(Q:Value→Shared→Prop)(E:Value→Shared→Prop),tn i s.heap→Q (.ref it) s→wpAny (model P w) A (pyIter (.ref it)) Q E s
abbrev TI:=St→Hp→(It→Hp→Prop)→Prop
def WE(X:Cx)(pins:List (Addr×Obj))(σ:St)(tg:Expr)(R:It→Hp→Prop)(itv:Value)(s2:Shared):Prop:=
 ∃(it:Addr)(fp:List Addr)(tn:Nat→Heap→Prop)(J:It)(H':Hp),itv= .ref it∧Inv X pins σ H' s2∧Turn X.prog X.w X.K tg J fp it tn∧tn 0 s2.heap∧(∀b∈fp,Je X pins H' b)∧R J H'
def PI(X:Cx)(tg iter:Expr)(wi:TI):Prop:=
 ∀(pins:List (Addr×Obj))(s:Shared)(σ:St)(H:Hp)(R:It→Hp→Prop),Inv X pins σ H s→wi σ H R→
  wpAny (model X.prog X.w) X.A (eval iter X.env) (λv s1=>wpAny (model X.prog X.w) X.A (pyIter v) (WE X pins σ tg R) X.xe s1) X.xe s
theorem Nq{M:Model}{A:Cw}{E:Value→Shared→Prop}{tg:Expr}{it:Addr}{u:Value}{o:Obj}{n:String}{vs:Array Value}{Q:Unit→Shared→Prop}(ho:s.heap.get? it=some o)(hc:o.cls= .type n)(hd:o.data= .fields vs)
 (hn:["enumerate","zip","dict_itemiterator","dict_reverseitemiterator","odict_iterator","itertools.zip_longest","itertools.pairwise"].contains n=false) (hQ:Q () s):wpAny M A (Co tg (.ref it) u) Q E s:=by
 unfold Co;cases tg<;>first
  | exact Ac hQ
  | (cases u<;>first
   | exact Ac hQ
   | (refine Aa (wpAny_load ho ?_)
      rw[hc,hd];show wpAny M A (if(["enumerate","zip","dict_itemiterator","dict_reverseitemiterator","odict_iterator","itertools.zip_longest","itertools.pairwise"].contains n && vs[0]?==some (rawInt _))=true then _ else _) Q E s
      rw[if_neg (by intro h;rw[hn,Bool.false_and] at h;cases h)];exact Ac hQ))
def Lz(K:Ae)(a:Addr):It:=
 ⟨λi H=>∃xs x,SqL K H a xs∧xs[i]?=some x,λi H x H'=>H'=H∧∀xs,SqL K H a xs→xs[i]?=some x,λi H=>∃xs,SqL K H a xs∧xs.length≤i⟩
def Mu(K:Ae)(a:Addr):It:=
 ⟨λi H=>∃xs x,SqT K H a xs∧xs[i]?=some x,λi H x H'=>H'=H∧∀xs,SqT K H a xs→xs[i]?=some x,λi H=>∃xs,SqT K H a xs∧xs.length≤i⟩
def Mv(lo:Int)(n:Nat):It:=⟨λi _=>i<n,λi H x H'=>H'=H∧x= .int (lo+i),λi _=>n≤i⟩
theorem zjf{K:Ae}{tg:Expr}(a it:Addr):Turn P w K tg (Lz K a) [it] it (λi h=>h.IsListIter it a i) where
 mem:=by simp
 obj:=λi h st b hb=>by
  have e:b=it:=by simpa using hb
  subst e;obtain⟨o,e,c,d⟩:=st;exact⟨o,e,λv z=>by rw[d] at z;cases z⟩
 keep:=λi h h' st k=>st.at λo e=>k it (by simp) o e
 item:=by
  intro X hP hw hK hc i pins s σ H E I hf st hg;subst hP hw hK;obtain⟨xs,x,hq,hx⟩:=hg;obtain⟨its,rv,p,hz⟩:=I.list hq;obtain⟨u,hu,ru⟩:=rv.get hx;obtain⟨f0,f1,f2,f3,f4,f5⟩:=hf it (by simp);refine wpAny_pyNext_list_item st p.isList (x:=u) (by simpa using hu) λh' st' sb=>?_;have I1:Inv X pins σ H {s with heap:=h'}:=I.turned (t':=s.toks) (λb o hb e=>(sb.2 b hb).trans e) f0 f1 f3 f4 f5
  obtain⟨o,e,c,d⟩:=id st';exact⟨u,rfl,Nq (s:={s with heap:=h'}) e c d (by decide) ⟨x,H,I1,ru,⟨rfl,λys hy=>by rw[I.list_inj hy hq];exact hx⟩,st',λb hb=>(hf b hb).1⟩⟩
 done:=by intro X hP hw hK hc i pins s σ H E I hf st hg;subst hP hw hK;obtain⟨xs,hq,hx⟩:=hg;obtain⟨its,rv,p,hz⟩:=I.list hq;obtain⟨f0,f1,f2,f3,f4,f5⟩:=hf it (by simp);have hl:=rv.length;exact wpAny_pyNext_list_end (I.ok.hd hc) st p.isList (by simp;omega) λh' eb=>⟨rfl,I.turned (t':=s.toks) (λb o hb e=>eb b o hb e) f0 f1 f3 f4 f5⟩
 self:=λ_ _ _ _ _ st h=>wpAny_pyIter_listiter st h
theorem ziz{K:Ae}{tg:Expr}(a it:Addr):Turn P w K tg (Mu K a) [it] it (λi h=>h.IsTupleIter it a i) where
 mem:=by simp
 obj:=λi h st b hb=>by
  have e:b=it:=by simpa using hb
  subst e;obtain⟨o,e,c,d⟩:=st;exact⟨o,e,λv z=>by rw[d] at z;cases z⟩
 keep:=λi h h' st k=>st.at λo e=>k it (by simp) o e
 item:=by
  intro X hP hw hK hc i pins s σ H E I hf st hg;subst hP hw hK;obtain⟨xs,x,hq,hx⟩:=hg;obtain⟨its,rv,p,hz⟩:=I.tuple hq;obtain⟨u,hu,ru⟩:=rv.get hx;obtain⟨f0,f1,f2,f3,f4,f5⟩:=hf it (by simp);refine Gc st (show s.heap.IsTuple a its.toArray from p) (x:=u) (by simpa using hu) λh' st' sb=>?_;have I1:Inv X pins σ H {s with heap:=h'}:=I.turned (t':=s.toks) (λb o hb e=>(sb.2 b hb).trans e) f0 f1 f3 f4 f5
  obtain⟨o,e,c,d⟩:=id st';exact⟨u,rfl,Nq (s:={s with heap:=h'}) e c d (by decide) ⟨x,H,I1,ru,⟨rfl,λys hy=>by rw[I.tuple_inj hy hq];exact hx⟩,st',λb hb=>(hf b hb).1⟩⟩
 done:=by intro X hP hw hK hc i pins s σ H E I hf st hg;subst hP hw hK;obtain⟨xs,hq,hx⟩:=hg;obtain⟨its,rv,p,hz⟩:=I.tuple hq;obtain⟨f0,f1,f2,f3,f4,f5⟩:=hf it (by simp);have hl:=rv.length;exact Gy (I.ok.hd hc) st (show s.heap.IsTuple a its.toArray from p) (by simp;omega) λh' eb=>⟨rfl,I.turned (t':=s.toks) (λb o hb e=>eb b o hb e) f0 f1 f3 f4 f5⟩
 self:=λ_ _ _ _ _ st h=>wpAny_pyIter_tupleiter st h
theorem ziA{K:Ae}{tg:Expr}(it:Addr)(lo:Int)(n:Nat):Turn P w K tg (Mv lo n) [it] it (λi h=>IsRangeIter h it (lo+(i:Nat)*1) ((n:Int) - (i:Nat)) 1) where
 mem:=by simp
 obj:=λi h st b hb=>by
  have e:b=it:=by simpa using hb
  subst e;exact⟨_,st,λv z=>by have z':Data.fields _=Data.cell v:=z;cases z'⟩
 keep:=λi h h' st k=>k it (by simp) _ st
 item:=by
  intro X hP hw hK hc i pins s σ H E I hf st hg;subst hP hw hK;obtain⟨f0,f1,f2,f3,f4,f5⟩:=hf it (by simp);have W:=Walks.range (prog:=X.prog) (w:=X.w) (I.ok.hd hc) it lo 1 n;refine W.item i s _ _ hg st λv h' tk hv st' kk=>?_;obtain⟨t,rfl⟩:=hv;have I1:Inv X pins σ H {s with heap:=h',toks:=tk}:=I.turned (λb o hb e=>kk b o (by simpa using hb) e) f0 f1 f3 f4 f5
  refine⟨_,rfl,Nq (s:={s with heap:=h',toks:=tk}) (n:="range_iterator") st' rfl rfl (by decide) ⟨.int (lo+i),H,I1,⟨t,?_⟩,⟨rfl,rfl⟩,st',λb hb=>(hf b hb).1⟩⟩
  rw[Int.mul_one]
 done:=by intro X hP hw hK hc i pins s σ H E I hf st hg;subst hP hw hK;obtain⟨f0,f1,f2,f3,f4,f5⟩:=hf it (by simp);exact wpAny_pyNext_range_end (I.ok.hd hc) st (by have:n≤i:=hg;omega) λh' eb=>⟨rfl,I.turned (t':=s.toks) (λb o hb e=>eb b o hb e) f0 f1 f3 f4 f5⟩
 self:=λ_ _ _ _ _ st h=>wpAny_pyIter_rangeiter st h
section
variable{X:Cx}{tg:Expr}
def SG(K:Ae)(tl:TE):TI:=λσ H R=>tl σ H λx H1=>∃a,x= .ref a∧(∃xs,SqL K H1 a xs)∧R (Lz K a) H1
def Sm(K:Ae)(tl:TE):TI:=λσ H R=>tl σ H λx H1=>∃a,x= .ref a∧(∃xs,SqT K H1 a xs)∧R (Mu K a) H1
theorem JV{l:Expr}{tl:TE}(hl:PE X l tl):PI X tg l (SG X.K tl):=by
 intro pins s σ H R I h;refine I_ (hl pins s σ H _ I h) λv s1 ⟨x,H1,I1,r1,q1⟩=>?_;obtain⟨a,e,⟨xs,hq⟩,q⟩:=q1;subst e;cases r1;obtain⟨its,rv,p,hz⟩:=I1.list hq;refine D9 p.isList ?_;refine⟨s1.heap.objs.size,[s1.heap.objs.size],_,_,H1,rfl,I1.kept (t':=s1.toks) λb o e=>Ad _ e,zjf a _,⟨_,Al _ rfl,rfl,rfl⟩,λb hb=>?_,q⟩;have e:b=s1.heap.objs.size:=by simpa using hb
 subst e;exact I1.fpOk (Af _) (I1.hok.fresh (Af _))
theorem Nw{l:Expr}{tl:TE}(hl:PE X l tl):PI X tg l (Sm X.K tl):=by
 intro pins s σ H R I h;refine I_ (hl pins s σ H _ I h) λv s1 ⟨x,H1,I1,r1,q1⟩=>?_;obtain⟨a,e,⟨xs,hq⟩,q⟩:=q1;subst e;cases r1;obtain⟨its,rv,p,hz⟩:=I1.tuple hq;refine Ek (show s1.heap.IsTuple a its.toArray from p) ?_;refine⟨s1.heap.objs.size,[s1.heap.objs.size],_,_,H1,rfl,I1.kept (t':=s1.toks) λb o e=>Ad _ e,ziz a _,⟨_,Al _ rfl,rfl,rfl⟩,λb hb=>?_,q⟩;have e:b=s1.heap.objs.size:=by simpa using hb
 subst e;exact I1.fpOk (Af _) (I1.hok.fresh (Af _))
theorem Za{σ:St}{H:Hp}{R:It→Hp→Prop}{E:Value→Shared→Prop}{lo hi:Int}{t u v:Tok}{tk:Nat}(I:Inv X pins σ H s)(h1: -(2^62)≤lo)(h2:lo<2^62)(h3: -(2^62)≤hi)(h4:hi<2^62)
 (q:R (Mv lo (hi - lo).toNat) H):wpAny (model X.prog X.w) X.A (pyIter (.ref s.heap.objs.size)) (WE X pins σ tg R) E {s with heap:=s.heap.push {cls:= .type "range",data:= .fields #[.int lo t,.int hi u,.int 1 v]},toks:=tk}:=by
 refine wpAny_pyIter_range (IsRange.new ..) (small_one h1 h2 h3 h4) ?_;have I1:Inv X pins σ H {s with heap:=s.heap.push {cls:= .type "range",data:= .fields #[.int lo t,.int hi u,.int 1 v]},toks:=tk}:=I.kept λb o e=>Ad _ e
 refine⟨(s.heap.push {cls:= .type "range",data:= .fields #[.int lo t,.int hi u,.int 1 v]}).objs.size,[(s.heap.push {cls:= .type "range",data:= .fields #[.int lo t,.int hi u,.int 1 v]}).objs.size],_,_,H,rfl,
  I1.kept (t':=tk) λb o e=>Ad _ e,ziA _ lo (hi - lo).toNat,?_,λb hb=>?_,q⟩
 · have e1:lo+((0:Nat):Int)*1=lo:=by simp
   have e2:(((hi - lo).toNat:Nat):Int) - ((0:Nat):Int)=Gd lo hi 1:=by rw[rangeSize_one];split<;>omega
   show IsRangeIter _ _ (lo+((0:Nat):Int)*1) ((((hi - lo).toNat:Nat):Int) - ((0:Nat):Int)) 1;rw[e1,e2];exact Al _ rfl
 · have e:b=(s.heap.push {cls:= .type "range",data:= .fields #[.int lo t,.int hi u,.int 1 v]}).objs.size:=by simpa using hb
   subst e;exact I1.fpOk (Af _) (I1.hok.fresh (Af _))
def Xa(ta:TA):TI:=λσ H R=>ta σ H λvs H1=>∃j:Int,vs=[.int j]∧ -(2^62)≤j∧j<2^62∧R (Mv 0 j.toNat) H1
theorem LF{a:Expr}{ta:TA}{p pos:Pos}(hg:Gl X "range")(hm:X.mg "range"=none)(ha:PA X [a] ta)(hs:A9 [a] X.env=[(false,eval a X.env)]:=by rfl):PI X tg (.Call (.Name "range" p) [a] [] pos) (Xa ta):=by
 intro pins s σ H R I h;refine Call_ (K2 I hg hm boot_range (Bp (I_ (ha pos pins s σ H _ I h) λus s1 ⟨vs,H1,I1,r1,q1⟩=>?_) hs rfl));obtain⟨j,e,q1,q2,q⟩:=q1;subst e;cases r1 with
 | cons r rr=> cases rr;obtain⟨t,rfl⟩:=r;exact call_range_1 (Za I1 (by omega) (by omega) q1 q2 (by simpa using q))
def RJ(wi:TI)(g:TG)(tb:TS):TS:=λD σ H=>wi σ H λJ H1=>∃W:Nat→Nat→St→Hp→Prop,(∃m,W 0 m σ H1)∧∀i m σ H,W i m σ H→
 (J.stop i H∧D.nx σ H)∨(J.go i H∧∃N:St→Hp→Prop,(∀σ' H',N σ' H'→∃m',m'<m∧W (i+1) m' σ' H')∧∀x H',J.yld i H x H'→g x σ H' λσ2 H2=>tb {D with nx:=N,ct:=N,bk:=D.nx} σ2 H2)
def Kf(fp:List Addr)(h:Heap):List (Addr×Obj):=fp.filterMap λb=>(h.get? b).map λo=>(b,o)
theorem KL{fp:List Addr}{o:Obj}(hb:b∈fp)(e:h.get? b=some o):(b,o)∈Kf fp h:=D0.mpr ⟨b,hb,by rw[e];rfl⟩
theorem Q8{fp:List Addr}{p:Addr×Obj}(hp:p∈Kf fp h):p.1∈fp∧h.get? p.1=some p.2:=by
 obtain⟨b,hb,e⟩:=D0.mp hp;cases q:h.get? b with
 | none=>rw[q] at e;cases e
 | some o=> rw[q] at e;have e':(b,o)=p:=AD e;subst e';exact⟨hb,q⟩
theorem Inv.pinned{σ:St}{H:Hp}{fp:List Addr}(I:Inv X pins σ H s)(hf:∀b∈fp,Je X pins H b)(ho:∀b∈fp,∃o,s.heap.get? b=some o∧∀v,o.data≠ .cell v):Inv X (pins++Kf fp s.heap) σ H s:=
 I.pins_of λp hp=>(As.mp hp).elim (λz=>I.pin p (Ao _ z)) λz=>by obtain⟨hb,e⟩:=Q8 z;obtain⟨f0,f1,f2,_⟩:=hf p.1 hb;obtain⟨o,e',d⟩:=ho p.1 hb;rw[e] at e';cases e';exact⟨e,f0,f1,f2,d⟩
theorem Inv.unpinned{pl:List (Addr×Obj)}{σ:St}{H:Hp}(I:Inv X (pins++pl) σ H s):Inv X pins σ H s:=I.pins_of λp hp=>I.pin p (Ao _ (AO _ hp))
theorem KH{iter:Expr}{body:List Stmt}{wi:TI}{g:TG}{tb:TS}{pos:Pos}(hp:PassesOwn (model X.prog X.w) X.A X.env X.xe)(hc:X.calm=true)(hi:PI X tg iter wi)(hg:PG X tg g)(hb:PSs X body tb)
 (hs:∀x,B_ iter X.env x=pure x:=by intro _;rfl):PS X (.For tg iter body [] pos) (RJ wi g tb):=by
 intro pins s σ H D I h;refine wpAny_For (I_ (hi pins s σ H _ I h) λv s1 h1=>I_ h1 λitv s2 h2=>?_) hs;obtain⟨it,fp,tn,J,H2,e,I2,T,st2,f2,W,⟨m0,w0⟩,turn⟩:=h2;subst e;have stat:∀{H':Hp},(∀b∈fp,H' b=none)→∀b∈fp,Je X pins H' b:=λhn b hb=>⟨hn b hb,(f2 b hb).2⟩;refine codeAny_forLoop_any (λn s'=>∃i σ' H',Inv X pins σ' H' s'∧tn i s'.heap∧(∀b∈fp,H' b=none)∧W i n σ' H') ?_ m0 ⟨0,σ,H2,I2,st2,λb hb=>(f2 b hb).1,w0⟩;rintro n s3 ⟨i,σ3,H3,I3,st3,fr3,w3⟩;rcases turn i n σ3 H3 w3 with⟨stop,qn⟩ | ⟨go,N,hN,step⟩
 · refine Di hp (I_ (T.done X rfl rfl rfl hc i pins s3 σ3 H3 X.xe I3 (stat fr3) st3 stop) λr s4 ⟨hr,I4⟩=>?_);subst hr;exact EJ ⟨σ3,H3,I4,qn⟩
 · refine Di hp (I_ (T.item X rfl rfl rfl hc i pins s3 σ3 H3 X.xe I3 (stat fr3) st3 go) λr s4 ⟨u,hr,h4⟩=>?_);subst hr;refine Di hp (I_ h4 λ_ s5 ⟨x,H5,I5,r5,y5,st5,fr5⟩=>?_);have I5':=I5.pinned (stat fr5) (T.obj _ _ st5);refine Di hp (I_ (hg _ s5 σ3 H5 x u _ I5' r5 (step x H5 y5)) λ_ s6 ⟨σ6,H6,I6,q6⟩=>?_);refine Di hp (I_ (hb _ s6 σ6 H6 _ I6 q6) λf s7 q7=>?_);have again:∀{σ7:St}{H7:Hp},Inv X (pins++Kf fp s5.heap) σ7 H7 s7→N σ7 H7→∃m,m<n∧∃i σ' H',Inv X pins σ' H' s7∧tn i s7.heap∧(∀b∈fp,H' b=none)∧W i m σ' H':=λ{σ7 H7}I7 n7=>by
    obtain⟨m',hm,w7⟩:=hN σ7 H7 n7;refine⟨m',hm,i+1,σ7,H7,I7.unpinned,T.keep _ _ _ st5 λb hb o e=>(I7.pin (b,o) (Ao _ (Ao _ (KL hb e)))).1,λb hb=>?_,w7⟩;obtain⟨o,e,d⟩:=T.obj _ _ st5 b hb;exact(I7.pin (b,o) (Ao _ (Ao _ (KL hb e)))).2.1
   cases f with
   | next=>obtain⟨σ7,H7,I7,n7⟩:=q7;exact again I7 n7
   | cont=>obtain⟨σ7,H7,I7,n7⟩:=q7;exact again I7 n7
   | brk=>obtain⟨σ7,H7,I7,q7⟩:=q7;exact⟨σ7,H7,I7.unpinned,q7⟩
   | ret v=>obtain⟨x7,σ7,H7,I7,r7,q7⟩:=q7;exact⟨x7,σ7,H7,I7.unpinned,r7,q7⟩
end
theorem LO{K:Ae}{xs:List V}{g:TG}{tb:TS}{D:Ends}{σ:St}{H:Hp}(Pv:Nat→St→Hp→Prop)(h0:Pv 0 σ H)(hl:∀i σ H,i≤xs.length→Pv i σ H→SqL K H a xs)
 (hs:∀i x σ H,xs[i]?=some x→Pv i σ H→g x σ H λσ2 H2=>tb {D with nx:=Pv (i+1),ct:=Pv (i+1),bk:=D.nx} σ2 H2) (hd:∀σ H,Pv xs.length σ H→D.nx σ H):
 ∃W:Nat→Nat→St→Hp→Prop,(∃m,W 0 m σ H)∧∀i m σ H,W i m σ H→
  ((Lz K a).stop i H∧D.nx σ H)∨((Lz K a).go i H∧∃N:St→Hp→Prop,(∀σ' H',N σ' H'→∃m',m'<m∧W (i+1) m' σ' H')∧∀x H',(Lz K a).yld i H x H'→g x σ H' λσ2 H2=>tb {D with nx:=N,ct:=N,bk:=D.nx} σ2 H2):=by
 refine⟨λi m σ H=>m=xs.length - i∧i≤xs.length∧Pv i σ H,⟨xs.length,by simp,Bc _,h0⟩,?_⟩;rintro i m σ H ⟨rfl,hi,p⟩;have q:=hl i σ H hi p;by_cases hlt:i<xs.length
 · refine .inr ⟨⟨xs,xs[i],q,by simp[hlt]⟩,Pv (i+1),λσ' H' p'=>⟨xs.length - (i+1),by omega,rfl,hlt,p'⟩,λx H' y=>?_⟩;obtain⟨e,y⟩:=y;subst e;exact hs i x σ _ (y xs q) p
 · have e:i=xs.length:=by omega
   subst e;exact .inl ⟨⟨xs,q,Af _⟩,hd σ H p⟩
theorem Ui{K:Ae}{xs:List V}{g:TG}{tb:TS}{D:Ends}{σ:St}{H:Hp}(Pv:Nat→St→Hp→Prop)(h0:Pv 0 σ H)(hl:∀i σ H,i≤xs.length→Pv i σ H→SqT K H a xs)
 (hs:∀i x σ H,xs[i]?=some x→Pv i σ H→g x σ H λσ2 H2=>tb {D with nx:=Pv (i+1),ct:=Pv (i+1),bk:=D.nx} σ2 H2) (hd:∀σ H,Pv xs.length σ H→D.nx σ H):
 ∃W:Nat→Nat→St→Hp→Prop,(∃m,W 0 m σ H)∧∀i m σ H,W i m σ H→
  ((Mu K a).stop i H∧D.nx σ H)∨((Mu K a).go i H∧∃N:St→Hp→Prop,(∀σ' H',N σ' H'→∃m',m'<m∧W (i+1) m' σ' H')∧∀x H',(Mu K a).yld i H x H'→g x σ H' λσ2 H2=>tb {D with nx:=N,ct:=N,bk:=D.nx} σ2 H2):=by
 refine⟨λi m σ H=>m=xs.length - i∧i≤xs.length∧Pv i σ H,⟨xs.length,by simp,Bc _,h0⟩,?_⟩;rintro i m σ H ⟨rfl,hi,p⟩;have q:=hl i σ H hi p;by_cases hlt:i<xs.length
 · refine .inr ⟨⟨xs,xs[i],q,by simp[hlt]⟩,Pv (i+1),λσ' H' p'=>⟨xs.length - (i+1),by omega,rfl,hlt,p'⟩,λx H' y=>?_⟩;obtain⟨e,y⟩:=y;subst e;exact hs i x σ _ (y xs q) p
 · have e:i=xs.length:=by omega
   subst e;exact .inl ⟨⟨xs,q,Af _⟩,hd σ H p⟩
theorem Q6{lo:Int}{n:Nat}{g:TG}{tb:TS}{D:Ends}{σ:St}{H:Hp}(Pv:Nat→St→Hp→Prop)(h0:Pv 0 σ H)
 (hs:∀i σ H,i<n→Pv i σ H→g (.int (lo+i)) σ H λσ2 H2=>tb {D with nx:=Pv (i+1),ct:=Pv (i+1),bk:=D.nx} σ2 H2) (hd:∀σ H,Pv n σ H→D.nx σ H):
 ∃W:Nat→Nat→St→Hp→Prop,(∃m,W 0 m σ H)∧∀i m σ H,W i m σ H→
  ((Mv lo n).stop i H∧D.nx σ H)∨((Mv lo n).go i H∧∃N:St→Hp→Prop,(∀σ' H',N σ' H'→∃m',m'<m∧W (i+1) m' σ' H')∧∀x H',(Mv lo n).yld i H x H'→g x σ H' λσ2 H2=>tb {D with nx:=N,ct:=N,bk:=D.nx} σ2 H2):=by
 refine⟨λi m σ H=>m=n - i∧i≤n∧Pv i σ H,⟨n,by simp,Bc _,h0⟩,?_⟩;rintro i m σ H ⟨rfl,hi,p⟩;by_cases hlt:i<n
 · refine .inr ⟨hlt,Pv (i+1),λσ' H' p'=>⟨n - (i+1),by omega,rfl,hlt,p'⟩,λx H' y=>?_⟩;obtain⟨e,y⟩:=y;subst e y;exact hs i σ _ hlt p
 · have e:i=n:=by omega
   subst e;exact .inl ⟨Af _,hd σ H p⟩
abbrev R2:=V→V→Hp→VK→Prop
def J8(X:Cx)(f:Value→Value→Sem Value)(r:R2):Prop:=
 ∀(pins:List (Addr×Obj))(s:Shared)(σ:St)(H:Hp)(x y:V)(v u:Value)(Q:VK),Inv X pins σ H s→RelV x v→RelV y u→r x y H Q→
  wpAny (model X.prog X.w) X.A (f v u) (EP X pins σ Q) X.xe s
def Sw(X:Cx)(f:Value→Sem Value)(r:V→Hp→VK→Prop):Prop:=
 ∀(pins:List (Addr×Obj))(s:Shared)(σ:St)(H:Hp)(x:V)(v:Value)(Q:VK),Inv X pins σ H s→RelV x v→r x H Q→
  wpAny (model X.prog X.w) X.A (f v) (EP X pins σ Q) X.xe s
def Ko(X:Cx)(f:Value)(r:List V→Hp→VK→Prop):Prop:=
 ∀(pins:List (Addr×Obj))(s:Shared)(σ:St)(H:Hp)(xs:List V)(us:List Value)(Q:VK),Inv X pins σ H s→Vals xs us→r xs H Q→
  wpAny (model X.prog X.w) X.A (call f us) (EP X pins σ Q) X.xe s
def NL(r:R2)(ta tb:TE):TE:=λσ H Q=>ta σ H λx H1=>tb σ H1 λy H2=>r x y H2 Q
def tUn(r:V→Hp→VK→Prop)(ta:TE):TE:=λσ H Q=>ta σ H λx H1=>r x H1 Q
def rI(C:Int→Int→Prop)(g:Int→Int→V):R2:=λx y H Q=>∃i j,x= .int i∧y= .int j∧C i j∧Q (g i j) H
def LU(g:Int→Int→V):R2:=λx y H Q=>∃i j,x= .int i∧y= .int j∧Q (g i j) H
def rU(g:Int→V):V→Hp→VK→Prop:=λx H Q=>∃i,x= .int i∧Q (g i) H
section
variable{X:Cx}{a b c:Expr}{ta tb tc:TE}{pos:Pos}
theorem MH(ha:PE X a ta)(hb:PE X b tb){σ:St}{H:Hp}{R:V→V→Hp→Prop}(I:Inv X pins σ H s)
 (h:ta σ H λx H1=>tb σ H1 λy H2=>R x y H2) {Q:Value→Shared→Prop} {f:Value→Value→Sem Value}
 (hf:∀v u s2 x y H2,Inv X pins σ H2 s2→RelV x v→RelV y u→R x y H2→wpAny (model X.prog X.w) X.A (f v u) Q X.xe s2):
 wpAny (model X.prog X.w) X.A (eval a X.env) (λv s₁=>wpAny (model X.prog X.w) X.A (eval b X.env) (λu s₂=>wpAny (model X.prog X.w) X.A (f v u) Q X.xe s₂) X.xe s₁) X.xe s:=by
 refine I_ (ha pins s σ H _ I h) λv s1 ⟨x,H1,I1,r1,q1⟩=>?_;refine I_ (hb pins s1 σ H1 _ I1 q1) λu s2 ⟨y,H2,I2,r2,q2⟩=>?_;exact hf v u s2 x y H2 I2 r1 r2 q2
theorem Jg{op:Operator}{r:R2}(ho:J8 X (binaryOp op) r)(ha:PE X a ta)(hb:PE X b tb):PE X (.BinOp a op b pos) (NL r ta tb):=by intro pins s σ H Q I h;exact wpAny_BinOp (MH ha hb I h λv u s2 x y H2 I2 rx ry q=>ho pins s2 σ H2 x y v u Q I2 rx ry q)
theorem P6{op:UnaryOp}{r:V→Hp→VK→Prop}(ho:Sw X (unaryOp op) r)(ha:PE X a ta):PE X (.UnaryOp op a pos) (tUn r ta):=by intro pins s σ H Q I h;exact UnaryOp_ (I_ (ha pins s σ H _ I h) λv s1 ⟨x,H1,I1,r1,q1⟩=>ho pins s1 σ H1 x v Q I1 r1 q1)
theorem NX{f:Value→Value→Sem Value}{C:Int→Int→Prop}{g:Int→Int→Int}
 (rule:∀(i j:Int)(t u:Tok)(s:Shared)(Q:Value→Shared→Prop)(E:Value→Shared→Prop),C i j→Q (.int (g i j) s.toks) {s with toks:=s.toks+1}→wpAny (model X.prog X.w) X.A (f (.int i t) (.int j u)) Q E s):
 J8 X f (rI C λi j=> .int (g i j)):=by
 intro pins s σ H x y v u Q I rx ry h;obtain⟨i,j,rfl,rfl,hc,q⟩:=h;obtain⟨t,rfl⟩:=rx;obtain⟨t',rfl⟩:=ry;exact rule i j t t' s _ _ hc ⟨.int (g i j),H,I.tok _,⟨_,rfl⟩,q⟩
theorem NW{f:Value→Value→Sem Value}{g:Int→Int→Int}
 (rule:∀(i j:Int)(t u:Tok)(s:Shared)(Q:Value→Shared→Prop)(E:Value→Shared→Prop),Q (.int (g i j) s.toks) {s with toks:=s.toks+1}→wpAny (model X.prog X.w) X.A (f (.int i t) (.int j u)) Q E s):
 J8 X f (LU λi j=> .int (g i j)):=by
 intro pins s σ H x y v u Q I rx ry h;obtain⟨i,j,rfl,rfl,q⟩:=h;obtain⟨t,rfl⟩:=rx;obtain⟨t',rfl⟩:=ry;exact rule i j t t' s _ _ ⟨.int (g i j),H,I.tok _,⟨_,rfl⟩,q⟩
theorem LX{f:Value→Value→Sem Value}{g:Int→Int→Bool}
 (rule:∀(i j:Int)(t u:Tok)(s:Shared)(Q:Value→Shared→Prop)(E:Value→Shared→Prop),Q (.bool (g i j)) s→wpAny (model X.prog X.w) X.A (f (.int i t) (.int j u)) Q E s):
 J8 X f (LU λi j=> .bl (g i j)):=by
 intro pins s σ H x y v u Q I rx ry h;obtain⟨i,j,rfl,rfl,q⟩:=h;obtain⟨t,rfl⟩:=rx;obtain⟨t',rfl⟩:=ry;exact rule i j t t' s _ _ ⟨.bl (g i j),H,I,rfl,q⟩
def CMul(i j:Int):Prop:=(-(2^64)<i∧i<2^64)∨(-(2^64)<j∧j<2^64)
theorem CMul.ok{i j:Int}(h:CMul i j):IntMulOk i j:=by
 rcases h with⟨h1,h2⟩ | ⟨h1,h2⟩
 · exact .of_left (intBits_le_64 h1 h2)
 · exact .of_right (intBits_le_64 h1 h2)
theorem JE:J8 X (binaryOp .Add) (LU λi j=> .int (i+j)):=NW λ_ _ _ _ _ _ _ q=>add_int q
theorem L6:J8 X (binaryOp .Sub) (LU λi j=> .int (i - j)):=NW λ_ _ _ _ _ _ _ q=>sub_int q
theorem LM:J8 X (binaryOp .Mult) (rI CMul λi j=> .int (i*j)):=NX λ_ _ _ _ _ _ _ hc q=>mul_int q hc.ok
theorem LL:J8 X (binaryOp .Mod) (rI (λ_ j=>0<j) λi j=> .int (i%j)):=NX λi j _ _ _ _ _ hc q=>by have h1:(0:Int)<j:=hc;exact mod_int' (by omega) (by rw[Int.fmod_eq_emod_of_nonneg i (by omega)];exact q)
theorem unI{f:Value→Sem Value}{g:Int→Int}
 (rule:∀(i:Int)(t:Tok)(s:Shared)(Q:Value→Shared→Prop)(E:Value→Shared→Prop),Q (.int (g i) s.toks) {s with toks:=s.toks+1}→wpAny (model X.prog X.w) X.A (f (.int i t)) Q E s):
 Sw X f (rU λi=> .int (g i)):=by
 intro pins s σ H x v Q I rx h;obtain⟨i,rfl,q⟩:=h;obtain⟨t,rfl⟩:=rx;exact rule i t s _ _ ⟨.int (g i),H,I.tok _,⟨_,rfl⟩,q⟩
theorem PQ:Sw X (unaryOp .USub) (rU λi=> .int (-i)):=unI λ_ _ _ _ _ q=>neg_int q
end
def NN:V→V→Bool
 | .non,.non=>true | .non,.int _=>true | .int _,.non=>true | .non,.bl _=>true | .bl _,.non=>true | .non,.str _=>true | .str _,.non=>true
 | .int _,.int _=>true | .bl _,.bl _=>true | .str _,.str _=>true | .byt _,.byt _=>true
 | .int _,.str _=>true | .str _,.int _=>true | .bl _,.str _=>true | .str _,.bl _=>true
 | _,_=>false
def rEq:R2:=λx y H Q=>NN x y=true∧Q (.bl (decide (x=y))) H
def rNe:R2:=λx y H Q=>NN x y=true∧Q (.bl (!decide (x=y))) H
theorem Ud{i j:Int}:decide (V.int i=V.int j)=(i==j):=by rw[Cf];simp
theorem Te{i j:Bool}:decide (V.bl i=V.bl j)=(i==j):=by rw[Cf];simp
theorem Uf{i j:Str}:decide (V.str i=V.str j)=(i==j):=by rw[Cf];simp
theorem Uc{i j:Array UInt8}:decide (V.byt i=V.byt j)=(i.toList==j.toList):=by rw[Cf];cases i;cases j;simp
section
variable{X:Cx}{a b c:Expr}{ta tb tc:TE}{pos:Pos}
theorem JD{σ:St}{H:Hp}{Q:VK}{k k':Bool}(I:Inv X pins σ H s)(q:Q (.bl k) H)(e:k=k'):EP X pins σ Q (.bool k') s:=by subst e;exact⟨.bl k,H,I,rfl,q⟩
theorem Kc:J8 X (BN .Eq) rEq:=by
 intro pins s σ H x y v u Q I rx ry h;obtain⟨hs,q⟩:=h;cases x with
 | non=>
  cases rx;cases y with
  | non=>cases ry;exact PySem.EqNone.eq_none_none (JD I q (by simp))
  | bl j=>cases ry;exact PySem.EqNone.eq_none_bool (JD I q (by simp))
  | int j=>obtain⟨t',rfl⟩:=ry;exact PySem.EqNone.eq_none_int (JD I q (by simp))
  | str j=>obtain⟨t',rfl⟩:=ry;exact PySem.EqNone.eq_none_str (JD I q (by simp))
  | _=>exact absurd (show false=true from hs) A3
 | bl i=>
  cases rx;cases y with
  | non=>cases ry;exact PySem.EqNone.eq_bool_none (JD I q (by simp))
  | bl j=>cases ry;exact eq_bool (JD I q Te)
  | str j=>obtain⟨t',rfl⟩:=ry;exact PySem.EqMixed.eq_bool_str (JD I q (by simp))
  | _=>exact absurd (show false=true from hs) A3
 | int i=>
  obtain⟨t,rfl⟩:=rx;cases y with
  | non=>cases ry;exact PySem.EqNone.eq_int_none (JD I q (by simp))
  | int j=>obtain⟨t',rfl⟩:=ry;exact eq_int (JD I q Ud)
  | str j=>obtain⟨t',rfl⟩:=ry;exact PySem.EqMixed.eq_int_str (JD I q (by simp))
  | _=>exact absurd (show false=true from hs) A3
 | str i=>
  obtain⟨t,rfl⟩:=rx;cases y with
  | non=>cases ry;exact PySem.EqNone.eq_str_none (JD I q (by simp))
  | bl j=>cases ry;exact PySem.EqMixed.eq_str_bool (JD I q (by simp))
  | int j=>obtain⟨t',rfl⟩:=ry;exact PySem.EqMixed.eq_str_int (JD I q (by simp))
  | str j=>obtain⟨t',rfl⟩:=ry;exact eq_str (JD I q Uf)
  | _=>exact absurd (show false=true from hs) A3
 | byt i=>
  obtain⟨t,rfl⟩:=rx;cases y with
  | byt j=>obtain⟨t',rfl⟩:=ry;exact PySem.W.eq_bytes (JD I q Uc)
  | _=>exact absurd (show false=true from hs) A3
 | _=>cases y<;>exact absurd (show false=true from hs) A3
theorem LI:J8 X (BN .NotEq) rNe:=by
 intro pins s σ H x y v u Q I rx ry h;obtain⟨hs,q⟩:=h;cases x with
 | non=>
  cases rx;cases y with
  | non=>cases ry;exact PySem.EqNone.ne_none_none (JD I q (by simp))
  | bl j=>cases ry;exact PySem.EqNone.ne_none_bool (JD I q (by simp))
  | int j=>obtain⟨t',rfl⟩:=ry;exact PySem.EqNone.ne_none_int (JD I q (by simp))
  | str j=>obtain⟨t',rfl⟩:=ry;exact PySem.EqNone.ne_none_str (JD I q (by simp))
  | _=>exact absurd (show false=true from hs) A3
 | bl i=>
  cases rx;cases y with
  | non=>cases ry;exact PySem.EqNone.ne_bool_none (JD I q (by simp))
  | bl j=>cases ry;exact ne_bool (JD I q (congrArg not Te))
  | str j=>obtain⟨t',rfl⟩:=ry;exact PySem.EqMixed.ne_bool_str (JD I q (by simp))
  | _=>exact absurd (show false=true from hs) A3
 | int i=>
  obtain⟨t,rfl⟩:=rx;cases y with
  | non=>cases ry;exact PySem.EqNone.ne_int_none (JD I q (by simp))
  | int j=>obtain⟨t',rfl⟩:=ry;exact ne_int (JD I q (congrArg not Ud))
  | str j=>obtain⟨t',rfl⟩:=ry;exact PySem.EqMixed.ne_int_str (JD I q (by simp))
  | _=>exact absurd (show false=true from hs) A3
 | str i=>
  obtain⟨t,rfl⟩:=rx;cases y with
  | non=>cases ry;exact PySem.EqNone.ne_str_none (JD I q (by simp))
  | bl j=>cases ry;exact PySem.EqMixed.ne_str_bool (JD I q (by simp))
  | int j=>obtain⟨t',rfl⟩:=ry;exact PySem.EqMixed.ne_str_int (JD I q (by simp))
  | str j=>obtain⟨t',rfl⟩:=ry;exact ne_str (JD I q (congrArg not Uf))
  | _=>exact absurd (show false=true from hs) A3
 | byt i=>
  obtain⟨t,rfl⟩:=rx;cases y with
  | byt j=>obtain⟨t',rfl⟩:=ry;exact PySem.W.ne_bytes (JD I q (congrArg not Uc))
  | _=>exact absurd (show false=true from hs) A3
 | _=>cases y<;>exact absurd (show false=true from hs) A3
theorem Nt:J8 X (BN .Lt) (LU λi j=> .bl (decide (i<j))):=LX λ_ _ _ _ _ _ _ q=>lt_int q
theorem L4:J8 X (BN .LtE) (LU λi j=> .bl (decide (i≤j))):=LX λ_ _ _ _ _ _ _ q=>le_int q
theorem M0:J8 X (BN .Gt) (LU λi j=> .bl (decide (j<i))):=LX λ_ _ _ _ _ _ _ q=>gt_int q
theorem Xg:J8 X (BN .GtE) (LU λi j=> .bl (decide (j≤i))):=LX λ_ _ _ _ _ _ _ q=>ge_int q
theorem zj2:J8 X (BN .Lt) (λx y H Q=>∃i j,x= .str i∧y= .str j∧Q (.bl (decide (i.cps.toList<j.cps.toList))) H):=by intro pins s σ H x y v u Q I rx ry h;obtain⟨i,j,rfl,rfl,q⟩:=h;obtain⟨t,rfl⟩:=rx;obtain⟨t',rfl⟩:=ry;exact lt_str (JD I q rfl)
theorem Js(b:Expr){op:CmpOp}(h:op≠ .In:=by decide)(h2:op≠ .NotIn:=by decide):behindInMarks op b=false:=by
 have e1:(op==CmpOp.In)=false:=by cases op<;>first | rfl | exact absurd rfl h
 have e2:(op==CmpOp.NotIn)=false:=by cases op<;>first | rfl | exact absurd rfl h2
 cases b<;>simp[behindInMarks,e1,e2]
theorem LB{op:CmpOp}{r:R2}(ho:J8 X (BN op) r)(ha:PE X a ta)(hb:PE X b tb)(hm:behindInMarks op b=false):PE X (.Compare a [op] [b] pos) (NL r ta tb):=by intro pins s σ H Q I h;exact wpAny_Compare1 (MH ha hb I h λv u s2 x y H2 I2 rx ry q=>ho pins s2 σ H2 x y v u Q I2 rx ry q) hm
def SU(t:TE):TT:=λσ H Q=>t σ H λx H'=>∃k,x= .bl k∧Q k H'
theorem Jy{op:CmpOp}{r:R2}(ho:J8 X (BN op) r)(ha:PE X a ta)(hb:PE X b tb)(hm:behindInMarks op b=false):PT X (.Compare a [op] [b] pos) (SU (NL r ta tb)):=by intro pins s σ H Q I h;refine wpAny_isTrue_Compare1 (I_ (ha pins s σ H _ I h) λv s1 ⟨x,H1,I1,r1,q1⟩=>I_ (hb pins s1 σ H1 _ I1 q1) λu s2 ⟨y,H2,I2,r2,q2⟩=> I_ (ho pins s2 σ H2 x y v u _ I2 r1 r2 q2) λc s3 ⟨z,H3,I3,r3,k,e,q3⟩=>?_) hm;subst e;cases r3;exact BP ⟨H3,I3,q3⟩
def T0(r r':R2)(ta tb tc:TE):TE:=λσ H Q=>ta σ H λx H1=>tb σ H1 λy H2=>r x y H2 λz H3=>∃k,z= .bl k∧
 (if k=true then tc σ H3 λw' H4=>r' y w' H4 Q else Q (.bl false) H3)
theorem Qo{op op':CmpOp}{r r':R2}(ho:J8 X (BN op) r)(ho':J8 X (BN op') r')(ha:PE X a ta)(hb:PE X b tb)(hc:PE X c tc)
 (hm:lastMarks [op,op'] [b,c]=false:=by with_unfolding_all rfl):PE X (.Compare a [op,op'] [b,c] pos) (T0 r r' ta tb tc):=by
 intro pins s σ H Q I h;refine Compare_chain (I_ (ha pins s σ H _ I h) λv s1 ⟨x,H1,I1,r1,q1⟩=>chain_link (I_ (hb pins s1 σ H1 _ I1 q1) λu s2 ⟨y,H2,I2,r2,q2⟩=> I_ (ho pins s2 σ H2 x y v u _ I2 r1 r2 q2) λd s3 ⟨z,H3,I3,r3,k,e,q3⟩=>?_)) hm;subst e;cases r3;refine BP ?_;cases k with
 | false=>exact ite_ff ⟨.bl false,H3,I3,rfl,q3⟩
 | true=>exact ite_tt (chain_last (I_ (hc pins s3 σ H3 _ I3 q3) λw' s4 ⟨z',H4,I4,r4,q4⟩=>ho' pins s4 σ H4 y z' u w' Q I4 r2 r4 q4))
theorem YZ{op op':CmpOp}{r r':R2}(ho:J8 X (BN op) r)(ho':J8 X (BN op') r')(ha:PE X a ta)(hb:PE X b tb)(hc:PE X c tc)
 (hm:lastMarks [op,op'] [b,c]=false:=by with_unfolding_all rfl):PT X (.Compare a [op,op'] [b,c] pos) (SU (T0 r r' ta tb tc)):=by
 intro pins s σ H Q I h;refine isTrue_chain (I_ (ha pins s σ H _ I h) λv s1 ⟨x,H1,I1,r1,q1⟩=>test_link (I_ (hb pins s1 σ H1 _ I1 q1) λu s2 ⟨y,H2,I2,r2,q2⟩=> I_ (ho pins s2 σ H2 x y v u _ I2 r1 r2 q2) λd s3 ⟨z,H3,I3,r3,k,e,q3⟩=>?_)) hm;subst e;cases r3;refine BP ?_;cases k with
 | false=> obtain⟨k',e',q'⟩:=q3;cases e';exact ite_ff ⟨H3,I3,q'⟩
 | true=> refine ite_tt (test_last (I_ (hc pins s3 σ H3 _ I3 q3) λw' s4 ⟨z',H4,I4,r4,q4⟩=>I_ (ho' pins s4 σ H4 y z' u w' _ I4 r2 r4 q4) λd' s5 ⟨z2,H5,I5,r5,k2,e2,q5⟩=>?_));subst e2;cases r5;exact BP ⟨H5,I5,q5⟩
theorem MR:(Az:Nat)<2^63:=by rw[sizeLine_eq];decide
theorem OT:J8 X (binaryOp .Add) (λx y H Q=>∃i j,x= .str i∧y= .str j∧i.length+j.length≤Az∧Q (.str (i++j)) H):=by intro pins s σ H x y v u Q I rx ry h;obtain⟨i,j,rfl,rfl,hz,q⟩:=h;obtain⟨t,rfl⟩:=rx;obtain⟨t',rfl⟩:=ry;exact add_str (λt' tk=>⟨.str (i++j),H,I.tok _,⟨_,rfl⟩,q⟩) hz
theorem KC{x:V}(r:Vals [x] us):∃u,us=[u]∧RelV x u:=by
 cases r with
 | cons r1 r2=>cases r2;exact⟨_,rfl,r1⟩
theorem M2{x y:V}(r:Vals [x,y] us):∃u w',us=[u,w']∧RelV x u∧RelV y w':=by
 cases r with
 | cons r1 r2=>
  cases r2 with
  | cons r3 r4=>cases r4;exact⟨_,_,rfl,r1,r3⟩
theorem Qx:Ko X (.builtin "abs") (λxs H Q=>∃i,xs=[.int i]∧Q (.int (if i<0 then -i else i)) H):=by intro pins s σ H xs us Q I r h;obtain⟨i,rfl,q⟩:=h;obtain⟨u,rfl,t,rfl⟩:=KC r;exact call_abs_int λu tk=>⟨.int (if i<0 then -i else i),H,I.tok _,⟨_,rfl⟩,q⟩
theorem ZS(hc:X.calm=true):Ko X (.builtin "max") (λxs H Q=>∃i j,xs=[.int i,.int j]∧Q (.int (if j>i then j else i)) H):=by
 intro pins s σ H xs us Q I r h;obtain⟨i,j,rfl,q⟩:=h;obtain⟨u,w',rfl,⟨t,rfl⟩,⟨t',rfl⟩⟩:=M2 r;refine max_two_ints (I.ok.hd hc) λh' tk k=>⟨_,H,I.kept k,?_,q⟩;by_cases hj:j>i
 · rw[if_pos hj,if_pos hj];exact⟨_,rfl⟩
 · rw[if_neg hj,if_neg hj];exact⟨_,rfl⟩
theorem QG(hc:X.calm=true):Ko X (.builtin "min") (λxs H Q=>∃i j,xs=[.int i,.int j]∧Q (.int (if j<i then j else i)) H):=by
 intro pins s σ H xs us Q I r h;obtain⟨i,j,rfl,q⟩:=h;obtain⟨u,w',rfl,⟨t,rfl⟩,⟨t',rfl⟩⟩:=M2 r;refine min_two_ints (I.ok.hd hc) λh' tk k=>⟨_,H,I.kept k,?_,q⟩;by_cases hj:j<i
 · rw[if_pos hj,if_pos hj];exact⟨_,rfl⟩
 · rw[if_neg hj,if_neg hj];exact⟨_,rfl⟩
end
structure ObjM(h:Heap)(x dx C:Addr)(mA:Str→Option Value):Prop where
 obj:h.get? x=some (Gp C dx)
 ns:h.Ns1 dx mA
 ne:dx≠x
theorem ZQ{dx:Addr}{mA:Str→Option Value}(n:h.Ns1 dx mA):∃od,h.get? dx=some od∧∀name,GB name od=some (mA name):=by
 obtain⟨o,es,ep,ho,hd,hk,_,hm⟩:=n;refine⟨o,ho,λname=>?_⟩;have e:=hm name;unfold nsFind findBy at e;rw[←Array.find?_toList] at e;unfold GB;rw[hd];dsimp only
 split
 · rename_i y q;rw[q] at e;exact congrArg some e
 · rename_i q;rw[q] at e;have a:es.toList.any (·.refKey)=false:=by
    rw[List.any_eq_false];intro y hy;obtain⟨z,t,hkey⟩:=hk y (CQ.mp hy);simp[DictEntry.refKey,hkey]
   have a':¬es.toList.any (·.refKey)=true:=by rw[a];exact A3
   rw[if_neg a'];exact congrArg some e
theorem ObjM.look{x dx C:Addr}{mA:Str→Option Value}(I:ObjM h x dx C mA):∃od,PySem.W.InstAt h x (Gp C dx) C (some od)∧∀name,GB name od=some (mA name):=
 let⟨od,ho,hl⟩:=ZQ I.ns
 ⟨od,⟨I.obj,rfl,rfl,ho⟩,hl⟩
section
variable{K:Ae}{x dx C f:Addr}{mA:Str→Option Value}{name:Str}{v:Value}
end
theorem RelO.some_of{v:V}{o:Option Value}(r:RelO (some v) o):∃u,o=some u∧RelV v u:=by
 cases o with
 | none=>exact(show False from r).elim
 | some u=>exact⟨u,rfl,r⟩
section
variable{H H':Hp}{h':Heap}{C dx:Addr}{fs fs':List (Str×V)}
theorem ins_get(hok:HOk P w H h)(e:H a=some (.ins C dx fs)):∃mA,ObjM h a dx C mA∧(∀f,RelO (fs.lookup f) (mA f))∧PySem.Within mA (fs.map (·.1))∧fs.length≤1000∧H dx=some (.own a):=by obtain⟨d,z,ne,ob,mA,n,r,q⟩:=(show ObjOk P w H h a (.ins C dx fs) from hok a _ e);exact⟨mA,⟨ob,n,ne⟩,r,q,z,d⟩
end
structure Cls(K:Ae)(C:Addr):Prop where
 pg:PySem.W.plainGet K C Str.empty=true
 hd:PySem.W.hasDictIn K C=true
 po:PySem.W.plainOver K C=true
 sa:PySem.W.findIn K (.ref C) "__setattr__"=some (some (.builtin "object.__setattr__"))
theorem Cls.get{K:Ae}{C:Addr}(c:Cls K C)(f:Str):PySem.W.plainGet K C f=true:=c.pg
section
variable{X:Cx}{σ:St}{H:Hp}{C dx:Addr}{fs:List (Str×V)}{f:Str}{v:V}
end
section
variable{X:Cx}{o value:Expr}{f:Str}{pos pos' tpos:Pos}{ta tv:TE}
end
section
variable{X:Cx}{σ:St}{H:Hp}{Q:Value→Shared→Prop}{c:Value}{b:Bool}
inductive TyOf(K:Ae)(H:Hp):V→Value→Prop where
 | non:TyOf K H .non (.type "NoneType")
 | bl (x:Bool):TyOf K H (.bl x) (.type "bool")
 | int (i:Int):TyOf K H (.int i) (.type "int")
 | str (x:Str):TyOf K H (.str x) (.type "str")
 | flt (x:UInt64):TyOf K H (.flt x) (.type "float")
 | lst {a:Addr} {xs:List V} (e:H a=some (.lst xs)):TyOf K H (.ref a) (.type "list")
 | frz {a:Addr} {o:Obj} {xs:List V} (e:H a=some (.frz o (.lst xs))):TyOf K H (.ref a) (.type "list")
 | tup {a:Addr} {xs:List V} (e:H a=some (.tup xs)):TyOf K H (.ref a) (.type "tuple")
 | dK {a:Addr} {kvs:List (Jq×V)} (e:H a=some (.dK kvs)):TyOf K H (.ref a) (.type "dict")
 | dT {a:Addr} {kvs:List (List Jq×V)} (e:H a=some (.dT kvs)):TyOf K H (.ref a) (.type "dict")
 | ins {a C dx:Addr} {fs:List (Str×V)} (e:H a=some (.ins C dx fs)) (cl:Cls K C) (ha:PySem.W.findIn K (.ref C) "__class__"=some (some (.builtin "object.__class__")))
  (hn:PySem.W.specialIn K (.builtin "object.__class__") "__get__"=some (some (.builtin "getset_descriptor.__get__"))) (htk:PySem.W.takesIn K (.builtin "object.__class__")=some true)
  (hm:PySem.W.mroIn K C (.type "object")=some true):TyOf K H (.ref a) (.ref C)
theorem ZM{x:V}{t:Value}(I:Inv X pins σ H s)(rx:RelV x u)(ty:TyOf X.K H x t)(e:PySem.W.kitOne X.K t c=some b)(h:∀tk,Q (.bool b) {s with toks:=tk}):
 wpAny (model X.prog X.w) A (call (.builtin "isinstance") [u,c]) Q E s:=by
 cases ty with
 | non=>cases(show u=Value.none from rx);exact Cp PySem.W.kitx_none I.kIn True.intro e (λz=>nomatch z) h
 | bl y=>cases(show u=Value.bool y from rx);exact Cp PySem.W.kitx_bool I.kIn True.intro e (λz=>nomatch z) h
 | int i=>obtain⟨t,q⟩:=(show ∃t,u=Value.int i t from rx);cases q;exact Cp PySem.W.kitx_int I.kIn True.intro e (λz=>nomatch z) h
 | str y=>obtain⟨t,q⟩:=(show ∃t,u=Value.str y t from rx);cases q;exact Cp PySem.W.kitx_str I.kIn True.intro e (λz=>nomatch z) h
 | flt y=>obtain⟨t,q⟩:=(show ∃t,u=Value.float y t from rx);cases q;exact Cp PySem.W.kitx_float I.kIn True.intro e (λz=>nomatch z) h
 | @lst a xs ea=> cases(show u=Value.ref a from rx);obtain⟨_,_,n,_,h1⟩:=(show ObjOk X.prog X.w H s.heap a (.lst xs) from I.hok a _ ea);exact Cp Ex I.kIn ⟨_,h1,rfl⟩ e (λz=>nomatch z) h
 | @frz a ob xs ea=> cases(show u=Value.ref a from rx);obtain⟨_,_,_,n,_,h1⟩:=(show ObjOk X.prog X.w H s.heap a (.frz ob (.lst xs)) from I.hok a _ ea);exact Cp Ex I.kIn ⟨_,h1,rfl⟩ e (λz=>nomatch z) h
 | @tup a xs ea=> cases(show u=Value.ref a from rx);obtain⟨_,_,_,p⟩:=(show ObjOk X.prog X.w H s.heap a (.tup xs) from I.hok a _ ea);obtain⟨o,h1,h2,_⟩:=p;exact Cp PySem.W.kitx_tuple I.kIn ⟨o,h1,h2⟩ e (λz=>nomatch z) h
 | @dK a kvs ea=> cases(show u=Value.ref a from rx);obtain⟨_,_,vs,_,p⟩:=(show ObjOk X.prog X.w H s.heap a (.dK kvs) from I.hok a _ ea);obtain⟨o,es,ep,h1,h2,_⟩:=p;exact Cp Ey I.kIn ⟨o,h1,h2.1⟩ e (λz=>nomatch z) h
 | @dT a kvs ea=> cases(show u=Value.ref a from rx);obtain⟨_,_,xs,_,o,es,ep,h1,h2,_⟩:=(show ObjOk X.prog X.w H s.heap a (.dT kvs) from I.hok a _ ea);exact Cp Ey I.kIn ⟨o,h1,h2.1⟩ e (λz=>nomatch z) h
 | @ins a C dx fs ea cl ha hn htk hm=> cases(show u=Value.ref a from rx);obtain⟨mA,O,_⟩:=ins_get I.hok ea;obtain⟨od,J,_⟩:=O.look;exact Cp (PySem.W.kitx_own (cl.get _) cl.hd ha hn htk hm) I.kIn J e (λz=>nomatch z) h
end
structure Room(k:Nat)(A:Cw):Prop where
 hd:A.handled=none
 dp:A.depth+3*k+5<recursionLimit
 un:A.units+16*k+200<cLine
 gd:A.guards=some []
theorem Room.mono{j k:Nat}(r:Room k A)(h:j≤k):Room j A:=⟨r.hd,by have:=r.dp;omega,by have:=r.un;omega,r.gd⟩
theorem Room.deeper{k:Nat}(r:Room (k+1) A)(env:Env):Room k (A.deeper env):=
 ⟨r.hd,by have:=r.dp;show A.depth+1+3*k+5<_;omega,by have:=r.un;show A.units+3+16*k+200<_;omega,r.gd⟩
theorem Room.depth{k:Nat}(r:Room k A):A.depth<recursionLimit:=by have:=r.dp;omega
theorem Room.units{k:Nat}(r:Room k A):A.units+64<cLine:=by have:=r.un;omega
def RF:TA:=λ_ H Q=>Q [] H
def Xo(ta:TE)(tr:TA):TA:=λσ H Q=>ta σ H λx H1=>tr σ H1 λxs H2=>Q (x::xs) H2
section
variable{X:Cx}{es:List Expr}{te:TE}{t:TA}{pos:Pos}
theorem IT:PA X [] RF:=λ_ _ _ _ H Q I h=>CV ⟨[],H,I,.nil,h⟩
theorem IS(ha:PE X e te)(hr:PA X es t)(hs:A9 (e::es) X.env=(false,eval e X.env)::A9 es X.env:=by rfl):PA X (e::es) (Xo te t):=by intro pos pins s σ H Q I h;rw[hs];show wpAny _ _ (spliced ((false,eval e X.env)::backTo pos (A9 es X.env))) _ _ s;refine CK (I_ (ha pins s σ H _ I h) λu s1 ⟨x,H1,I1,r1,q1⟩=>?_);exact I_ (hr pos pins s1 σ H1 _ I1 q1) λus s2 ⟨xs,H2,I2,r2,q2⟩=>⟨x::xs,H2,I2,.cons r1 r2,q2⟩
def RA(t:TA):TE:=λσ H Q=>t σ H λxs H1=>xs.length≤Az∧∀p,H1 p=none→Q (.ref p) (IU H1 p (.tup xs))
def RG(t:TA):TE:=λσ H Q=>t σ H λxs H1=>xs.length≤Az∧∀p,H1 p=none→Q (.ref p) (IU H1 p (.lst xs))
theorem JU{x1}(h:PA X es t):PE X (.Tuple es x1 pos) (RA t):=by intro pins s σ H Q I hq;refine wpAny_Tuple_spliced (I_ (h pos pins s σ H _ I hq) λus s1 ⟨xs,H1,I1,r,z,q⟩=>⟨by rw[←r.length];exact z,?_⟩);have hf:H1 s1.heap.objs.size=none:=I1.hok.fresh (Af _);refine⟨.ref s1.heap.objs.size,IU H1 s1.heap.objs.size (.tup xs),I1.laid (t':=s1.toks) (λb u e=>Ad _ e) (Af _) ?_,rfl,q _ hf⟩;exact⟨z,us,r,⟨_,Al _ rfl,rfl,rfl,_,rfl⟩⟩
theorem JM(h:PA X es t):PE X (.List es pos) (RG t):=by intro pins s σ H Q I hq;refine wpAny_List_spliced (I_ (h pos pins s σ H _ I hq) λus s1 ⟨xs,H1,I1,r,z,q⟩=>⟨by rw[←r.length];exact z,?_⟩);have hf:H1 s1.heap.objs.size=none:=I1.hok.fresh (Af _);refine⟨.ref s1.heap.objs.size,IU H1 s1.heap.objs.size (.lst xs),I1.laid (t':=s1.toks) (λb u e=>Ad _ e) (Af _) ?_,rfl,q _ hf⟩;exact⟨z,us,0,r,Al _ rfl⟩
end
abbrev Sp:=List V→Hp→VK→XK→Prop
abbrev L1:=List Env→Hp→Shared→XK→Value→Shared→Prop
structure Env0(P:Bw)(w:World)(K:Ae)(mg:Str→Option Value)(base:Heap)(A:Cw)(outer:List Env)(s:Shared)(H:Hp):Prop where
 frames:A.frames=some outer
 mod:Mod K mg base
 bs:∀b o,base.get? b=some o→s.heap.get? b=some o∧H b=none
 bsz:base.objs.size≤s.heap.objs.size
 funs:s.heap.FunFrames base outer
 frf:∀b∈Lv outer,H b=none
 hok:HOk P w H s.heap
 bare:AllBare s.gens
def CE(outer:List Env)(P:Bw)(w:World)(H:Hp)(s:Shared)(Q:VK)(u:Value)(s':Shared):Prop:=
 ∃v H',s'.os=s.os∧AllBare s'.gens∧Un (Lv outer) [] H H' s.heap s'.heap∧HOk P w H' s'.heap∧RelV v u∧Q v H'
def CR(CX:L1)(outer:List Env)(P:Bw)(w:World)(H:Hp)(s:Shared)(Q:VK)(E:XK)(r:Result)(s':Shared):Prop:=
 match r with
 | .ok (.ret u)=>CE outer P w H s Q u s'
 | .ok _=>False
 | .error e=>CX outer H s E e s'
structure FnOk(P:Bw)(w:World)(K:Ae)(mg:Str→Option Value)(base:Heap)(CX:L1)(k:Nat)(f:Addr)(fd:Cc)(ps:List Str)(sp:Sp):Prop where
 len:∀vs H Q E,sp vs H Q E→vs.length=ps.length
 run:∀(A:Cw)(outer:List Env)(s:Shared)(H:Hp)(args:Args)(us:List Value)(vs:List V)(Q:VK)(E:XK),Room k A→Env0 P w K mg base A outer s H→BindsTo s fd args (ps.zip us)→Vals vs us→sp vs H Q E→
  codeAny (model P w) A (.call (.ref f) args) (CR CX outer P w H s Q E) s
section
variable{X:Cx}{σ:St}{H:Hp}{s':Shared}
theorem Inv.env0(I:Inv X pins σ H s):Env0 X.prog X.w X.K X.mg X.base X.A X.stack s H:=
 ⟨I.ok.frames,I.ok.mod,I.bs,AM I.ok.bsz I.sz,I.stack,I.stkFree,I.hok,I.bare⟩
theorem Inv.after{Q:VK}(I:Inv X pins σ H s)(h:CE X.stack X.prog X.w H s Q u s'):EP X pins σ Q u s':=by obtain⟨v,H',os,bare,un,hok,r,q⟩:=h;obtain⟨hh,g,d,t,os'⟩:=s';obtain rfl:os'=s.os:=os;exact⟨v,H',I.call (h':=hh) (g':=g) (d':=d) (t':=t) (ch:=[]) un hok bare (λb z=>absurd z (by simp)),r,q⟩
end
def SS(sp:Sp)(dvs:List V)(E:XK)(t:TA):TE:=λσ H Q=>t σ H λvs H1=>sp (vs++dvs) H1 Q E
def Binds(K:Ae)(fd:Cc)(ps:List Str)(ds:List Value):Prop:=
 ∀(s:Shared)(us:List Value),K.In s.heap→(us++ds).length=ps.length→BindsTo s fd ⟨us,[]⟩ (ps.zip (us++ds))
theorem Binds.all{K:Ae}{fd:Cc}{ps:List Str}(h:∀us:List Value,us.length=ps.length→bindArgs fd ⟨us,[]⟩=pure (ps.zip us)):Binds K fd ps []:=λs us _ hl=>by rw[CG] at hl ⊢;exact .of_eq (h us hl)
def PK(CX:L1)(X:Cx)(E:XK):Prop:=∀(pins:List (Addr×Obj))(σ:St)(H:Hp)(s:Shared)(e:Value)(s':Shared),Inv X pins σ H s→CX X.stack H s E e s'→X.xe e s'
section
variable{X:Cx}{CX:L1}{k:Nat}{f C:Addr}{fd:Cc}{ps:List Str}{sp:Sp}{dvs:List V}{ds:List Value}{E:XK}{x m:Str}{p pos apos:Pos}{o:Expr}{es:List Expr}{ta:TE}{t:TA}
theorem Yf{pins:List (Addr×Obj)}{σ:St}{H:Hp}{s:Shared}{Q:VK}{us:List Value}{vs:List V}(F:FnOk X.prog X.w X.K X.mg X.base CX k f fd ps sp)(hr:Room k X.A)(hb:Binds X.K fd ps ds)(hd:Vals dvs ds)(hx:PK CX X E)
 (I:Inv X pins σ H s) (r:Vals vs us) (h:sp (vs++dvs) H Q E):wpAny (model X.prog X.w) X.A (call (.ref f) us) (EP X pins σ Q) X.xe s:=by
 have r2:Vals (vs++dvs) (us++ds):=r.append hd;have hl:(us++ds).length=ps.length:=by rw[←r2.length];exact F.len _ _ _ _ h
 refine wpAny_call (Cn (F.run X.A X.stack s H ⟨us,[]⟩ (us++ds) (vs++dvs) Q E hr I.env0 (hb s us I.kIn hl) r2 h) λr s' hq=>?_);cases r with
 | error e=>exact hx pins σ H s e s' I hq
 | ok fl=>
  cases fl with
  | ret u=>exact I.after hq
  | next=>exact Dp hq
  | brk=>exact Dp hq
  | cont=>exact Dp hq
theorem YO(F:FnOk X.prog X.w X.K X.mg X.base CX k f fd ps sp)(hr:Room k X.A)(hg:Gl X x)(hm:X.mg x=some (.ref f))(hk:Fd X.K (.ref f)=true)(hb:Binds X.K fd ps ds)(hd:Vals dvs ds)(hx:PK CX X E)
 (ha:PA X (e::es) t) (hdb:(x==("__debug__":Str))=false:=by decide) (he:A9 (e::es) X.env=(false,eval e X.env)::A9 es X.env:=by rfl) (hpl:(backTo pos (A9 es X.env)).any (·.1)=false:=by rfl):
 PE X (.Call (.Name x p) (e::es) [] pos) (SS sp dvs E t):=by
 intro pins s σ H Q I h;refine Bq (TW I hg hm ?_ hdb);refine PySem.W.callWith_K (h₀:=X.base) I.ok.mod.kin hk (I_ (ha pos pins s σ H _ I h) λus s1 ⟨vs,H1,I1,r,q⟩=>⟨I1.kIn,?_⟩) he hpl;exact Yf F hr hb hd hx I1 r q
end
section
variable{X:Cx}{CX:L1}{k:Nat}{f C:Addr}{fd:Cc}{ps ks:List Str}{sp:Sp}{E:XK}{x m:Str}{p pos apos kpos:Pos}{o:Expr}{es:List Expr}{kws:List Keyword}{te ta:TE}{t tk:TA}{nm:Option Str}
variable{g:List Value→List Value→List Value}{gV:List V→List V→List V}
end
structure FnScope(N P:List Str)(sc:Scope):Prop where
 kind:sc.kind= .function
 co:sc.isCoroutine=false
 gen:sc.isGenerator=false
 nd:N.Nodup
 pre:N.take P.length=P
 par:∀x∈P,sc.names.lookup x=some .local∨sc.names.lookup x=some .cell
 nofree:∀y∈sc.names,y.2≠ .free
theorem V3{kindOf:Str→Option NameKind}{x:Str}:∀{binds:List (Str×Value)}{m:Str→Option Value},(∀v,(x,v) ∉ binds)→bindL kindOf binds m x=m x
 | [],_,_=>rfl
 | (n,v)::r,m,h=>by
  unfold bindL;rw[V3 λw hw=>h w (Aj _ hw)]
  split
  · have:x≠n:=by rintro rfl;exact h v Ai
    simp[this]
  · rfl
theorem V1{kindOf:Str→Option NameKind}{x:Str}:∀{binds:List (Str×Value)}{m:Str→Option Value},(∀v,(x,v) ∉ binds)→bindC kindOf binds m x=m x
 | [],_,_=>rfl
 | (n,v)::r,m,h=>by
  unfold bindC;rw[V1 λw hw=>h w (Aj _ hw)]
  split
  · rfl
  · have:x≠n:=by rintro rfl;exact h v Ai
    simp[this]
theorem V2{kindOf:Str→Option NameKind}{x:Str}{v:Value}:∀{P:List Str}{vs:List Value}{i:Nat}{m:Str→Option Value},P.Nodup→P[i]?=some x→vs[i]?=some v→kindOf x=some .local→
 bindL kindOf (P.zip vs) m x=some v
 | [],_,_,_,_,h,_,_=>by simp at h
 | _::_,[],_,_,_,_,h,_=>by simp at h
 | p::P,w::vs,0,m,nd,h1,h2,hk=>by simp at h1 h2;subst h1;subst h2;show bindL kindOf ((p,w)::P.zip vs) m p=_;unfold bindL;rw[V3 λv hv=>(Cg.mp nd).1 (Gq hv).1,if_pos hk];simp
 | p::P,w::vs,i+1,m,nd,h1,h2,hk=>by show bindL kindOf ((p,w)::P.zip vs) m x=_;unfold bindL;exact V2 (i:=i) (Cg.mp nd).2 (by simpa using h1) (by simpa using h2) hk
theorem V0{kindOf:Str→Option NameKind}{x:Str}{v:Value}:∀{P:List Str}{vs:List Value}{i:Nat}{m:Str→Option Value},P.Nodup→P[i]?=some x→vs[i]?=some v→kindOf x≠some .local→
 bindC kindOf (P.zip vs) m x=some v
 | [],_,_,_,_,h,_,_=>by simp at h
 | _::_,[],_,_,_,_,h,_=>by simp at h
 | p::P,w::vs,0,m,nd,h1,h2,hk=>by simp at h1 h2;subst h1;subst h2;show bindC kindOf ((p,w)::P.zip vs) m p=_;unfold bindC;rw[V1 λv hv=>(Cg.mp nd).1 (Gq hv).1,if_neg hk];simp
 | p::P,w::vs,i+1,m,nd,h1,h2,hk=>by show bindC kindOf ((p,w)::P.zip vs) m x=_;unfold bindC;exact V0 (i:=i) (Cg.mp nd).2 (by simpa using h1) (by simpa using h2) hk
def start(N:List Str)(vs:List V):St:=vs.map some++AR (N.length - vs.length) none
def KW(CX:L1)(P:Bw)(w:World)(K:Ae)(mg:Str→Option Value)(base:Heap)(N:List Str)(qual:Str)(scope:Scope)(f:Addr)(cd:Value)(A:Cw)(outer:List Env)(s:Shared)(H:Hp)(E:XK):Cx where
 prog:=P
 w:=w
 K:=K
 mg:=mg
 base:=base
 A:=A.deeper (envOfC qual scope s.heap.objs.size f cd)
 N:=N
 s₀:=s
 H₀:=H
 env:=envOfC qual scope s.heap.objs.size f cd
 outer:=outer
 stack:=envOfC qual scope s.heap.objs.size f cd::outer
 ex:=[]
 calm:=true
 fn:=λ_=>true
 pn:=[]
 xe:=λe s'=>wpAny (model P w) (A.deeper (envOfC qual scope s.heap.objs.size f cd)) (leaving (envOfC qual scope s.heap.objs.size f cd) e) (λ_ s''=>CX outer H s E e s'') (λe' s''=>CX outer H s E e' s'') s'
theorem UD{sc:Scope}{x:Str}(h:sc.names.lookup x=some .cell):∃c,(Cq n sc.names []).lookup x=some c:=by have q:=Df sc.names n [] (.inl h);exact FM.mp q
theorem ZJ{CX:L1}{P:Bw}{w:World}{K:Ae}{mg:Str→Option Value}{base:Heap}{N ps:List Str}{qual:Str}{scope:Scope}{f:Addr}{cd:Value}{A:Cw}{outer:List Env}{s s1:Shared}{H:Hp}{E:XK}{us:List Value}{vs:List V}
 (S:FnScope N ps scope) (hd:A.handled=none) (e0:Env0 P w K mg base A outer s H) (hl:vs.length=ps.length) (r:Vals vs us)
 (x:InCallC s s.heap.objs.size (bindL (envOfC qual scope s.heap.objs.size f cd).kindOf (ps.zip us) λ_=>none) (Cq (s.heap.objs.size+1) scope.names []) (bindC (envOfC qual scope s.heap.objs.size f cd).kindOf (ps.zip us) λ_=>none) s1):
 Inv (KW CX P w K mg base N qual scope f cd A outer s H E) [] (start N vs) H s1:=by
 have hpl:ps.length≤N.length:=by have:=congrArg CP S.pre;rw[AE] at this;omega
 obtain⟨h1,tk,rfl,hk⟩:=x.done;have noA:∀b:Addr,b ∉ (KW CX P w K mg base N qual scope f cd A outer s H E).ex:=λb z=>absurd (show b∈([]:List Addr) from z) (by simp);refine⟨⟨e0.mod,S.kind,rfl,rfl,Af _,λy z c h1 h2=>?_,λy hy=>?_,λy c _ h=>?_,λ_=>hd,Around.frames_deeper e0.frames,.inr ⟨rfl,rfl⟩,λb z=>absurd z (noA b),e0.bs,e0.bsz,λb _ _=>noA b,λb z=>absurd z (noA b),e0.funs,e0.frf⟩,
  rfl,e0.bare,Un.kept hk,⟨_,x.toInCall.ns,λi y v h1 h2 h3=>?_⟩,λy c h=>⟨_,x.cell y c h⟩,e0.hok.fresh (Af _),λy c h=>?_,λp hp=>absurd (show p∈([]:List (Addr×Obj)) from hp) (by simp),e0.hok.kept hk,?_⟩
 · exact name_of_addr x.apart (Dv h1) (Dv h2)
 · have hy:scope.names.lookup y=some .cell∨scope.names.lookup y=some .free:=hy;rcases hy with hy | hy
   · exact UD hy
   · exact absurd rfl (S.nofree _ (Dv hy))
 · exact AZ (x.above y c (Dv h))
 · have hi:i<vs.length:=by
    unfold start at h2;by_cases hi:i<vs.length
    · exact hi
    · rw[Ct (by simpa using hi)] at h2;rw[List.getElem?_replicate] at h2
      split at h2<;>cases h2
   have ha:vs[i]?=some v:=by
    unfold start at h2;rw[BQ (by simpa using hi),Am] at h2;cases e:vs[i]? with
    | none=>rw[e] at h2;cases h2
    | some a=>rw[e] at h2;cases h2;rfl
   obtain⟨u,hu,rv⟩:=r.get ha;have hp:ps[i]?=some y:=by rw[←S.pre,List.getElem?_take_of_lt (by omega)];exact h1
   have ndP:ps.Nodup:=by rw[←S.pre];exact S.nd.sublist (Ez _ _)
   refine⟨u,rv,?_⟩;rcases S.par y (Av hp) with k | k
   · exact .inl ⟨k,V2 ndP hp hu k⟩
   · obtain⟨c,e⟩:=UD (n:=s.heap.objs.size+1) k;refine .inr ⟨.inl k,c,e,?_⟩;have q:=x.cell y c e;rw[V0 ndP hp hu (by show scope.names.lookup y≠_;rw[k];decide)] at q;exact q
 · exact e0.hok.fresh (AZ (x.above y c (Dv h)))
 · unfold start;show _=N.length;rw[A5,Ab,BK];omega
theorem X5{CX:L1}{P:Bw}{w:World}{K:Ae}{mg:Str→Option Value}{base:Heap}{k:Nat}{f:Addr}{name qual:Str}{params:Arguments}{body:List Stmt}{scope:Scope}{dV kV doc pm cdv ct oc:Value}{an od:Option Addr}
 {osl:Array (Option Value)} {N ps:List Str} {sp:Sp} (lk:K.lookup f=some ⟨oc,od,.func (DB name qual params body scope dV kV doc pm an cdv ct),osl⟩) (hcd:GC K cdv qual=true) (S:FnScope N ps scope)
 (len:∀vs H Q E,sp vs H Q E→vs.length=ps.length)
 (hbody:∀(A:Cw)(outer:List Env)(s:Shared)(H:Hp)(vs:List V)(Q:VK)(E:XK),Room k (A.deeper (envOfC qual scope s.heap.objs.size f cdv))→sp vs H Q E→
  ∃t,PSs (KW CX P w K mg base N qual scope f cdv A outer s H E) body t∧t {nx:=λ_ H'=>Q .non H',rt:=Q} (start N vs) H):
 FnOk P w K mg base CX (k+1) f (DB name qual params body scope dV kV doc pm an cdv ct) ps sp:=by
 refine⟨len,λA outer s H args us vs Q E hr e0 hb r hsp=>?_⟩;have hl:=len _ _ _ _ hsp;have KX:K.In s.heap:=e0.mod.kin.keeps λb o e=>(e0.bs b o e).1;have lim:s.heap.NoLimit:=e0.mod.nolimit.keeps λb o e=>(e0.bs b o e).1;have hkind:∀y∈ps.zip us,scope.names.lookup y.1=some .local∨(scope.names.lookup y.1=some .cell∧((Cq (s.heap.objs.size+1) scope.names []).lookup y.1).isSome=true):=λ⟨n,v⟩ hy=>by
  rcases S.par n (Gq hy).1 with q | q
  · exact .inl q
  · exact .inr ⟨q,Df _ _ _ (.inl q)⟩
 refine codeAny_call_function hr.depth (KX _ _ lk) rfl S.co S.gen rfl (PySem.W.codeRec_of KX hcd) (hb _ _ _ _ ?_);refine wpAny_newFunctionEnv_cells S.kind hkind λenv he s1 x=>?_;subst he;refine⟨lim.keeps x.toInCall.keep,codeAny_func ?_⟩;obtain⟨t,ht,hq⟩:=hbody A outer s H vs Q E (hr.deeper _) hsp;have I:Inv (KW CX P w K mg base N qual scope f cdv A outer s H E) [] (start N vs) H s1:=ZJ S hr.hd e0 hl r x;refine AB (ht [] s1 (start N vs) H _ I hq) (λfl s' hs=>?_) λe s' hs=>hs;have fin:∀{σ':St}{H':Hp}{v:V}{u:Value},Inv (KW CX P w K mg base N qual scope f cdv A outer s H E) [] σ' H' s'→RelV v u→Q v H'→CE outer P w H s Q u s':=
  λ{σ' H' v u}J rv q=>⟨v,H',J.os,J.bare,J.base,J.hok,rv,q⟩
 cases fl with
 | ret u=> obtain⟨v,σ',H',J,rv,q⟩:=hs;exact fin J rv q
 | next=> obtain⟨σ',H',J,q⟩:=hs;exact fin (v:=V.non) (u:=Value.none) J rfl q
 | brk=> obtain⟨_,_,_,q⟩:=hs;exact Dp q
 | cont=> obtain⟨_,_,_,q⟩:=hs;exact Dp q
section
variable{X:Cx}{x:Str}{p pos:Pos}{es:List Expr}{t:TA}{id T:String}{r:List V→Hp→VK→Prop}
def W1(r:List V→Hp→VK→Prop)(t:TA):TE:=λσ H Q=>t σ H λvs H1=>r vs H1 Q
theorem Jm(hc:Ko X (.builtin id) r)(hg:Gl X x)(hm:X.mg x=none)(hv:Bm x=some (.builtin id))(ha:PA X (e::es) t)(hn:x≠"__name__":=by decide)(hdb:(x==("__debug__":Str))=false:=by decide)
 (he:A9 (e::es) X.env=(false,eval e X.env)::A9 es X.env:=by rfl) (hpl:(backTo pos (A9 es X.env)).any (·.1)=false:=by rfl):PE X (.Call (.Name x p) (e::es) [] pos) (W1 r t):=by
 intro pins s σ H Q I h;refine Bq (K2 I hg hm hv ?_ hn hdb);exact Cy (I_ (ha pos pins s σ H _ I h) λus s1 ⟨vs,H1,I1,r1,q1⟩=>hc pins s1 σ H1 vs us Q I1 r1 q1) he hpl
theorem MB(hc:Ko X (.type T) r)(hg:Gl X x)(hm:X.mg x=none)(hv:Bm x=some (.type T))(ha:PA X (e::es) t)(hn:x≠"__name__":=by decide)(hdb:(x==("__debug__":Str))=false:=by decide)
 (he:A9 (e::es) X.env=(false,eval e X.env)::A9 es X.env:=by rfl) (hpl:(backTo pos (A9 es X.env)).any (·.1)=false:=by rfl):PE X (.Call (.Name x p) (e::es) [] pos) (W1 r t):=by
 intro pins s σ H Q I h;refine Bq (K2 I hg hm hv ?_ hn hdb);exact Bp (I_ (ha pos pins s σ H _ I h) λus s1 ⟨vs,H1,I1,r1,q1⟩=>hc pins s1 σ H1 vs us Q I1 r1 q1) he hpl
end
end L2
variable{H:L2.Hp}{X:L2.Cx}{σ:L2.St}{xs:List L2.V}{x:PySem.Str}
namespace HT
open PySem PyProof.Rows
section
open PySem.SeqAt
open PySem.AutoSeq1 (wpAny_loadPart')
open PySem.MeetsSeq PySem.MeetsSeq2 PySem.MeetsSeq3
end
theorem cat_tup{t:Addr}{vs ws:List Value}{Q:Value→Shared→Prop}(ht:IsTup s.heap t vs.toArray)(hb:IsTup s.heap b ws.toArray)(hv:vs≠[])
 (h1:ws=[]→Q (.ref t) s) (h2:ws≠[]→Q (.ref s.heap.objs.size) {s with heap:=s.heap.push {cls:= .type "tuple",data:= .seq (vs++ws).toArray}})
 (hsz:vs.length+ws.length≤Az):wpAny (model prog w) A (binaryOp .Add (.ref t) (.ref b)) Q E s:=by
 obtain⟨⟨cls,dd,data,sl⟩,ho,hc,n,hd⟩:=id ht;obtain⟨⟨cls2,dd2,data2,sl2⟩,ho2,hc2,n2,hd2⟩:=id hb;simp only at hc hd hc2 hd2;subst hc hd hc2 hd2;have e:vs.toArray++ws.toArray=(vs++ws).toArray:=by simp
 by_cases hw:ws=[]
 · exact concat_meets ⟨_,ho,rfl⟩ ⟨_,ho2,rfl⟩ noFill_tuple_add seq_tuple_add E6 Ew (El _ _)
    (tuple_addW1 t b vs.toArray ws.toArray n n2 dd dd2 sl sl2 (by simpa using hv) (by simp[hw])) ⟨ho,ho2,h1 hw⟩
 · refine concat_meets ⟨_,ho,rfl⟩ ⟨_,ho2,rfl⟩ noFill_tuple_add seq_tuple_add E6 Ew (El _ _)
    (tuple_addW2 t b vs.toArray ws.toArray n n2 dd dd2 sl sl2 (by simpa using hv) (by simpa using hw) (by rw[Aw,Aw];exact hsz)) ⟨ho,ho2,?_⟩
   rw[e];exact h2 hw
def sIx(n d:Nat):Option Int→Nat
 | none=>d
 | some v=>if v<0 then(v+(n:Int)).toNat else min v.toNat n
theorem sIx_none(n d:Nat):sIx n d none=d:=rfl
theorem sIx_nat(n d k:Nat):sIx n d (some (k:Int))=min k n:=by
 show(if(k:Int)<0 then((k:Int)+(n:Int)).toNat else min (k:Int).toNat n)=min k n
 rw[if_neg (by omega),AU]
theorem Yg(n d:Nat)(hd:d≤n)(o:Option Int):sIx n d o≤n:=by
 cases o with
 | none=>exact hd
 | some v=>
  show(if v<0 then(v+(n:Int)).toNat else min v.toNat n)≤n
  by_cases hv:v<0
  · rw[if_pos hv];omega
  · rw[if_neg hv];exact Nat.min_le_right _ _
theorem T_(v:Int)(n d:Nat):(if v<0 then max (v+(n:Int)) 0 else min v (n:Int))=((sIx n d (some v):Nat):Int):=by
 show(if v<0 then max (v+(n:Int)) 0 else min v (n:Int))=(((if v<0 then(v+(n:Int)).toNat else min v.toNat n):Nat):Int)
 by_cases hv:v<0
 · simp only[if_pos hv];omega
 · simp only[if_neg hv];omega
theorem zi8(lo hi:Option Int)(n:Nat):DZ lo hi 1 (n:Int)=(((sIx n 0 lo:Nat):Int),((sIx n n hi:Nat):Int)):=by
 have h1:¬((1:Int)<0):=by omega
 unfold DZ;simp only[h1,if_false];refine Prod.ext ?_ ?_
 · cases lo with
   | none=>rfl
   | some v=>exact T_ v n 0
 · cases hi with
   | none=>rfl
   | some v=>exact T_ v n n
theorem ziL(i j:Nat):Dq (i:Int) (j:Int) 1=j - i:=by
 unfold Dq;have h1:(1:Int)>0:=by omega
 simp only[h1,if_true,Int.ediv_one]
 split<;>omega
theorem Wa{v:Value}{o:Option Int}{Q:Option Int→Shared→Prop}(p:IsPart v o)(h:Q o s):wpAny (model prog w) A (Builtin.Slice.slicePartIndex v) Q E s:=by
 cases p with
 | none=>exact slicePart_none h
 | int i t=>exact slicePart_int h
theorem sliceApplied_gen{sl:Addr}{vl vu:Value}{lo hi:Option Int}{n:Nat}{Q:Int×Int×Nat→Shared→Prop}(hs:s.heap.IsSliceOf sl vl vu .none)(pl:IsPart vl lo)(pu:IsPart vu hi)
 (h:Q (((sIx n 0 lo:Nat):Int),1,sIx n n hi - sIx n 0 lo) s):wpAny (model prog w) A (Fs (.ref sl) (pure (n:Int))) Q E s:=by
 obtain⟨os,hos,hcs,hds⟩:=id hs;unfold Fs Builtin.Slice.sliceFields;refine Aa (Aa (BA hos hds (x:=vl) rfl (Aa (BA hos hds (x:=vu) rfl (Aa (BA hos hds (x:= .none) rfl (Ac ?_)))))));refine Aa (slicePart_none ?_);show wpAny _ _ (if((1:Int)==0)=true then _ else _) _ _ s
 rw[if_neg (by decide)];refine Aa (Wa pl (Aa (Wa pu (Aa (Ac ?_)))));show wpAny _ _ (match DZ lo hi 1 (n:Int) with | (lo,hi)=>pure (lo,(1:Int),Dq lo hi 1)) _ _ s
 rw[zi8 lo hi n];show wpAny _ _ (pure (((sIx n 0 lo:Nat):Int),(1:Int),Dq ((sIx n 0 lo:Nat):Int) ((sIx n n hi:Nat):Int) 1)) _ _ s;rw[ziL];exact Ac h
theorem YW(xs:Array Value)(i k:Nat):((AG k).filterMap λ(m:Nat)=>xs[((i:Int)+(m:Int)*1).toNat]?).toArray=((xs.toList.drop i).take k).toArray:=by
 have e:(λ(m:Nat)=>xs[((i:Int)+(m:Int)*1).toNat]?)=λm=>xs[i+m]?:=by
  funext m;have:((i:Int)+(m:Int)*1).toNat=i+m:=by omega
  rw[this]
 rw[e];have:=pick_run xs i k;rw[List.filterMap_map] at this;have e2:((λx=>xs[x]?)∘λx=>i+x)=λm=>xs[i+m]?:=rfl;rw[e2] at this;rw[this]
theorem getItem_tuple_cut{t sl:Addr}{items:Array Value}{vl vu:Value}{lo hi:Option Int}{Q:Value→Shared→Prop}(ht:IsTup s.heap t items)(hs:s.heap.IsSliceOf sl vl vu .none)(pl:IsPart vl lo)(pu:IsPart vu hi)
 (hw:¬(sIx items.size 0 lo=0∧sIx items.size items.size hi=items.size))
 (h:Q (.ref s.heap.objs.size) {s with heap:=s.heap.push {cls:= .type "tuple",data:= .seq ((items.toList.drop (sIx items.size 0 lo)).take (sIx items.size items.size hi - sIx items.size 0 lo)).toArray}})
 (hsz:items.size≤Az):wpAny (model prog w) A (getItem (.ref t) (.ref sl)) Q E s:=by
 have htake:sizeOk (.seq ((items.toList.drop (sIx items.size 0 lo)).take (sIx items.size items.size hi - sIx items.size 0 lo)).toArray):=by show((items.toList.drop (sIx items.size 0 lo)).take (sIx items.size items.size hi - sIx items.size 0 lo)).toArray.size≤Az;rw[Aw,AE,Dt,Ah];omega
 have hj:sIx items.size items.size hi≤items.size:=Yg _ _ (Af _) hi;obtain⟨os,hos,hcs,hds⟩:=id hs;have hTs:s.TypeIs (.ref sl) "slice":=⟨os,hos,hcs⟩;unfold getItem
 try with_reducible refine AF ?_
 first | refine Aa (Ac ?_) | skip
 refine Aa (wpAny_sequenceKey ht.typeIs (by decide) ?_);refine Aa (Bn (name:=C6 "__getitem__") ht.typeIs Cb
  (AT Cb ht.typeIs entry_tuple_getitem ?_ (args_tuple_getitem _ _)))
 show wpAny _ _ (DT (.ref t)>>=_) _ _ s;refine Aa (tupleItemsOf_ ht ?_);refine Aa (C7 hTs ?_);rw[if_pos (by decide)];refine Aa (sliceApplied_gen hs pl pu ?_);have hno:¬((((sIx items.size 0 lo:Nat):Int)==0 && (1:Int)==1 && (sIx items.size items.size hi - sIx items.size 0 lo)==items.size)=true):=by intro q;rw[AX,AX] at q;have q1:((sIx items.size 0 lo:Nat):Int)=0:=eq_of_beq q.1.1;have q2:sIx items.size items.size hi - sIx items.size 0 lo=items.size:=eq_of_beq q.2;exact hw ⟨by omega,by omega⟩
 show wpAny _ _ (if(((sIx items.size 0 lo:Nat):Int)==0 && (1:Int)==1 && (sIx items.size items.size hi - sIx items.size 0 lo)==items.size)=true then _ else _) _ _ s
 rw[if_neg hno,YW]
 first
  | exact Aa (m:=Du _) (Bo (Ac ⟨_,rfl,Ac h⟩) htake)
  | exact Aa (m:=Du _) (Bo (Aa (Ac (Ac ⟨_,rfl,Ac h⟩))) htake)
  | exact Aa (Aa (m:=Du _) (Bo (Ac (Ac ⟨_,rfl,Ac h⟩)) htake))
  | exact Aa (Aa (m:=Du _) (Bo (Ac ⟨_,rfl,Ac h⟩) htake))
end HT
namespace L2
abbrev TO:=St→Hp→(Option Int→Hp→Prop)→Prop
def PO(X:Cx)(e:Option Expr)(t:TO):Prop:=
 ∀(pins:List (Addr×Obj))(s:Shared)(σ:St)(H:Hp)(Q:Option Int→Hp→Prop),Inv X pins σ H s→t σ H Q→
  wpAny (model X.prog X.w) X.A (evalPart e X.env) (λu s'=>∃o H',Inv X pins σ H' s'∧IsPart u o∧Q o H') X.xe s
def Ux:TO:=λ_ H Q=>Q none H
def Xu(t:TE):TO:=λσ H Q=>t σ H λx H1=>∃i,x= .int i∧Q (some i) H1
section
variable{te:TE}{lo hi:Option Expr}{tl th:TO}{pos p2:Pos}
theorem Ld:PO X none Ux:=by intro pins s σ H Q I h;rw[evalPart_none];exact Ac ⟨none,H,I,.none,h⟩
theorem Le(h:PE X e te):PO X (some e) (Xu te):=by intro pins s σ H Q I hw;rw[evalPart_some];refine I_ (h pins s σ H _ I hw) λu s1 ⟨x,H1,I1,r1,q1⟩=>?_;obtain⟨i,rfl,q⟩:=q1;obtain⟨t,rfl⟩:=r1;exact⟨some i,H1,I1,.int i t,q⟩
def Nj(X:Cx)(r:V→Option Int→Option Int→Hp→VK→Prop):Prop:=
 ∀(pins:List (Addr×Obj))(s:Shared)(σ:St)(H:Hp)(x:V)(v vl vu:Value)(lo hi:Option Int)(sl:Addr)(Q:VK),Inv X pins σ H s→RelV x v→s.heap.IsSliceOf sl vl vu .none→IsPart vl lo→IsPart vu hi→r x lo hi H Q→
  ∃T id,typeLookup (.type T) "__getitem__"=pure (some (.builtin id))∧s.TypeIs v T∧wpAny (model X.prog X.w) X.A (getItem v (.ref sl)) (EP X pins σ Q) X.xe s
def tSl(r:V→Option Int→Option Int→Hp→VK→Prop)(te:TE)(tl th:TO):TE:=λσ H Q=>te σ H λx H1=>tl σ H1 λl H2=>th σ H2 λu H3=>r x l u H3 Q
theorem Lg{r:V→Option Int→Option Int→Hp→VK→Prop}(hr:Nj X r)(he:PE X e te)(hl:PO X lo tl)(hu:PO X hi th):PE X (.Subscript e (.Slice lo hi none p2) pos) (tSl r te tl th):=by
 intro pins s σ H Q I h;refine Subscript_ (I_ (he pins s σ H _ I h) λv s1 ⟨x,H1,I1,r1,q1⟩=>?_);refine wpAny_Slice (I_ (hl pins s1 σ H1 _ I1 q1) λvl s2 ⟨l,H2,I2,pl,q2⟩=>I_ (hu pins s2 σ H2 _ I2 q2) λvu s3 ⟨u,H3,I3,pu,q3⟩=>?_);rw[evalPart_none];refine Ac ?_;have I4:Inv X pins σ H3 {s3 with heap:=s3.heap.push {cls:= .type "slice",data:= .fields #[vl,vu,.none]}}:=I3.kept (t':=s3.toks) λb ob q=>Ad _ q
 obtain⟨T,id,hT,ht,hg⟩:=hr pins {s3 with heap:=s3.heap.push {cls:= .type "slice",data:= .fields #[vl,vu,.none]}} σ H3 x v vl vu l u s3.heap.objs.size Q I4 r1 (Heap.IsSliceOf.new ..) pl pu q3;show wpAny (model X.prog X.w) X.A (subscriptTail e (.Slice lo hi none p2) v (.ref s3.heap.objs.size)) (EP X pins σ Q) X.xe {s3 with heap:=s3.heap.push {cls:= .type "slice",data:= .fields #[vl,vu,.none]}};exact tail_any (ops:=[.ref s3.heap.objs.size,v]) ht hT hg (by with_unfolding_all rfl)
def J2(xs:List V)(lo hi:Option Int):List V:=(xs.drop (HT.sIx xs.length 0 lo)).take (HT.sIx xs.length xs.length hi - HT.sIx xs.length 0 lo)
theorem VQ(xs:List V)(lo hi:Option Int):(J2 xs lo hi).length≤xs.length:=by unfold J2;rw[AE,Dt];omega
def RP(K:Ae):V→Option Int→Option Int→Hp→VK→Prop:=λx lo hi H Q=>∃a xs,x= .ref a∧SqT K H a xs∧
 ¬(HT.sIx xs.length 0 lo=0∧HT.sIx xs.length xs.length hi=xs.length)∧∀p,H p=none→Q (.ref p) (IU H p (.tup (J2 xs lo hi)))
theorem Yh:Nj X (RP X.K):=by
 intro pins s σ H x v vl vu lo hi sl Q I rx hs pl pu h;obtain⟨a,xs,rfl,hx,hw,q⟩:=h;cases rx;obtain⟨its,r,ht,hz⟩:=I.tuple hx;have hlen:its.toArray.size=xs.length:=by rw[Aw];exact r.length.symm
 refine⟨"tuple",_,Cb.lookup,ht.typeIs,?_⟩;refine HT.getItem_tuple_cut ht hs pl pu (by rw[hlen];exact hw) ?_ (by rw[hlen];exact hz);rw[hlen];refine⟨.ref s.heap.objs.size,_,I.laid (t':=s.toks) (o:= .tup (J2 xs lo hi)) (λb ob q=>Ad _ q) (Af _) ?_,rfl,q _ (I.hok.fresh (Af _))⟩;exact⟨AM (VQ xs lo hi) hz,_,(r.drop (HT.sIx xs.length 0 lo)).take (HT.sIx xs.length xs.length hi - HT.sIx xs.length 0 lo),IsTupP.new _ _⟩
theorem Vals.nil_iff(r:Vals xs us):us=[]↔xs=[]:=by
 cases r with
 | nil=>simp
 | cons _ _=>simp
end
def LG(n:Nat)(i:Int):Option Nat:=if 0≤i then(if i<n then some i.toNat else none) else if -(n:Int)≤i then some (i+n).toNat else none
def JI{α:Type}(xs:List α)(i:Int):Option α:=(LG xs.length i).bind λj=>xs[j]?
theorem Qi{i:Int}{j:Nat}(h:LG n i=some j):seqIndex? i n=some j∧j<n∧ -(n:Int)≤i∧i<n:=by
 unfold LG at h;by_cases h0:0≤i
 · rw[if_pos h0] at h;by_cases h1:i<n
   · rw[if_pos h1] at h;have e:i.toNat=j:=AD h;exact⟨by rw[seqIndex_of h0 h1,e],by omega,by omega,h1⟩
   · rw[if_neg h1] at h;cases h
 · rw[if_neg h0] at h;by_cases h1: -(n:Int)≤i
   · rw[if_pos h1] at h;have e:(i+n).toNat=j:=AD h;exact⟨by rw[seqIndex_neg (by omega) h1,e],by omega,h1,by omega⟩
   · rw[if_neg h1] at h;cases h
theorem Qe{α:Type}{xs:List α}{i:Int}{v:α}(h:JI xs i=some v):∃j,seqIndex? i xs.length=some j∧xs[j]?=some v∧j<xs.length∧ -(xs.length:Int)≤i∧i<xs.length:=by
 unfold JI at h;cases e:LG xs.length i with
 | none=>rw[e] at h;cases h
 | some j=> rw[e] at h;obtain⟨h1,h2,h3,h4⟩:=Qi e;exact⟨j,h1,h,h2,h3,h4⟩
theorem K7{α:Type}{xs:List α}{j:Nat}{v:α}(h:xs[j]?=some v):JI xs (j:Int)=some v:=by
 have hj:j<xs.length:=(Au.mp h).1;have e:LG xs.length (j:Int)=some j:=by unfold LG;rw[if_pos (by omega),if_pos (by omega)];simp
 unfold JI;rw[e];exact h
def X9(b:Expr):Prop:=∀o i,subscripted b false o i=operate [o,i] (getItem o i)
def Mt(X:Cx)(r:R2):Prop:=
 ∀(value slice:Expr)(pins:List (Addr×Obj))(s:Shared)(σ:St)(H:Hp)(x y:V)(v u:Value)(Q:VK),Inv X pins σ H s→RelV x v→RelV y u→r x y H Q→
  subscripted slice false v u=operate [v,u] (getItem v u)→wpAny (model X.prog X.w) X.A (subscriptTail value slice v u) (EP X pins σ Q) X.xe s
def Sy(X:Cx)(id:String)(r:V→List V→Hp→VK→Prop):Prop:=
 ∀(pins:List (Addr×Obj))(s:Shared)(σ:St)(H:Hp)(x:V)(xs:List V)(v:Value)(us:List Value)(Q:VK),Inv X pins σ H s→RelV x v→Vals xs us→r x xs H Q→
  wpAny (model X.prog X.w) X.A (call (.builtin id) (v::us)) (EP X pins σ Q) X.xe s
section
variable{a b:Expr}{ta tb:TE}{pos:Pos}
theorem Jx{r:R2}(hr:Mt X r)(ha:PE X a ta)(hb:PE X b tb)(hs:X9 b):PE X (.Subscript a b pos) (NL r ta tb):=by intro pins s σ H Q I h;exact Subscript_ (MH ha hb I h λv u s2 x y H2 I2 rx ry q=>hr a b pins s2 σ H2 x y v u Q I2 rx ry q (hs _ _))
def NS(K:Ae):R2:=λx y H Q=>∃p xs i v,x= .ref p∧y= .int i∧SqL K H p xs∧JI xs i=some v∧Q v H
def NR(K:Ae):R2:=λx y H Q=>∃p xs i v,x= .ref p∧y= .int i∧SqT K H p xs∧JI xs i=some v∧Q v H
def RV:R2:=λx y H Q=>∃z i c,x= .str z∧y= .int i∧z.length≤Az∧JI z.cps.toList i=some c∧Q (.str ⟨#[c]⟩) H
theorem JA:Mt X (NS X.K):=by
 intro value slice pins s σ H x y v u Q I rx ry h hs;obtain⟨p,xs,i,z,rfl,rfl,hq,he,q⟩:=h;cases rx;obtain⟨t,rfl⟩:=ry;obtain⟨its,r,pl,hz⟩:=I.list hq;obtain⟨j,h1,h2,h3,h4,h5⟩:=Qe he;obtain⟨w,ew,rw'⟩:=r.get h2;have hl:=r.length;have hn:=MR;have fin:EP X pins σ Q w s:=⟨z,H,I,rw',q⟩;by_cases h0:0≤i
 · have hj:i.toNat=j:=by
    rw[seqIndex_of h0 h5] at h1;exact AD h1
   exact item_listR pl.isList h0 (by omega) (by rw[hj];simpa using ew) fin hs
 · have hj:(i+(its.toArray.size:Int)).toNat=j:=by
    rw[seqIndex_neg (by omega) h4] at h1;rw[Aw,←hl];exact AD h1
   exact Gz (x:=w) pl.isList.typeIs FC.lookup
    (wpAny_getItem_list_neg (Q:=λr s'=>r=w∧EP X pins σ Q r s') pl.isList (by omega) (by rw[Aw]<;>omega) (by omega) (by rw[hj];simpa using ew) ⟨rfl,fin⟩) hs
theorem KO:Mt X (NR X.K):=by
 intro value slice pins s σ H x y v u Q I rx ry h hs;obtain⟨p,xs,i,z,rfl,rfl,hq,he,q⟩:=h;cases rx;obtain⟨t,rfl⟩:=ry;obtain⟨its,r,pl,hz⟩:=I.tuple hq;obtain⟨j,h1,h2,h3,h4,h5⟩:=Qe he;obtain⟨w,ew,rw'⟩:=r.get h2;have hl:=r.length;have hn:=MR;have fin:EP X pins σ Q w s:=⟨z,H,I,rw',q⟩;exact Gz (x:=w) pl.typeIs slot_tuple_getitem.lookup
  (getItem_tuple (j:=j) (Q:=λr s'=>r=w∧EP X pins σ Q r s') pl (by omega) (by omega) (by rw[Aw,←hl];exact h1) (by simpa using ew) ⟨rfl,fin⟩) hs
theorem Ti:Mt X RV:=by
 intro value slice pins s σ H x y v u Q I rx ry h hs;obtain⟨z,i,c,rfl,rfl,hz,he,q⟩:=h;obtain⟨t,rfl⟩:=rx;obtain⟨t',rfl⟩:=ry;obtain⟨j,h1,h2,h3,h4,h5⟩:=Qe he;have hl:z.cps.toList.length=z.length:=by simp[Str.length]
 rw[hl] at h1 h4 h5;have hn:=MR;exact tail_any (typeIs_str s z t) slot_str_getitem.lookup (getItem_str (c:=c) (by have e1:decide (i< -(2^63:Int))=false:=decide_eq_false (by omega);have e2:decide (i≥2^63)=false:=decide_eq_false (by omega);rw[e1,e2,Bool.or_false]) (by rw[h1];simpa using h2) ⟨.str ⟨#[c]⟩,H,I.tok _,⟨_,rfl⟩,q⟩) hs
theorem ziZ(its:List Value)(n j:Nat)(u:Value):A_ (·.setIfInBounds j u) {cls:= .type "list",data:= .seq its.toArray n}={cls:= .type "list",data:= .seq (its.set j u).toArray n}:=by simp[A_]
theorem Inv.lst{p:Addr}(I:Inv X pins σ H s)(h:H p=some (.lst xs)):
 ∃(its:List Value)(n:Nat),Vals xs its∧s.heap.get? p=some {cls:= .type "list",data:= .seq its.toArray n}∧xs.length≤Az:=by
 obtain⟨z,its,n,r,e⟩:=I.hok p _ h;exact⟨its,n,r,e,z⟩
theorem Inv.lstUpd{p:Addr}{ys:List V}{its its':List Value}{n n':Nat}{f:Obj→Obj}(I:Inv X pins σ H s)(h:H p=some (.lst xs))
 (ho:s.heap.get? p=some {cls:= .type "list",data:= .seq its.toArray n}) (hf:f {cls:= .type "list",data:= .seq its.toArray n}={cls:= .type "list",data:= .seq its'.toArray n'}) (r:Vals ys its') (hz:ys.length≤Az) (t:Nat):
 Inv X pins σ (IU H p (.lst ys)) {s with heap:=s.heap.update p f,toks:=t}:=by
 have e:(s.heap.update p f).get? p=some {cls:= .type "list",data:= .seq its'.toArray n'}:=by rw[Bz f ho (by rw[hf]<;>rfl),hf]
 refine I.write (x:=p) (e:=p) (by rw[h];trivial) (.inl rfl) (λb u hb q=>(BG _ _ (Bi hb)).trans q) ⟨_,e⟩ ?_;exact⟨hz,its',n',r,e⟩
def Xl:V→V→V→Hp→(Hp→Prop)→Prop:=λo i v H Q=>∃p xs k j,o= .ref p∧i= .int k∧H p=some (.lst xs)∧LG xs.length k=some j∧Q (IU H p (.lst (xs.set j v)))
theorem Qu:On X Xl:=by
 intro pins s σ H o i v ov iv u Q I ro ri rv h;obtain⟨p,xs,k,j,rfl,rfl,hp,hj,q⟩:=h;cases ro;obtain⟨t,rfl⟩:=ri;obtain⟨its,n,r,ho,hz⟩:=I.lst hp;obtain⟨h1,h2,h3,h4⟩:=Qi hj;have hl:=r.length;have hn:=MR;have I':Inv X pins σ (IU H p (.lst (xs.set j v))) {s with heap:=s.heap.update p (A_ (·.setIfInBounds j u))}:=
  I.lstUpd hp ho (ziZ its n j u) (r.set rv j) (by rw[List.length_set];exact hz) s.toks
 by_cases h0:0≤k
 · have hk:k.toNat=j:=by
    rw[seqIndex_of h0 h4] at h1;exact AD h1
   exact PySem.W.ki_setAt ho h0 (by omega) (by rw[Aw,←hl];exact h4) (by rw[hk];exact⟨_,I',q⟩)
 · have hk:(k+(its.toArray.size:Int)).toNat=j:=by
    rw[seqIndex_neg (by omega) h3] at h1;rw[Aw,←hl];exact AD h1
   exact PySem.W.ki_setBack ho (by omega) (by rw[Aw,←hl];exact h3) (by omega) (by rw[hk];exact⟨_,I',q⟩)
theorem zga(lo hi:Option Int)(n:Nat):(sliceBounds lo hi none n).1=((HT.sIx n 0 lo:Nat):Int)∧(sliceBounds lo hi none n).2.1=((HT.sIx n n hi:Nat):Int)∧(sliceBounds lo hi none n).2.2=1:=by
 refine⟨?_,?_,rfl⟩
 · cases lo with
   | none=>simp[sliceBounds,HT.sIx]
   | some i=>
    simp only[sliceBounds,HT.sIx,Option.getD_none,show(1:Int)>0 by decide,if_true];by_cases h:i<0
    · simp only[h,if_true]<;>omega
    · simp only[h,if_false]<;>omega
 · cases hi with
   | none=>simp[sliceBounds,HT.sIx]
   | some i=>
    simp only[sliceBounds,HT.sIx,Option.getD_none,show(1:Int)>0 by decide,if_true];by_cases h:i<0
    · simp only[h,if_true]<;>omega
    · simp only[h,if_false]<;>omega
theorem zfb(its:List Value)(lo hi:Option Int):slicePick its.toArray lo hi none=((its.drop (HT.sIx its.length 0 lo)).take (HT.sIx its.length its.length hi - HT.sIx its.length 0 lo)).toArray:=by obtain⟨h1,h2,h3⟩:=zga lo hi its.toArray.size;unfold slicePick;rw[h1,h2,h3];simp only[sliceRange_one,pick_run,Aw]<;>rfl
def RQ(K:Ae):V→Option Int→Option Int→Hp→VK→Prop:=λx lo hi H Q=>∃a xs,x= .ref a∧SqL K H a xs∧∀p,H p=none→Q (.ref p) (IU H p (.lst (J2 xs lo hi)))
theorem O6:Nj X (RQ X.K):=by intro pins s σ H x v vl vu lo hi sl Q I rx hs pl pu h;obtain⟨a,xs,rfl,hx,q⟩:=h;cases rx;obtain⟨its,r,ht,hz⟩:=I.list hx;have hlen:=r.length;refine⟨"list",_,FC.lookup,ht.isList.typeIs,?_⟩;refine FN ht.isList hs pl pu .none (by simp) ?_ (by rw[Aw]<;>omega);rw[zfb,←hlen];refine⟨.ref s.heap.objs.size,_,I.laid (t':=s.toks) (o:= .lst (J2 xs lo hi)) (λb ob q=>Ad _ q) (Af _) ?_,rfl,q _ (I.hok.fresh (Af _))⟩;exact⟨AM (VQ xs lo hi) hz,_,0,(r.drop (HT.sIx xs.length 0 lo)).take (HT.sIx xs.length xs.length hi - HT.sIx xs.length 0 lo),Al _ rfl⟩
def L3:V→Bool
 | .non=>true
 | .bl _=>true
 | .int _=>true
 | .str _=>true
 | _=>false
def LH:V→V→Bool
 | .non,.non=>true
 | .bl a,.bl b=>a==b
 | .bl a,.int b=>(if a then 1 else 0)==b
 | .int a,.bl b=>a==(if b then 1 else 0)
 | .int a,.int b=>a==b
 | .str a,.str b=>a==b
 | _,_=>false
theorem WN{y x:V}{v:Value}(ry:RelV y u)(rx:RelV x v)(fy:L3 y=true)(fx:L3 x=true):SeqAt.EqAt A s u v (LH y x):=by
 cases y with
 | non=>
  cases ry;cases x with
  | non=>cases rx;exact EK _
  | bl b=>cases rx;exact GL b
  | int b=>obtain⟨t,rfl⟩:=rx;exact EX b t
  | str b=>obtain⟨t,rfl⟩:=rx;exact EY b t
  | _=>exact absurd (show false=true from fx) A3
 | bl a=>
  cases ry;cases x with
  | non=>cases rx;exact GM a
  | bl b=>cases rx;exact GN a b
  | int b=>obtain⟨t,rfl⟩:=rx;exact GU a b t
  | str b=>obtain⟨t,rfl⟩:=rx;exact GV a b t
  | _=>exact absurd (show false=true from fx) A3
 | int a=>
  obtain⟨t',rfl⟩:=ry;cases x with
  | non=>cases rx;exact EZ a t'
  | bl b=>cases rx;exact GW a t' b
  | int b=>obtain⟨t,rfl⟩:=rx;exact SeqAt.EqAt.int_int a t' b t
  | str b=>obtain⟨t,rfl⟩:=rx;exact Eh a t' b t
  | _=>exact absurd (show false=true from fx) A3
 | str a=>
  obtain⟨t',rfl⟩:=ry;cases x with
  | non=>cases rx;exact E_ a t'
  | bl b=>cases rx;exact GX a t' b
  | int b=>obtain⟨t,rfl⟩:=rx;exact Ej a t' b t
  | str b=>obtain⟨t,rfl⟩:=rx;exact SeqAt.EqAt.str_str a t' b t
  | _=>exact absurd (show false=true from fx) A3
 | _=>exact absurd (show false=true from fy) A3
def KB(x:V)(u:Value):Bool:=match u with
 | .none=>LH .non x
 | .bool b=>LH (.bl b) x
 | .int i _=>LH (.int i) x
 | .str z _=>LH (.str z) x
 | _=>false
theorem Tg{x y:V}(r:RelV y u)(f:L3 y=true):KB x u=LH y x:=by
 cases y with
 | non=>cases r;rfl
 | bl b=>cases r;rfl
 | int i=>obtain⟨t,rfl⟩:=r;rfl
 | str z=>obtain⟨t,rfl⟩:=r;rfl
 | _=>exact absurd (show false=true from f) A3
theorem N2{x:V}:∀{xs:List V}{us:List Value},Vals xs us→xs.all L3=true→us.any (KB x)=xs.any λy=>LH y x
 | _,_,.nil,_=>rfl
 | y::xs,u::us,.cons r t,f=>by rw[CW,AX] at f;rw[CC,CC,Tg r f.1,N2 t f.2]
theorem NB{x:V}{v:Value}(rx:RelV x v)(fx:L3 x=true):∀{xs:List V}{us:List Value},Vals xs us→xs.all L3=true→∀u∈us,SeqAt.EqAt A s u v (KB x u)
 | _,_,.nil,_=>λu hu=>by cases hu
 | y::xs,u::us,.cons r t,f=>λu' hu=>by
  rw[CW,AX] at f;rcases Ar.mp hu with rfl | hu
  · rw[Tg r f.1];exact WN r rx f.1 fx
  · exact NB rx fx t f.2 u' hu
def Ng(x:V)(xs:List V):Bool:=xs.any λy=>LH y x
def NU(K:Ae)(neg:Bool):R2:=λx y H Q=>∃p xs,y= .ref p∧(SqL K H p xs∨SqT K H p xs)∧L3 x=true∧xs.all L3=true∧Q (.bl (if neg then !Ng x xs else Ng x xs)) H
theorem zj4:J8 X (BN .In) (NU X.K false):=by
 intro pins s σ H x y v u Q I rx ry h;obtain⟨p,xs,rfl,hq,fx,fs,q⟩:=h;cases ry;rcases hq with hq | hq
 · obtain⟨its,r,pl,hz⟩:=I.list hq;refine SeqAt.in_listAt (KB x) pl.isList (λw hw=>NB rx fx r fs w (by simpa using hw)) ⟨.bl _,H,I,rfl,?_⟩;rw[show its.toArray.any (KB x)=its.any (KB x) by simp,N2 r fs];exact q
 · obtain⟨its,r,pl,hz⟩:=I.tuple hq;refine SeqAt.in_tupleAt (KB x) pl (λw hw=>NB rx fx r fs w (by simpa using hw)) ⟨.bl _,H,I,rfl,?_⟩;rw[show its.toArray.any (KB x)=its.any (KB x) by simp,N2 r fs];exact q
theorem Rc:J8 X (BN .NotIn) (NU X.K true):=by
 intro pins s σ H x y v u Q I rx ry h;obtain⟨p,xs,rfl,hq,fx,fs,q⟩:=h;cases ry;rcases hq with hq | hq
 · obtain⟨its,r,pl,hz⟩:=I.list hq;refine SeqAt.notIn_listAt (KB x) pl.isList (λw hw=>NB rx fx r fs w (by simpa using hw)) ⟨.bl _,H,I,rfl,?_⟩;rw[show its.toArray.any (KB x)=its.any (KB x) by simp,N2 r fs];exact q
 · obtain⟨its,r,pl,hz⟩:=I.tuple hq;refine SeqAt.notIn_tupleAt (KB x) pl (λw hw=>NB rx fx r fs w (by simpa using hw)) ⟨.bl _,H,I,rfl,?_⟩;rw[show its.toArray.any (KB x)=its.any (KB x) by simp,N2 r fs];exact q
theorem JK:Ko X (.builtin "len") (λxs H Q=>∃p ys,xs=[.ref p]∧(SqL X.K H p ys∨SqT X.K H p ys)∧Q (.int ys.length) H):=by
 intro pins s σ H xs us Q I r h;obtain⟨p,ys,rfl,hq,q⟩:=h;obtain⟨u,rfl,rx⟩:=KC r;cases rx;have hn:=MR;rcases hq with hq | hq
 · obtain⟨its,r',pl,hz⟩:=I.list hq;have hlen:=r'.length;exact Calls.call_len_list pl.isList (by simp only[Aw]<;>omega) ⟨.int ys.length,H,I.tok _,⟨s.toks+1,by rw[Aw,hlen]⟩,q⟩
 · obtain⟨its,r',pl,hz⟩:=I.tuple hq;have hlen:=r'.length;exact len_tuple pl (by simp only[Aw]<;>omega) ⟨.int ys.length,H,I.tok _,⟨s.toks+1,by rw[Aw,hlen]⟩,q⟩
theorem Wp:Ko X (.builtin "len") (λxs H Q=>∃z,xs=[.str z]∧z.length≤Az∧Q (.int z.length) H):=by intro pins s σ H xs us Q I r h;obtain⟨z,rfl,hz,q⟩:=h;obtain⟨u,rfl,t,rfl⟩:=KC r;have hn:=MR;exact len_str (by omega) ⟨.int z.length,H,I.tok _,⟨_,rfl⟩,q⟩
theorem Pa:Ko X (.type "list") (λxs H Q=>∃p ys,xs=[.ref p]∧(SqL X.K H p ys∨SqT X.K H p ys)∧∀l,H l=none→Q (.ref l) (IU H l (.lst ys))):=by
 intro pins s σ H xs us Q I r h;obtain⟨p,ys,rfl,hq,q⟩:=h;obtain⟨u,rfl,rx⟩:=KC r;cases rx;have fin:∀(its:List Value),Vals ys its→ys.length≤Az→∀(h':Heap)(c':Nat),(∀b o',s.heap.get? b=some o'→h'.get? b=some o')→
  h'.get? s.heap.objs.size=some {cls:= .type "list",dict:=none,data:= .seq its.toArray c',slots:=#[]}→EP X pins σ Q (.ref s.heap.objs.size) {s with heap:=h'}:=λits r' hz h' c' kp e=>
  ⟨.ref s.heap.objs.size,_,I.laid (t':=s.toks) kp (Af _) (show ObjOk X.prog X.w _ h' _ (.lst ys) from⟨hz,its,c',r',e⟩),rfl,q _ (I.hok.fresh (Af _))⟩
 rcases hq with hq | hq
 · obtain⟨its,r',pl,hz⟩:=I.list hq;have hlen:=r'.length;obtain⟨o,ho,hc,n,hd⟩:=pl.isList;exact call_list_seq p (.inl rfl) ho hc hd (λh' c' kp e=>fin its r' hz h' c' kp e) (by simp only[Aw]<;>omega)
 · obtain⟨its,r',pl,hz⟩:=I.tuple hq;have hlen:=r'.length;obtain⟨o,ho,hc,n,hd⟩:=pl;exact call_list_seq p (.inr rfl) ho hc hd (λh' c' kp e=>fin its r' hz h' c' kp e) (by simp only[Aw]<;>omega)
theorem Wm:Ko X (.type "tuple") (λxs H Q=>∃p ys,xs=[.ref p]∧((SqL X.K H p ys∧∀l,H l=none→Q (.ref l) (IU H l (.tup ys)))∨(SqT X.K H p ys∧Q (.ref p) H))):=by
 intro pins s σ H xs us Q I r h;obtain⟨p,ys,rfl,h⟩:=h;obtain⟨u,rfl,rx⟩:=KC r;cases rx;rcases h with⟨hq,q⟩ | ⟨hq,q⟩
 · obtain⟨its,r',pl,hz⟩:=I.list hq;have hlen:=r'.length;refine call_tuple_list pl.isList (λh' kp=>?_) (by simp only[Aw]<;>omega);have I1:Inv X pins σ H {s with heap:=h'}:=I.kept (t':=s.toks) kp;have I2:Inv X pins σ (IU H h'.objs.size (.tup ys)) {s with heap:=h'.push {cls:= .type "tuple",data:= .seq its.toArray}}:=
    I1.laid (t':=s.toks) (λb o e=>Ad _ e) (Af _) (show ObjOk X.prog X.w _ _ _ (.tup ys) from⟨hz,its,r',IsTupP.new _ _⟩)
   exact⟨.ref h'.objs.size,_,I2,rfl,q _ (I1.hok.fresh (Af _))⟩
 · obtain⟨its,r',pl,hz⟩:=I.tuple hq;exact call_tuple_same pl ⟨.ref p,H,I,rfl,q⟩
def R9(K:Ae)(T:String)(x:V)(H:Hp):Prop:=match x with
 | .str _=>T="str"
 | .int _=>T="int"
 | .ref p=>(T="list"∧∃xs,SqL K H p xs)∨(T="tuple"∧∃o,K.lookup p=some o∧o.cls= .type "tuple"∧o.dict=none)∨
  (T="dict"∧((∃kvs,H p=some (.dK kvs))∨∃kvs,H p=some (.dT kvs)))∨(T="set"∧∃S n,H p=some (.set S n))
 | _=>False
theorem T8{T:String}{x:V}{v:Value}(I:Inv X pins σ H s)(r:RelV x v)(ty:R9 X.K T x H):
 s.TypeIs v T∧∀a,v= .ref a→∃ob,s.heap.get? a=some ob∧ob.dict=none:=by
 cases x with
 | str z=> obtain⟨t,rfl⟩:=r;cases(show T="str" from ty);exact⟨typeIs_str s z t,λ_ e=>nomatch e⟩
 | int i=> obtain⟨t,rfl⟩:=r;cases(show T="int" from ty);exact⟨typeIs_int s i t,λ_ e=>nomatch e⟩
 | ref p=>
  cases r;rcases ty with⟨rfl,xs,hq⟩ | ⟨rfl,o,hk,hc,hd⟩ | ⟨rfl,hk⟩ | ⟨rfl,S,n,hk⟩
  · obtain⟨its,_,pl,_⟩:=I.list hq;refine⟨pl.isList.typeIs,λa e=>?_⟩;cases e;obtain⟨o,n,e,c,hd,_⟩:=pl;exact⟨o,e,hd⟩
  · refine⟨⟨o,I.kIn p o hk,hc⟩,λa e=>?_⟩;cases e;exact⟨o,I.kIn _ o hk,hd⟩
  · have z:∃o,s.heap.get? p=some o∧o.ExactDict:=by
     rcases hk with⟨kvs,hk⟩ | ⟨kvs,hk⟩
     · obtain⟨_,_,_,_,o,_,_,e,ex,_⟩:=I.hok p _ hk;exact⟨o,e,ex⟩
     · obtain⟨_,_,_,_,o,_,_,e,ex,_⟩:=I.hok p _ hk;exact⟨o,e,ex⟩
    obtain⟨o,e,ex⟩:=z;refine⟨⟨o,e,ex.1⟩,λa e2=>?_⟩;cases e2;exact⟨o,e,ex.2.1⟩
  · obtain⟨o,_,_,_,e,ex,_⟩:=I.hok p _ hk;refine⟨⟨o,e,ex.1⟩,λa e2=>?_⟩;cases e2;exact⟨o,e,ex.2.1⟩
 | _=>exact Dp ty
def RK(K:Ae)(T:String)(r:V→List V→Hp→VK→Prop)(to:TE):TE:=λσ H Q=>to σ H λx H1=>R9 K T x H1∧r x [] H1 Q
def W2(K:Ae)(T:String)(r:V→List V→Hp→VK→Prop)(to:TE)(t:TA):TE:=λσ H Q=>to σ H λx H1=>R9 K T x H1∧t σ H1 λxs H2=>r x xs H2 Q
variable{o:Expr}{es:List Expr}{to:TE}{t:TA}{name:Str}{apos cpos:Pos}{T id:String}{r:V→List V→Hp→VK→Prop}
theorem Tu(pa:PlainAttrs T)(slot:Slot T name id)(hty:typeOf (.builtin id)=pure (.type "method_descriptor"))(hm:Sy X id r)(ho:PE X o to)
 (hbase:attributeBase o name X.env (eval o X.env)=eval o X.env:=by rfl) (hline:(apos.endLine==cpos.line)=true:=by rfl):PE X (.Call (.Attribute o name apos) [] [] cpos) (RK X.K T r to):=by
 intro pins s σ H Q I h;refine wpAny_Call_method0_late hbase hline (I_ (ho pins s σ H _ I h) λv s1 ⟨x,H1,I1,r1,ty,q1⟩=>?_);obtain⟨h1,h2⟩:=T8 I1 r1 ty;exact⟨T,id,pa,slot,hty,h1,h2,G0 rfl (PySem.evalArgs_none (hm pins s1 σ H1 x [] v [] Q I1 r1 .nil q1))⟩
theorem KD(pa:PlainAttrs T)(slot:Slot T name id)(hty:typeOf (.builtin id)=pure (.type "method_descriptor"))(hm:Sy X id r)(ho:PE X o to)(ha:PA X (e::es) t)
 (hbase:attributeBase o name X.env (eval o X.env)=eval o X.env:=by rfl)
 (hfew:((backTo cpos (A9 (e::es) X.env)).all (λx=>!x.1) && (backToKw cpos (keywordEach [] X.env)).all (λx=>x.1.isSome)
  && decide ((e::es).length+([]:List Keyword).length+(if([]:List Keyword).isEmpty then 0 else 1)<30))=true:=by rfl)
 (hline:(apos.endLine==cpos.line)=true:=by rfl) (hs:A9 (e::es) X.env=(false,eval e X.env)::A9 es X.env:=by rfl) (hplain:(backTo cpos (A9 es X.env)).any (·.1)=false:=by rfl):
 PE X (.Call (.Attribute o name apos) (e::es) [] cpos) (W2 X.K T r to t):=by
 intro pins s σ H Q I h;refine wpAny_Call_method_late hbase hfew hline rfl (I_ (ho pins s σ H _ I h) λv s1 ⟨x,H1,I1,r1,ty,q1⟩=>?_);obtain⟨h1,h2⟩:=T8 I1 r1 ty;refine⟨T,id,pa,slot,hty,h1,h2,?_⟩;have hA:=ha cpos pins s1 σ H1 _ I1 q1;rw[hs] at hA ⊢;refine G0 (by show(false || (backTo cpos (A9 es X.env)).any (·.1))=false;rw[hplain]<;>rfl) (Calls.evalArgs_plain ?_);exact I_ hA λus s2 ⟨vs,H2,I2,r2,q2⟩=>hm pins s2 σ H2 x vs v us Q I2 r1 r2 q2
end
def Os(X:Cx)(id:String)(r:V→List V→Hp→VK→Prop):Prop:=
 ∀(pins:List (Addr×Obj))(s:Shared)(σ:St)(H:Hp)(x:V)(xs:List V)(v:Value)(us:List Value)(Q:VK),Inv X pins σ H s→RelV x v→Vals xs us→r x xs H Q→
  wpAny (model X.prog X.w) X.A (call (.builtin id) (v::us)) (EP X pins σ Q) X.xe s
theorem Vals.one:∀{x:V}{us:List Value},Vals [x] us→∃u,us=[u]∧RelV x u
 | _,_,.cons r .nil=>⟨_,rfl,r⟩
theorem Vals.zero:∀{us:List Value},Vals [] us→us=[]
 | _,.nil=>rfl
theorem Vals.dropLast(h:Vals xs us):Vals xs.dropLast us.dropLast:=by
 induction h with
 | nil=>exact .nil
 | cons r t ih=>
  cases t with
  | nil=>exact .nil
  | cons q t'=>exact .cons r ih
theorem Vals.eraseIdx:∀{xs:List V}{us:List Value}(i:Nat),Vals xs us→Vals (xs.eraseIdx i) (us.eraseIdx i)
 | _,_,_,.nil=> .nil
 | _,_,0,.cons _ t=>t
 | _,_,i+1,.cons r t=> .cons r (Vals.eraseIdx i t)
theorem zi4{α:Type}(l:List α):l.eraseIdx (l.length - 1)=l.dropLast:=by
 induction l with
 | nil=>rfl
 | cons a r ih=>
  cases r with
  | nil=>rfl
  | cons b r=>
   have e:(a::b::r).length - 1=((b::r).length - 1)+1:=by have h1:(a::b::r).length=r.length+2:=rfl;have h2:(b::r).length=r.length+1:=rfl;omega
   rw[e,Ge,ih]
   all_goals rfl
theorem Vm{α:Type}:∀(l:List α)(i:Nat),(l.eraseIdx i).length≤l.length
 | [],_=>Af _
 | _::_,0=>CD _
 | _::r,i+1=>Nat.succ_le_succ (Vm r i)
section
variable{l:Addr}{ys zs:List V}
theorem Inv.lset{its its':List Value}{n:Nat}{f:Array Value→Array Value}{t':Nat}(I:Inv X pins σ H s)(hH:H l=some (.lst xs))
 (e:s.heap.get? l=some {cls:= .type "list",data:= .seq its.toArray n}) (hf:f its.toArray=its'.toArray) (hv:Vals ys its') (hz:ys.length≤Az):
 Inv X pins σ (IU H l (.lst ys)) {s with heap:=s.heap.update l (A_ f),toks:=t'}:=by
 have q:=PySem.IsL.update e f;rw[hf] at q;refine I.write (x:=l) (e:=l) (by rw[hH];exact trivial) (.inl rfl) (λb' u hb hu=>(BG s.heap (A_ f) (Bi hb)).trans hu) ⟨_,q⟩ ?_;exact⟨hz,its',_,hv,q⟩
theorem Inv.lnew{its:List Value}{t':Nat}(I:Inv X pins σ H s)(hv:Vals ys its)(hz:ys.length≤Az):
 Inv X pins σ (IU H s.heap.objs.size (.lst ys)) {s with heap:=s.heap.push {cls:= .type "list",data:= .seq its.toArray},toks:=t'}:=
 I.laid (λ_ _ q=>Ad _ q) (Af _) ⟨hz,its,0,hv,Al _ rfl⟩
theorem Inv.fresh(I:Inv X pins σ H s):H s.heap.objs.size=none:=I.hok.fresh (Af _)
theorem Inv.lstM(I:Inv X pins σ H s)(hH:H l=some (.lst xs)):xs.length≤Az∧∃(its:List Value)(n:Nat),Vals xs its∧xs.length=its.length∧s.heap.get? l=some {cls:= .type "list",data:= .seq its.toArray n}:=by obtain⟨z,its,n,r,e⟩:=I.hok l _ hH;exact⟨z,its,n,r,r.length,e⟩
theorem NY(h:n≤Az):FO n=false:=by unfold FO;exact decide_eq_false (by omega)
end
def YS:V→List V→Hp→VK→Prop:=λx vs H Q=>∃l xs y,x= .ref l∧vs=[y]∧H l=some (.lst xs)∧xs.length<Az∧Q .non (IU H l (.lst (xs++[y])))
theorem Lf:Os X "list.append" YS:=by intro pins s σ H x vs v us Q I rx rv h;obtain⟨l,xs,y,rfl,rfl,hH,hz,q⟩:=h;cases rx;obtain⟨u,rfl,ru⟩:=rv.one;obtain⟨z,its,n,r,hl,e⟩:=I.lstM hH;refine call_meets F.slot_list_append ⟨_,e,rfl⟩ F.entry_list_append (F.args_list_append_2 _ _) (PySem.list_append l its.toArray n u (by rw[Aw];omega)) ⟨e,?_⟩;refine⟨.non,_,I.lset (its':=its++[u]) hH e (by simp) (r.append (.cons ru .nil)) ?_,rfl,q⟩;rw[A5,BB];omega
def RS:V→List V→Hp→VK→Prop:=λx vs H Q=>∃l xs y,x= .ref l∧vs=[]∧H l=some (.lst xs)∧xs[xs.length - 1]?=some y∧Q y (IU H l (.lst xs.dropLast))
theorem WY:Os X "list.pop" RS:=by
 intro pins s σ H x vs v us Q I rx rv h;obtain⟨l,xs,y,rfl,rfl,hH,hy,q⟩:=h;cases rx;have hus:=rv.zero;subst hus;obtain⟨z,its,n,r,hl,e⟩:=I.lstM hH;obtain⟨u,hu,ru⟩:=r.get hy;have hy':its.toArray[its.toArray.size - 1]?=some u:=by show its.toArray[its.length - 1]?=some u;rw[←A7,←hl];exact hu
 refine call_meets F.slot_list_pop ⟨_,e,rfl⟩ F.entry_list_pop (F.args_list_pop_1 _) (MeetsSeq.list_pop_last l its.toArray n u hy' (by rw[Aw];omega)) ⟨e,?_⟩;refine⟨y,_,I.lset (its':=its.dropLast) hH e ?_ r.dropLast ?_,ru,q⟩
 · show its.toArray.eraseIdxIfInBounds (its.toArray.size - 1)=its.dropLast.toArray;rw[Aw,EI,zi4]
 · rw[List.length_dropLast];omega
def Yb:V→List V→Hp→VK→Prop:=λx vs H Q=>∃l xs i k y,x= .ref l∧vs=[.int i]∧H l=some (.lst xs)∧ -(2^63)≤i∧i<2^63∧seqIndex? i xs.length=some k∧xs[k]?=some y∧Q y (IU H l (.lst (xs.eraseIdx k)))
theorem Q0:Os X "list.pop" Yb:=by
 intro pins s σ H x vs v us Q I rx rv h;obtain⟨l,xs,i,k,y,rfl,rfl,hH,h1,h2,hk,hy,q⟩:=h;cases rx;obtain⟨u,rfl,ru⟩:=rv.one;obtain⟨t,rfl⟩:=ru;obtain⟨z,its,n,r,hl,e⟩:=I.lstM hH;obtain⟨w,hw,rw'⟩:=r.get hy;refine call_meets F.slot_list_pop ⟨_,e,rfl⟩ F.entry_list_pop (F.args_list_pop_2 _ _)
  (MeetsSeq.list_pop_at l its.toArray n i t k w (fitsIndex_both h1 h2) (by rw[Aw,←hl];exact hk) (by rw[←A7];exact hw) (by rw[Aw];omega)) ⟨e,?_⟩
 refine⟨y,_,I.lset (its':=its.eraseIdx k) hH e ?_ (r.eraseIdx k) ?_,rw',q⟩
 · show its.toArray.eraseIdxIfInBounds k=(its.eraseIdx k).toArray;rw[EI]
 · have:=Vm xs k;omega
def X_:V→List V→Hp→VK→Prop:=λx vs H Q=>∃l xs,x= .ref l∧vs=[]∧H l=some (.lst xs)∧Q .non (IU H l (.lst []))
theorem Z8:Os X "list.clear" X_:=by intro pins s σ H x vs v us Q I rx rv h;obtain⟨l,xs,rfl,rfl,hH,q⟩:=h;cases rx;have hus:=rv.zero;subst hus;obtain⟨z,its,n,r,hl,e⟩:=I.lstM hH;refine call_meets F.slot_list_clear ⟨_,e,rfl⟩ F.entry_list_clear (F.args_list_clear_1 _) (AutoSeq1.list_clear_list_0 l its.toArray n (by rw[Aw];omega)) ⟨e,?_⟩;exact⟨.non,_,I.lset (its':=[]) (ys:=[]) hH e rfl .nil (Bc _),rfl,q⟩
def RX:R2:=λx y H Q=>∃l b xs zs,x= .ref l∧y= .ref b∧H l=some (.lst xs)∧H b=some (.lst zs)∧xs.length+zs.length≤Az∧∀p,H p=none→Q (.ref p) (IU H p (.lst (xs++zs)))
theorem Nu:J8 X (binaryOp .Add) RX:=by
 intro pins s σ H x y v u Q I rx ry h;obtain⟨l,b,xs,zs,rfl,rfl,hH,hB,hz,q⟩:=h;cases rx;cases ry;obtain⟨z,its,n,r,hl,e⟩:=I.lstM hH;obtain⟨z2,its2,n2,r2,hl2,e2⟩:=I.lstM hB;refine PySem.P.add_list e e2 ?_ (by rw[Aw,Aw];omega);have ea:its.toArray++its2.toArray=(its++its2).toArray:=by simp
 rw[ea];exact⟨.ref _,_,I.lnew (t':=s.toks) (r.append r2) (by rw[A5];omega),rfl,q _ I.fresh⟩
set_option maxRecDepth 100000 in
section
variable{κ:Type}[DecidableEq κ]
def Ju(kvs:List (κ×V))(k:κ):Option V:=(kvs.find? λkv=>decide (kv.1=k)).map (·.2)
def Jv(kvs:List (κ×V))(k:κ)(v:V):List (κ×V):=
 if(kvs.any λkv=>decide (kv.1=k))=true then kvs.map (λkv=>if kv.1=k then(kv.1,v) else kv) else kvs++[(k,v)]
theorem Lm{p:κ×V}{r:List (κ×V)}{k:κ}(e:p.1=k):Ju (p::r) k=some p.2:=by simp[Ju,D2,e]
theorem Ll{p:κ×V}{r:List (κ×V)}{k:κ}(e:¬p.1=k):Ju (p::r) k=Ju r k:=by simp[Ju,D2,e]
theorem QH(k:κ):∀kvs:List (κ×V),(kvs.any λkv=>decide (kv.1=k))=(Ju kvs k).isSome
 | []=>rfl
 | p::r=>by
  rw[CC];by_cases e:p.1=k
  · simp only[Lm e,decide_eq_true e,Bool.true_or,Option.isSome_some]
  · rw[Ll e,decide_eq_false e,Bool.false_or];exact QH k r
theorem UW(k j:κ)(y:V):∀kvs:List (κ×V),Ju (kvs.map λkv=>if kv.1=k then(kv.1,y) else kv) j=(Ju kvs j).map λx=>if j=k then y else x
 | []=>rfl
 | p::r=>by
  have ih:=UW k j y r;rw[AC];by_cases h:p.1=k
  · rw[if_pos h];by_cases e:p.1=j
    · rw[Lm (p:=(p.1,y)) e,Lm e,EL,if_pos (e.symm.trans h)]
    · rw[Ll (p:=(p.1,y)) e,Ll e,ih]
  · rw[if_neg h];by_cases e:p.1=j
    · rw[Lm (p:=p) e,Lm e,EL,if_neg (λz=>h (e.trans z))]
    · rw[Ll (p:=p) e,Ll e,ih]
theorem VB(k j:κ)(y:V):∀kvs:List (κ×V),Ju kvs k=none→Ju (kvs++[(k,y)]) j=if j=k then some y else Ju kvs j
 | [],_=>by
  by_cases e:k=j
  · rw[if_pos e.symm];exact Lm (p:=(k,y)) e
  · rw[if_neg (λz=>e z.symm)];exact Ll (p:=(k,y)) e
 | p::r,hn=>by
  rw[FP];have hk:¬p.1=k:=λz=>by rw[Lm z] at hn;cases hn
  rw[Ll hk] at hn;have ih:=VB k j y r hn;by_cases e:p.1=j
  · rw[Lm e,Lm e,if_neg (λz=>hk (e.trans z))]
  · rw[Ll e,Ll e,ih]
theorem UX(kvs:List (κ×V))(k j:κ)(y:V):Ju (Jv kvs k y) j=if j=k then some y else Ju kvs j:=by
 unfold Jv;by_cases a:(kvs.any λkv=>decide (kv.1=k))=true
 · rw[if_pos a,UW];rw[QH] at a;by_cases e:j=k
   · obtain⟨x,hx⟩:=FM.mp a;rw[if_pos e,e,hx,EL,if_pos rfl]
   · rw[if_neg e];cases Ju kvs j with
     | none=>rfl
     | some x=>rw[EL,if_neg e]
 · rw[if_neg a];refine VB k j y kvs ?_;rw[QH] at a;cases q:Ju kvs k with
   | none=>rfl
   | some x=>rw[q] at a;exact(a rfl).elim
theorem Rq(kvs:List (κ×V))(k:κ)(v:V):(Jv kvs k v).length≤kvs.length+1:=by
 unfold Jv
 split
 · rw[Ab];omega
 · rw[A5,AA,List.length_nil];omega
theorem RelO.isSome_eq{o:Option V}{u:Option Value}(r:RelO o u):o.isSome=u.isSome:=by
 cases o with
 | none=>cases u with
  | none=>rfl
  | some _=>exact(show False from r).elim
 | some _=>cases u with
  | none=>exact(show False from r).elim
  | some _=>rfl
theorem KV.val{kvs:List (κ×V)}{vs:List (κ×Value)}(r:KV kvs vs)(k:κ):RelO (Ju kvs k) (valueAt vs k):=by
 unfold KV at r
 induction r with
 | nil=>exact True.intro
 | @cons p q ps qs h t ih=>
  obtain⟨h1,h2⟩:=h;by_cases e:p.1=k
  · have e':q.1=k:=h1.symm.trans e;have b:valueAt (q::qs) k=some q.2:=by simp[valueAt,D2,e']
    rw[Lm e,b];exact h2
  · have e':¬q.1=k:=λz=>e (h1.trans z);have b:valueAt (q::qs) k=valueAt qs k:=by simp[valueAt,D2,e']
    rw[Ll e,b];exact ih
theorem KV.any{kvs:List (κ×V)}{vs:List (κ×Value)}(r:KV kvs vs)(k:κ):(kvs.any λkv=>decide (kv.1=k))=vs.any λkv=>decide (kv.1=k):=by
 unfold KV at r
 induction r with
 | nil=>rfl
 | cons h t ih=>rw[CC,CC,ih,h.1]
theorem KV.repl{kvs:List (κ×V)}{vs:List (κ×Value)}(r:KV kvs vs)(k:κ){y:V}(ry:RelV y u):
 KV (kvs.map λkv=>if kv.1=k then(kv.1,y) else kv) (vs.map λkv=>if kv.1=k then(kv.1,u) else kv):=by
 unfold KV at r ⊢
 induction r with
 | nil=>exact .nil
 | @cons p q ps qs h t ih=>
  rw[AC,AC];refine .cons ?_ ih;obtain⟨h1,h2⟩:=h;by_cases e:p.1=k
  · rw[if_pos e,if_pos (h1.symm.trans e)];exact⟨h1,ry⟩
  · rw[if_neg e,if_neg (λz=>e (h1.trans z))];exact⟨h1,h2⟩
theorem KV.put{kvs:List (κ×V)}{vs:List (κ×Value)}(r:KV kvs vs)(k:κ){y:V}(ry:RelV y u):KV (Jv kvs k y) (stored vs k u):=by
 unfold Jv stored;rw[r.any k];by_cases e:(vs.any λkv=>decide (kv.1=k))=true
 · rw[if_pos e,if_pos e];exact r.repl k ry
 · rw[if_neg e,if_neg e];exact Paired.snoc r ⟨rfl,ry⟩
theorem KV.length{kvs:List (κ×V)}{vs:List (κ×Value)}(r:KV kvs vs):kvs.length=vs.length:=Paired.length r
end
theorem Nn{k:Jq}(r:RelV (kV k) u):(K5 P w).is k u=true:=by
 cases k with
 | inl i=>obtain⟨t,e⟩:=(show ∃t,u=Value.int i t from r);subst e;exact zhB P w i t
 | inr x=>obtain⟨t,e⟩:=(show ∃t,u=Value.str x t from r);subst e;exact zhA P w x t
theorem VA:∀{ks:List Jq}{us:List Value},Vals (ks.map kV) us→ItemsAre (K5 P w) ks us
 | [],_,r=>by rw[DC] at r;cases r;exact .nil
 | k::ks,_,r=>by
  rw[AC] at r;cases r with
  | cons h t=>exact .cons (Nn h) (VA t)
abbrev KT(H:Hp):List (List Jq×V)→List (List Jq×Addr×Value)→Prop:=Paired λp q=>p.1=q.1∧H q.2.1=some (.tup (p.1.map kV))∧RelV p.2 q.2.2
theorem KT.val{kvs:List (List Jq×V)}{xs:List (List Jq×Addr×Value)}(r:KT H kvs xs)(k:List Jq):RelO (Ju kvs k) ((atKey xs k).map (·.2)):=by
 induction r with
 | nil=>exact True.intro
 | @cons p q ps qs h t ih=>
  obtain⟨h1,_,h2⟩:=h;by_cases e:p.1=k
  · have e':q.1=k:=h1.symm.trans e;have b:atKey (q::qs) k=some q.2:=by simp[atKey,D2,e']
    rw[Lm e,b];exact h2
  · have e':¬q.1=k:=λz=>e (h1.trans z);have b:atKey (q::qs) k=atKey qs k:=by simp[atKey,D2,e']
    rw[Ll e,b];exact ih
theorem SL{u:HO}(ok:HOk P w H h)(e:Rd H a u):ObjOk P w H h a u:=e.ok ok
theorem Ov{kvs:List (Jq×V)}(ok:HOk P w H h)(e:Rd H a (.dK kvs)):kvs.length≤Az∧(a==DL)=false∧∃vs,KV kvs vs∧h.DictOf (K5 P w) a vs:=
 show ObjOk P w H h a (.dK kvs) from SL ok e
theorem SD{kvs:List (Jq×V)}(ok:HOk P w H h)(e:H a=some (.dK kvs)):kvs.length≤Az∧(a==DL)=false∧∃vs,KV kvs vs∧h.DictOf (K5 P w) a vs:=Ov ok (.inl e)
theorem P8{ks:List Jq}(ok:HOk P w H h)(e:H a=some (.tup (ks.map kV))):(tupleKind (K5 P w)).is h ks a:=by obtain⟨_,its,r,o,h1,h2,_,n,h3⟩:=(show ObjOk P w H h a (.tup (ks.map kV)) from ok a _ e);exact⟨o,its.toArray,n,h1,h2,h3,by simpa using VA r⟩
theorem Px{kvs:List (List Jq×V)}(ok:HOk P w H h)(e:Rd H a (.dT kvs)):kvs.length≤Az∧(a==DL)=false∧
 ∃xs,KT H kvs xs∧h.DictOfH (tupleKind (K5 P w)) a xs:=by
 obtain⟨z,y,xs,r,o,es,ep,h1,h2,h3,h4,h5⟩:=(show ObjOk P w H h a (.dT kvs) from SL ok e);refine⟨z,y,xs,r,o,es,ep,h1,h2,h3,h4,λx hx=>?_,h5⟩;have all:∀{l:List (List Jq×V)}{m:List (List Jq×Addr×Value)},KT H l m→∀x∈m,(tupleKind (K5 P w)).is h x.1 x.2.1:=by
  intro l m q
  induction q with
  | nil=>intro x hx;exact nomatch hx
  | @cons p q ps qs hq t ih=>
   intro x hx;rcases Ar.mp hx with e | hx
   · subst e;exact P8 ok (by rw[←hq.1];exact hq.2.1)
   · exact ih x hx
 exact all r x hx
def DGet(H:Hp)(a:Addr)(y:V)(r:Option V):Prop:=
 (∃kvs k,Rd H a (.dK kvs)∧y=kV k∧r=Ju kvs k)∨∃kvs k b,Rd H a (.dT kvs)∧y= .ref b∧H b=some (.tup (k.map kV))∧r=Ju kvs k
theorem DGet.k{kvs:List (Jq×V)}{k:Jq}(e:H a=some (.dK kvs)):DGet H a (kV k) (Ju kvs k):= .inl ⟨kvs,k,.inl e,rfl,rfl⟩
section
variable{y v:V}{r:Value}{o:Option V}
theorem Inv.big(I:Inv X pins σ H s):DL<s.heap.objs.size:=by have h:AH<s.heap.objs.size:=(I.mod.glob.keeps I.bk).lt;exact Cu (by decide) h
theorem ZV{Q:Value→Shared→Prop}(hu:A.units+1<cLine)(I:Inv X pins σ H s)(g:DGet H a y (some v))(ry:RelV y u)(h:∀w' s',Inv X pins σ H s'→RelV v w'→Q w' s'):
 wpAny (model X.prog X.w) A (getItem (.ref a) u) Q E s:=by
 rcases g with⟨kvs,k,e,ey,l⟩ | ⟨kvs,k,b,e,ey,eb,l⟩
 · subst ey;obtain⟨z,hd,vs,rel,dd⟩:=Ov I.hok e;obtain⟨w',hw,rw'⟩:=RelO.some_of (v:=v) (o:=valueAt vs k) (by rw[l];exact rel.val k);exact wpAny_getItem_of (Nn ry) dd.mapOf hw (h w' _ (I.tok _) rw')
 · subst ey;cases(show u=Value.ref b from ry);obtain⟨z,hd,xs,rel,dd⟩:=Px I.hok e;obtain⟨w',hw,rw'⟩:=RelO.some_of (v:=v) (o:=(atKey xs k).map (·.2)) (by rw[l];exact rel.val k);obtain⟨p,hp,hp2⟩:=Option.map_eq_some_iff.mp hw;refine wpAny_getItem_heap (tupleKind_room_in1 hu) (P8 I.hok eb) dd hp ?_;rw[hp2];exact h w' _ (I.tok _) rw'
theorem XG{Q:Value→Shared→Prop}(hu:A.units+1<cLine)(I:Inv X pins σ H s)(g:DGet H a y o)(ry:RelV y u)(h:∀s',Inv X pins σ H s'→Q (.bool (!o.isSome)) s'):
 wpAny (model X.prog X.w) A (BN .NotIn u (.ref a)) Q E s:=by
 rcases g with⟨kvs,k,e,ey,l⟩ | ⟨kvs,k,b,e,ey,eb,l⟩
 · subst ey;obtain⟨z,hd,vs,rel,dd⟩:=Ov I.hok e;refine wpAny_notIn_of (Nn ry) hd dd.mapOf ?_;rw[←(rel.val k).isSome_eq,←l];exact h _ (I.tok _)
 · subst ey;cases(show u=Value.ref b from ry);obtain⟨z,hd,xs,rel,dd⟩:=Px I.hok e;refine wpAny_notIn_heap (tupleKind_room_in1 hu) (P8 I.hok eb) hd dd ?_;have q:=(rel.val k).isSome_eq;rw[Option.isSome_map] at q;rw[←q,←l];exact h _ (I.tok _)
theorem Ub{h':Heap}{t':Nat}{ob:HO}(I:Inv X pins σ H s)(mu:Oq (H a))(hs:BO a s.heap h')(he:∃q,h'.get? a=some q)(new:ObjOk X.prog X.w (IU H a ob) h' a ob):
 Inv X pins σ (IU H a ob) {s with heap:=h',toks:=t'}:=
 I.write (x:=a) (e:=a) mu (.inl rfl) (λb q hb z=>(hs.2 b hb).trans z) he new
theorem Tf{H':Hp}{h':Heap}{kvs:List (Jq×V)}{vs:List (Jq×Value)}(z:kvs.length≤Az)(hd:(a==DL)=false)(rel:KV kvs vs)(dd:h'.DictOf (K5 P w) a vs):
 ObjOk P w H' h' a (.dK kvs):=⟨z,hd,vs,rel,dd⟩
end
section
variable{kvs:List (Jq×V)}{k:Jq}
end
def Op(i:Expr):Prop:=∀ov iv,subscripted i false ov iv=operate [ov,iv] (getItem ov iv)
theorem YC{prog:Bw}{w:World}{A:Cw}{E:Value→Shared→Prop}{s:Shared}{env:Env}{value slice:Expr}{pos:Pos}{T id:String}{Q:Value→Shared→Prop}
 (hl:typeLookup (.type T) "__getitem__"=pure (some (.builtin id))) (hs:Op slice)
 (h:wpAny (model prog w) A (eval value env) (λo s₁=>wpAny (model prog w) A (eval slice env) (λi s₂=>s₂.TypeIs o T∧wpAny (model prog w) A (getItem o i) Q E s₂) E s₁) E s):
 wpAny (model prog w) A (eval (.Subscript value slice pos) env) Q E s:=by
 refine Subscript_ (AB h (λo s₁ h₁=>AB h₁ (λi s₂ h₂=>?_) λ_ _ x=>x) λ_ _ x=>x);obtain⟨hT,h₂⟩:=h₂;unfold subscriptTail;refine Aa ?_;rw[getitemInPython_of_ne hT.not_modules];refine Aa (BV hT hl ?_);have fin:wpAny (model prog w) A (subscripted slice false o i) (λr s₃=>wpAny (model prog w) A (letTemporaryGo value o r>>=λ_=>pure r) Q E s₃) E s₂:=by rw[hs o i];exact wpAny_operating (AB h₂ (λr s₃ h₃=>Aa (wpAny_letTemporaryGo (Ac h₃))) λ_ _ x=>x)
 first
  | exact Ac (Aa fin)
  | exact Aa (Ac (Aa fin))
  | exact Aa fin
theorem zhI{y:V}{o:Option V}(I:Inv X pins σ H s)(g:DGet H a y o):s.TypeIs (.ref a) "dict":=by
 rcases g with⟨kvs,k,e,_,_⟩ | ⟨kvs,k,b,e,_,_,_⟩
 · obtain⟨_,_,vs,_,dd⟩:=Ov I.hok e;exact dd.typeIs
 · obtain⟨_,_,xs,_,dd⟩:=Px I.hok e;exact dd.typeIs
def Xp(td ty:TE):TE:=λσ H Q=>td σ H λx H1=>ty σ H1 λy H2=>∃a v,x= .ref a∧DGet H2 a y (some v)∧Q v H2
def YD(ty td:TE):TE:=λσ H Q=>ty σ H λy H1=>td σ H1 λx H2=>∃a o,x= .ref a∧DGet H2 a y o∧Q (.bl (!o.isSome)) H2
section
variable{o i value:Expr}{pos pos' tpos:Pos}{td ty tv:TE}
theorem P_(hu:X.A.units+1<cLine)(ho:PE X o td)(hi:PE X i ty)(hs:Op i):PE X (.Subscript o i pos) (Xp td ty):=by intro pins s σ H Q I h;refine YC PySem.F.slot_dict_getitem.lookup hs (I_ (ho pins s σ H _ I h) λu s1 ⟨x,H1,I1,rx,q1⟩=>I_ (hi pins s1 σ H1 _ I1 q1) λiv s2 ⟨y,H2,I2,ry,a,v,ex,g,q2⟩=>?_);subst ex;obtain rfl:u=Value.ref a:=rx;exact⟨zhI I2 g,ZV hu I2 g ry λw' s3 I3 rw'=>⟨v,H2,I3,rw',q2⟩⟩
theorem Vp(hu:X.A.units+1<cLine)(hi:PE X i ty)(ho:PE X o td):PC X .NotIn i o (YD ty td):=by intro pins s σ H Q I h;refine I_ (hi pins s σ H _ I h) λiv s1 ⟨y,H1,I1,ry,q1⟩=>I_ (ho pins s1 σ H1 _ I1 q1) λu s2 ⟨x,H2,I2,rx,a,ov,ex,g,q2⟩=>?_;subst ex;obtain rfl:u=Value.ref a:=rx;exact XG hu I2 g ry λs3 I3=>⟨.bl (!ov.isSome),H2,I3,rfl,q2⟩
end
theorem UG(h:Heap)(hb:DL<h.objs.size):ObjOk P w H (h.push {cls:= .type "dict",data:= .dict #[]}) h.objs.size (.dK []):=
 ⟨Bc _,beq_eq_false_iff_ne.mpr (Bi (An hb)),[],.nil,Heap.DictOf.new h⟩
section
variable{pos:Pos}
end
section
variable{y d:V}{r:Value}{o:Option V}
end
section
variable{o f:Expr}{apos cpos:Pos}{td ty tx:TE}
end
section
variable{kvs:List (Jq×V)}
end
section
variable{y:V}
end
end L2
namespace Att
open PySem PySem.W PySem.Calls PyProof.Rows
theorem zet{P:Params}:∀(ns:List Int)(vs:List Value),WellAll P h vs (ns.map WData.int)→IntsAre vs ns:=by
 intro ns
 induction ns with
 | nil=> intro vs w;rw[DC] at w;cases w;exact .nil
 | cons n ns ih=>
  intro vs w;rw[AC] at w;cases w with
  | cons a b=> cases a;exact .cons _ _ (ih _ b)
theorem zjD{l:OpenLaw}(hn:l.most=some n){P:Params}{h:Heap}{args:List WData}{vals:List Value}
 (hpre:l.row.toRowW.claim.pre args=true) (hwl:WellAll P h vals args):
 ∃a vs ns,vals=[Value.ref a]∧args=[WData.list (ns.map WData.int)]∧h.get? a=some {cls:= .type "list",data:= .seq vs.toArray}∧IntsAre vs ns∧ns.length≤n:=by
 have hsh:WShape.hasAll [] args [.list .int]=true:=(pre_splitW hpre).1;have hc:l.pre.holds [] {args:=args}=true:=(pre_splitW hpre).2;obtain⟨d,r,rfl,h1,h2⟩:=hasAllW_cons hsh;obtain rfl:=hasAllW_nil h2;obtain⟨xs,rfl,h3⟩:=hasW_list h1;obtain⟨ns,rfl⟩:=items_int h3;have hlen:ns.length≤n:=by
  unfold OpenLaw.pre at hc;have h4:(WTm.not (.lt (.lit (.int (n:Int))) (.len (.arg 0)))).holds [] {args:=[.list (ns.map .int)]}=true:=by have h4:=(holds_andW hc).1;rw[hn] at h4;exact h4
  have h5:=condW_of h4 (w_not (w_lt w_lit (w_len_list (w_arg rfl))));rw[Ab] at h5;refine Nat.le_of_not_lt λq=>?_;have q':(n:Int)<((ns.length:Nat):Int):=by omega
  first
   | (rw[decide_eq_true q'] at h5;exact absurd h5 (by decide))
   | (simp at h5;omega)
 cases hwl with
 | cons w1 w2=>
  cases w2;cases w1 with
  | list ho hall=>exact⟨_,_,ns,rfl,rfl,ho,zet ns _ hall,hlen⟩
theorem zjW(l:OpenLaw)(args:List WData):l.row.toRowW.claim.post args (.bool true) args=true:=
 postW_of (r:=l.row.toRowW) (X:=(true==true))
  (show WShape.has [] (.bool true) .bool=true by first | rfl | decide | simp[WShape.has,WShape.arms,WShape.armsAll])
  (show(WTm.eq .res (.lit (.bool true))).value [] {args:=args,res:=some (.bool true),after:=args}=some (.bool (true==true)) from w_eq_bool (w_res rfl) w_lit) rfl
theorem attach_call{l:OpenLaw}{n:Nat}{q:Bw}{loose:List Str}{XP:(Str→Option Value)→Heap→Prop}{YP:World→Heap→Prop}{d:DefRec}
 (hn:l.most=some n) (hdf:d.params.defaults=[])
 (call:∀(w:World)(s₀ s₁:Shared)(mg mb:Str→Option Value)(fa:Addr)(o:Obj)(pm cd doc:Value)(a:Addr)(vs:List Value)(ns:List Int),
  Ground q loose [] XP w s₀ mg mb s₁.heap→YP w s₁.heap→
  s₁.heap.get? fa=some o→o.data= .func (docDef d.name d.params d.body d.scope pm cd doc)→s₁.heap.CodeRec cd d.name→mg d.name=some (.ref fa)→
  s₁.heap.get? a=some {cls:= .type "list",data:= .seq vs.toArray}→IntsAre vs ns→ns.length≤n→s₁.gens=#[]→
  codeAny (model l.prog w) callerA (.call (.ref fa) ⟨[.ref a],[]⟩) (λr s'=>r= .ok (.ret (.bool true))∧OldK s₁.heap s'.heap∧s'.os=s₁.os∧AllBare s'.gens) s₁):
 WalkO q loose XP YP l.row.toRowW d [] (λf vs=>PySem.call f vs):=by
 intro w s₀ s₁ mg mb G Y fa o pm cd doc dV kV ho hd hcd hD hmg hg args vals as hpre hlay hrd hwl hlo;obtain rfl:dV= .none:=Dflts.none hD hdf;obtain rfl:kV= .none:=Dflts.noKw hD;obtain⟨a,vs,ns,rfl,rfl,hobj,hints,hlen⟩:=zjD hn hpre hwl;refine enter_call (Cn (call w s₀ s₁ mg mb fa o pm cd doc a vs ns G Y ho (fd_plain hd) hcd hmg hobj hints hlen hg) λr s' hq=>?_);obtain⟨rfl,h2,h3,h4⟩:=hq;exact⟨.inl ⟨.bool true,.bool true,[],rfl,λ_=>rfl,.bool true,zjW l _,λ_=>⟨List.Pairwise.nil,λ_ hm=>(nomatch hm)⟩⟩,h2,h3,h4⟩
section
variable{K:Frag}
end
end Att
namespace L2
theorem VC:∀{vs:List Value}{ns:List Int},IntsAre vs ns→Vals (ns.map V.int) vs
 | _,_,.nil=> .nil
 | _,_,.cons n t h=> .cons ⟨t,rfl⟩ (VC h)
def MK(H:Hp):Prop:=∀b,H b=none∨∃o xs,H b=some (.frz o (.lst xs))
theorem Z7{P:Bw}{w:World}{K:Ae}{mg mb:Str→Option Value}{CX:L1}{k:Nat}{fa a:Addr}{fd:Cc}{x:Str}{sp:Sp}{s₁:Shared}{vs:List Value}{ns:List Int}
 (KX:K.In s₁.heap) (hns:s₁.heap.Ns AH mg) (hb:s₁.heap.Ns builtinsNs mb) (hbb:∀x:Str,x≠"__name__"→mb x=Bm x) (hlim:s₁.heap.NoLimit) (hg:s₁.gens=#[])
 (ha:s₁.heap.get? a=some {cls:= .type "list",data:= .seq vs.toArray}) (hi:IntsAre vs ns) (hl:ns.length≤Az) (hr:Room k callerA)
 (F:∀base:Heap,K.In base→base.Ns AH mg→FnOk P w K mg base CX k fa fd [x] sp) (hbind:∀(s:Shared)(u:Value),BindsTo s fd ⟨[u],[]⟩ [(x,u)])
 (hsp:∀H:Hp,MK H→SqL K H a (ns.map V.int)→sp [.ref a] H (λv _=>v= .bl true) λ_ _ _=>False)
 (hCX:∀H e s',CX [] H s₁ (λ_ _ _=>False) e s'→False):
 codeAny (model P w) callerA (.call (.ref fa) ⟨[.ref a],[]⟩) (λr s'=>r= .ok (.ret (.bool true))∧OldK s₁.heap s'.heap∧s'.os=s₁.os∧AllBare s'.gens) s₁:=by
 have rv:=VC hi;have lenV:=hi.length;have JH:∀H:Hp,MK H→SqL K H a (ns.map V.int)→HOk P w H s₁.heap→(∀b,H b≠none→b=a)→(H a≠none→K.lookup a=none)→
  codeAny (model P w) callerA (.call (.ref fa) ⟨[.ref a],[]⟩) (λr s'=>r= .ok (.ret (.bool true))∧OldK s₁.heap s'.heap∧s'.os=s₁.os∧AllBare s'.gens) s₁:=by
  intro H hO hS hok hA hK;have base_of:∀{b:Addr}{o:Obj},s₁.heap.get? b=some o→H b=none→(Kk s₁.heap H).get? b=some o:=λe n=>Z5 e n;have noA:∀{b:Addr}{o:Obj}{es:Array DictEntry}{ep:Nat},s₁.heap.get? b=some o→o.data= .dict es ep→H b=none:=λ{b o es ep}e d=>by
   cases q:H b with
   | none=>rfl
   | some u=> have e':b=a:=hA b (by rw[q];simp);subst e';rw[ha] at e;cases e;have d':Data.seq vs.toArray _=Data.dict es ep:=d;cases d'
  have nsK:∀{b:Addr}{m:Str→Option Value},s₁.heap.Ns b m→(Kk s₁.heap H).Ns b m:=λ{b m} ⟨o,es,ep,e,d,r⟩=>⟨o,es,ep,base_of e (noA e d),d,r⟩;have hKb:K.In (Kk s₁.heap H):=λb o e=>base_of (KX b o e) (by
   cases q:H b with
   | none=>rfl
   | some u=> have e':b=a:=hA b (by rw[q];simp);subst e';rw[hK (by rw[q];simp)] at e;cases e)
  have hM:Mod K mg (Kk s₁.heap H):=⟨hKb,nsK hns,⟨mb,nsK hb,hbb⟩,let⟨mc,h1,h2⟩:=hlim;⟨mc,nsK h1,h2⟩⟩;have e0:Env0 P w K mg (Kk s₁.heap H) callerA [] s₁ H:=⟨rfl,hM,λb o e=>YN e,Nat.le_of_eq (ZH _ _),trivial,λb hb=>absurd (show b∈([]:List Addr) from hb) (by simp),hok,.of_eq hg⟩;refine Cn ((F _ hKb (nsK hns)).run callerA [] s₁ H ⟨[.ref a],[]⟩ [.ref a] [.ref a] _ _ hr e0 (hbind s₁ (.ref a)) (.cons rfl .nil) (hsp H hO hS)) λr s' h=>?_;cases r with
  | error e=>exact(hCX H e s' h).elim
  | ok fl=>
   cases fl with
   | next=>exact Dp h
   | brk=>exact Dp h
   | cont=>exact Dp h
   | ret u=>
    obtain⟨v,H',os,bare,un,hok',r',q⟩:=h;have q':v= .bl true:=q;subst q';obtain rfl:u=Value.bool true:=r';refine⟨rfl,OldK.of_keep λb o e=>?_,os,bare⟩;cases q:H b with
    | none=>exact un.keep b o e q (by intro z;exact absurd (show b∈([]:List Addr) from z) (by simp)) (by simp)
    | some u=>
     rcases hO b with z | ⟨ob,xs,z⟩
     · rw[q] at z;cases z
     · have z2:=un.frzs b ob _ z;obtain⟨e1,_⟩:=hok b _ z;obtain⟨e2,_⟩:=hok' b _ z2;rw[e] at e1;cases e1;exact e2
 cases hk:K.lookup a with
 | some o=> have e:=KX a o hk;rw[ha] at e;cases e;refine JH (λ_=>none) (λ_=> .inl rfl) (.inr ⟨_,vs.toArray,_,hk,rfl,rfl,rfl,by rw[Aw,lenV];exact hl,by simpa using rv⟩) (λb u z=>by have z':(none:Option HO)=some u:=z;cases z') (λb z=>absurd rfl z) λz=>absurd rfl z
 | none=>
  refine JH (λb=>if b=a then some (.frz {cls:= .type "list",data:= .seq vs.toArray} (.lst (ns.map V.int))) else none) (λb=>?_) (.inl (.inr ⟨{cls:= .type "list",data:= .seq vs.toArray},if_pos rfl⟩)) (λb u z=>?_) (λb z=>?_) λ_=>hk
  · by_cases hb:b=a
    · exact .inr ⟨_,_,if_pos hb⟩
    · exact .inl (if_neg hb)
  · by_cases hb:b=a
    · have z':=(if_pos hb).symm.trans z;cases z';subst hb;exact⟨ha,by rw[Ab];exact hl,vs,_,rv,ha⟩
    · have z':=(if_neg hb).symm.trans z;cases z'
  · by_cases hb:b=a
    · exact hb
    · exact absurd (if_neg hb) z
abbrev KOf{K:Ae}{h:Heap}(_:K.In h):Ae:=K
theorem walk_of{l:Gr}{n k:Nat}{q:Bw}{loose:List Str}{XP:(Str→Option Value)→Heap→Prop}{YP:World→Heap→Prop}{d:DefRec}{K:Params→Ae}{CX:World→L1}{sp:World→Sp}{x:Str}
 (hn:l.most=some n) (hn2:n≤Az) (hdf:d.params.defaults=[]) (hr:Room k callerA)
 (hY:∀(w:World)(h:Heap),YP w h→(K w.params).In h)
 (F:∀(w:World)(mg:Str→Option Value)(fa:Addr)(h:Heap),(K w.params).In h→h.Ns AH mg→mg d.name=some (.ref fa)→
  ∃fd:Cc,(∀(s:Shared)(u:Value),BindsTo s fd ⟨[u],[]⟩ [(x,u)])∧
   ∀base:Heap,(K w.params).In base→base.Ns AH mg→FnOk l.prog w (K w.params) mg base (CX w) k fa fd [x] (sp w))
 (hsp:∀(w:World)(H:Hp)(a:Addr)(ns:List Int),ns.length≤n→MK H→SqL (K w.params) H a (ns.map V.int)→sp w [.ref a] H (λv _=>v= .bl true) λ_ _ _=>False)
 (hCX:∀(w:World)(H:Hp)(s:Shared)(e:Value)(s':Shared),CX w [] H s (λ_ _ _=>False) e s'→False):
 PySem.W.WalkO q loose XP YP l.row.toRowW d [] (λf vs=>PySem.call f vs):=by
 refine Att.attach_call hn hdf λw s₀ s₁ mg mb fa o pm cd doc a vs ns G Y ho hd hcd hmg hobj hints hlen hg=>?_;have KX:=hY w _ Y;obtain⟨fd,hb,hF⟩:=F w mg fa _ KX G.T.g hmg;exact Z7 KX G.T.g G.T.b G.T.builtins G.T.nolimit hg hobj hints (AM hlen hn2) hr hF hb (λH hO hS=>hsp w H a ns hlen hO hS) λH e s'=>hCX w H s₁ e s'
def Ln(s:Stmt):Arguments:=match s with
 | .FunctionDef _ a _ _ _ _ _ _ _ _=>a
 | _=>{posonlyargs:=[],args:=[],vararg:=none,kwonlyargs:=[],kw_defaults:=[],kwarg:=none,defaults:=[]}
def K_(s:Stmt):List Stmt:=match s with
 | .FunctionDef _ _ b _ _ _ _ _ _ _=>b
 | _=>[]
def Jh(s:Stmt):Scope:=match s with
 | .FunctionDef _ _ _ _ _ _ sc _ _ _=>sc
 | _=>{kind:= .function,names:=[],isGenerator:=false,isCoroutine:=false}
abbrev Jp:L1:=λ_ _ _ _ _ _=>False
abbrev E0:XK:=λ_ _ _=>False
theorem Xh:PK Jp X E0:=λ_ _ _ _ _ _ _ h=>h.elim
structure Fun(K:Ae)(x qual:Str)(st:Stmt)(f:Addr)(fd:Cc):Prop where
 ex:∃(oc:Value)(od:Option Addr)(kV doc pm:Value)(an:Option Addr)(cdv ct:Value)(osl:Array (Option Value)),
  fd=DB x qual (Ln st) (K_ st) (Jh st) .none kV doc pm an cdv ct∧K.lookup f=some ⟨oc,od,.func fd,osl⟩∧GC K cdv qual=true
 kp:Fd K (.ref f)=true
section
variable{K:Ae}{mg:Str→Option Value}{base:Heap}
theorem Fun.ok{qual:Str}{st:Stmt}{f:Addr}{fd:Cc}{N ps:List Str}{k:Nat}{sp:Sp}(F:Fun K x qual st f fd)(S:FnScope N ps (Jh st))(len:∀vs H Q E,sp vs H Q E→vs.length=ps.length)
 (hbody:∀(cdv:Value)(A:Cw)(outer:List Env)(s:Shared)(H:Hp)(vs:List V)(Q:VK)(E:XK),Room k (A.deeper (envOfC qual (Jh st) s.heap.objs.size f cdv))→sp vs H Q E→
  ∃t,PSs (KW Jp P w K mg base N qual (Jh st) f cdv A outer s H E).nox (K_ st) t∧t {nx:=λ_ H'=>Q .non H',rt:=Q} (start N vs) H):FnOk P w K mg base Jp (k+1) f fd ps sp:=by
 obtain⟨oc,od,kV,doc,pm,an,cdv,ct,osl,rfl,lk,hcd⟩:=F.ex;refine X5 lk hcd S len λA outer s H vs Q E hr hsp=>?_;obtain⟨t,h,q⟩:=hbody cdv A outer s H vs Q E hr hsp;exact⟨t,h.nox,q⟩
theorem Fun.binds{qual:Str}{st:Stmt}{f:Addr}{fd:Cc}{ps:List Str}(F:Fun K x qual st f fd)
 (h:∀(kV doc pm:Value)(an:Option Addr)(cdv ct:Value)(us:List Value),us.length=ps.length→bindArgs (DB x qual (Ln st) (K_ st) (Jh st) .none kV doc pm an cdv ct) ⟨us,[]⟩=pure (ps.zip us)):Binds K fd ps []:=by
 obtain⟨oc,od,kV,doc,pm,an,cdv,ct,osl,rfl,lk,hcd⟩:=F.ex;exact .all (h kV doc pm an cdv ct)
theorem fun_mk{qual:Str}{st:Stmt}{f:Addr}{oc:Value}{od an:Option Addr}{osl:Array (Option Value)}{kV doc pm cdv ct:Value}(l:K.lookup f=some ⟨oc,od,.func (DB x qual (Ln st) (K_ st) (Jh st) .none kV doc pm an cdv ct),osl⟩)
 (c:GC K cdv qual=true) (k:Fd K (.ref f)=true):Fun K x qual st f (DB x qual (Ln st) (K_ st) (Jh st) .none kV doc pm an cdv ct):=⟨⟨oc,od,kV,doc,pm,an,cdv,ct,osl,rfl,l,c⟩,k⟩
end
theorem Nm{k:Nat}(hr:Room k A):A.units+1<cLine:=CL (GY (by decide:1≤64) _) hr.units
theorem JB(h:n≤1000):n<Az:=CL h (by decide)
theorem pv(i:Nat){pos:Pos}(hN:X.N[i]?=some x:=by rfl)(hv:Po X.env.scope x:=by first | exact Or.inl rfl | exact Or.inr (Or.inl rfl) | exact Or.inr (Or.inr rfl))(hd:(x==("__debug__":Str))=false:=by decide)
 (hcd:(x==("__classdict__":Str))=false:=by decide):PE X (.Name x pos) (Lp i):=Ys hN hv hd hcd
theorem IW{A B:Prop}(h:B):if false=true then A else B:=by rw[if_neg A3];exact h
theorem IY{A B:Prop}(h:A):if true=true then A else B:=by rw[if_pos rfl];exact h
theorem Jw{c A B:Prop}[Decidable c](h1:c→A)(h2:¬c→B):if c then A else B:=by
 by_cases h:c
 · rw[if_pos h];exact h1 h
 · rw[if_neg h];exact h2 h
def Same(H H':Hp):Prop:=∀b o,H b=some o→H' b=some o
theorem Same.refl(H:Hp):Same H H:=λ_ _ h=>h
theorem Same.trans{H1 H2:Hp}(a:Same H H1)(b:Same H1 H2):Same H H2:=λc o h=>b c o (a c o h)
theorem Same.free{H':Hp}(e:Same H H'){l:Addr}(h:H' l=Option.none):H l=Option.none:=by
 cases q:H l with
 | none=>rfl
 | some o=> rw[e l o q] at h;cases h
theorem Same.seq{K:Ae}{H':Hp}(e:Same H H')(h:SqL K H a xs):SqL K H' a xs:=by
 rcases h with(h | ⟨o,h⟩) | h
 · exact .inl (.inl (e _ _ h))
 · exact .inl (.inr ⟨o,e _ _ h⟩)
 · exact .inr h
section
variable{κ:Type}[DecidableEq κ]
end
def J4(X:Cx)(N':List Str)(scope:Scope)(cl:List (Str×Addr))(C:Addr)(s₀:Shared)(H₀:Hp)(ex:List Addr):Cx:=
 {prog:=X.prog,w:=X.w,K:=X.K,mg:=X.mg,base:=X.base,A:=X.A,N:=N',s₀:=s₀,H₀:=H₀,env:=compEnvC scope cl C X.env,outer:=X.stack,stack:=X.stack,ex:=ex,fn:=λx=>scope.names.lookup x==some .cell,calm:=X.calm,pn:=[],xe:=λ_ _=>False}
abbrev JF:=List (Option Nat)
def Kh(js:JF)(σ:St):St:=js.map λo=>o.bind λj=>(σ[j]?).join
theorem XF{env:Env}(has:∀x,(env.kindOf x=some .cell∨env.kindOf x=some .free)→∃c,env.cells.lookup x=some c):
 ∀(names:List (Str×NameKind))(acc:List (Str×Addr)),(∀p∈names,p.2= .free→env.kindOf p.1=some .cell∨env.kindOf p.1=some .free)→(∀x c,acc.lookup x=some c→env.cells.lookup x=some c)→
  ∃cl,(forIn names acc (λ(p:Str×NameKind)(cs:List (Str×Addr))=>(do
   if p.2==NameKind.free then
    let c ←cellOf env p.1
    pure (ForInStep.yield ((p.1,c)::cs))
   else pure (ForInStep.yield cs):Sem (ForInStep (List (Str×Addr))))))=pure cl∧(∀x c,cl.lookup x=some c→env.cells.lookup x=some c)∧
   (∀x,(acc.lookup x).isSome=true→(cl.lookup x).isSome=true)∧∀p∈names,p.2= .free→(cl.lookup p.1).isSome=true:=by
 intro names
 induction names with
 | nil=>intro acc _ ha;exact⟨acc,rfl,ha,λ_ h=>h,λ_ h=>nomatch h⟩
 | cons p r ih=>
  intro acc hn ha;obtain⟨n,k⟩:=p;rw[D_];by_cases hk:k= .free
  · subst hk;obtain⟨c,hc⟩:=has n (hn (n,.free) Ai rfl);have e:cellOf env n=(pure c:Sem Addr):=by
     unfold cellOf;rw[hc]
    obtain⟨cl,h1,h2,h3,h4⟩:=ih ((n,c)::acc) (λq hq=>hn q (Aj _ hq)) (λx c' hx=>by
     rw[C8] at hx;cases hb:x==n with
     | true=> rw[hb] at hx;cases hx;rw[show x=n from eq_of_beq hb];exact hc
     | false=> rw[hb] at hx;exact ha x c' hx)
    refine⟨cl,?_,h2,λx hx=>h3 x ?_,λq hq hf=>?_⟩
    · simp only[beq_self_eq_true,if_true,e];exact h1
    · rw[C8];cases hb:x==n with
      | true=>rfl
      | false=>exact hx
    · rcases Ar.mp hq with rfl | hq
      · exact h3 _ (by simp[C8])
      · exact h4 q hq hf
  · have hb:(k==NameKind.free)=false:=by simpa using hk
    obtain⟨cl,h1,h2,h3,h4⟩:=ih acc (λq hq=>hn q (Aj _ hq)) ha;refine⟨cl,?_,h2,h3,λq hq hf=>?_⟩
    · simp only[hb,Ay,if_false];exact h1
    · rcases Ar.mp hq with rfl | hq
      · exact absurd hf hk
      · exact h4 q hq hf
theorem N4{env:Env}{scope:Scope}(has:∀x,(env.kindOf x=some .cell∨env.kindOf x=some .free)→∃c,env.cells.lookup x=some c)
 (hn:∀p∈scope.names,p.2= .free→env.kindOf p.1=some .cell∨env.kindOf p.1=some .free):
 ∃cl,closureFor scope env=pure cl∧(∀x c,cl.lookup x=some c→env.cells.lookup x=some c)∧∀p∈scope.names,p.2= .free→(cl.lookup p.1).isSome=true:=by
 obtain⟨cl,h1,h2,_,h4⟩:=XF has scope.names [] hn (λ_ _ h=>nomatch h);refine⟨cl,?_,h2,h4⟩;unfold closureFor;show(do let cs ←forIn scope.names [] _;pure cs)=_
 refine Eq.trans ?_ h1;simp only[bind_pure]
section
variable{R:Result→Shared→Prop}
theorem zhJ{elt target iter:Expr}{ifs:List Expr}{scope:Scope}{pos:Pos}{it acc:Value}{env:Env}(I:Nat→Shared→Prop)
 (turn:∀n s,I n s→wpAny (model prog w) A (pyNext it) (λr s₁=>match r with
  | none=>R (.ok .next) s₁
  | some v=>wpAny (model prog w) A (Co target it v) (λ_ s₁'=>wpAny (model prog w) A (assign target env v) (λ_ s₂=>
   wpAny (model prog w) A (forIn ifs true λc r=>if r=true then do let ok ←isTrue c env (eval c env);pure (ForInStep.yield ok) else pure (ForInStep.yield r)) (λok s₃=>
    if ok=true then wpAny (model prog w) A (eval elt env) (λx s₄=> wpAny (model prog w) A (call (.builtin "list.append") [acc,x]) (λ_ s₅=>∃m,m<n∧I m s₅) (λ_ _=>False) s₄) (λ_ _=>False) s₃
    else ∃m,m<n∧I m s₃) (λ_ _=>False) s₂) (λ_ _=>False) s₁') (λ_ _=>False) s₁) (λ_ _=>False) s)
 (n:Nat) (h:I n s):
 codeAny (model prog w) A (.compLoop (.ListComp elt [⟨target,iter,ifs,0⟩] scope pos) 0 it acc env) R s:=by
 refine EM rfl I (λn s hI=>?_) n h;show wpAny _ A ((compTurn (.ListComp elt [⟨target,iter,ifs,0⟩] scope pos) 0 it acc env).onRaise (λx=>do noteFrame x env;theTreesLotGoes x)) _ _ s
 refine Fk ?_;rw[compTurn_list];refine Aa (BM (Aa (AB (turn n s hI) (λr s₁ h₁=>?_) λ_ _ h'=>h'.elim)));cases r with
 | none=>exact Ac h₁
 | some v=>
  refine Aa (AB h₁ (λ_ s₁' h₁'=>?_) λ_ _ h'=>h'.elim);refine Aa (AB h₁' (λ_ s₂ h₂=>Aa (AB h₂ (λok s₃ h₃=>?_) λ_ _ h'=>h'.elim)) λ_ _ h'=>h'.elim);cases ok with
  | false=>exact Ac ⟨rfl,h₃⟩
  | true=> exact Aa (Aa (AB h₃ (λx s₄ h₄=>Aa (AB h₄ (λ_ s₅ h₅=>Ac (Ac ⟨rfl,h₅⟩)) λ_ _ h'=>h'.elim)) λ_ _ h'=>h'.elim))
end
def J5(X:Cx)(ifs:List Expr)(t:TT):Prop:=
 ∀(pins:List (Addr×Obj))(s:Shared)(σ:St)(H:Hp)(Q:Bool→Hp→Prop),Inv X pins σ H s→t σ H Q→
  wpAny (model X.prog X.w) X.A (forIn ifs true λc r=>if r=true then do let ok ←isTrue c X.env (eval c X.env);pure (ForInStep.yield ok) else pure (ForInStep.yield r)) (TP X pins σ Q) X.xe s
def LS:TT:=λ_ H Q=>Q true H
theorem Ke:J5 X [] LS:=λ_ _ _ H _ I h=>wpAny_tests_nil ⟨H,I,h⟩
theorem MZ{c:Expr}{t:TT}(h:PT X c t):J5 X [c] t:=λpins s σ H Q I hw=>wpAny_tests_one (h pins s σ H Q I hw)
def L5(J:It)(p:Addr)(js:JF)(g:TG)(tc:TT)(te:TE)(σ:St)(H:Hp)(Q:VK):Prop:=
 ∃W:Nat→Nat→St→List V→Hp→Prop,(∃m,W 0 m (Kh js σ) [] (IU H p (.lst [])))∧∀i m σ' ys H,W i m σ' ys H→H p=some (.lst ys)∧
  ((J.stop i H∧Q (.ref p) H)∨(J.go i H∧ys.length<Az∧∀x H',J.yld i H x H'→g x σ' H' λσ2 H2=>tc σ2 H2 λb H3=>
    if b=true then te σ2 H3 λy H4=>H4 p=some (.lst ys)∧∃m',m'<m∧W (i+1) m' σ2 (ys++[y]) (IU H4 p (.lst (ys++[y])))
    else ∃m',m'<m∧W (i+1) m' σ2 ys H3))
def Wz(wi:TI)(js:JF)(g:TG)(tc:TT)(te:TE):TE:=λσ H Q=>wi σ H λJ H1=>∀p,H1 p=none→L5 J p js g tc te σ H1 Q
structure CapOk(X:Cx)(N':List Str)(js:JF)(scope:Scope):Prop where
 len:js.length=N'.length
 kind:scope.kind= .function
 cells:∀p∈scope.names,p.2= .cell→scope.names.lookup p.1=some .cell
 names:∀p∈scope.names,p.2= .local→scope.names.lookup p.1=some .local
 free:∀p∈scope.names,p.2= .free→X.env.kindOf p.1=some .cell∨X.env.kindOf p.1=some .free
 cap:∀(i j:Nat),js[i]?=some (some j)→∃x,N'[i]?=some x∧X.N[j]?=some x∧scope.names.lookup x=some .free
theorem QZ{names:List (Str×NameKind)}{k:NameKind}(h:names.lookup x=some k):(x,k)∈names:=by
 induction names with
 | nil=>cases h
 | cons p r ih=>
  obtain⟨n,k'⟩:=p;rw[C8] at h;cases hb:x==n with
  | true=> rw[hb] at h;cases h;rw[show x=n from eq_of_beq hb];exact Ai
  | false=> rw[hb] at h;exact Aj _ (ih h)
theorem Wr{env:Env}{k:NameKind}(h:(relabel scope env).names.lookup x=some k):∃k0,scope.names.lookup x=some k0∧(k=k0∨(k0= .free∧k= .cell)):=by
 have go:∀(names:List (Str×NameKind)),(names.map λ(p:Str×NameKind)=>if(p.2==NameKind.free && env.scope.kind== .function && env.kindOf p.1==some .cell) then(p.1,NameKind.cell) else(p.1,p.2)).lookup x=some k→
  ∃k0,names.lookup x=some k0∧(k=k0∨(k0= .free∧k= .cell)):=by
  intro names
  induction names with
  | nil=>intro h;cases h
  | cons p r ih=>
   obtain⟨n,k'⟩:=p;intro h;rw[AC] at h;by_cases hc:(k'==NameKind.free && env.scope.kind== .function && env.kindOf n==some .cell)=true
   · rw[if_pos hc] at h;rw[C8] at h ⊢;cases hb:x==n with
     | true=>
      rw[hb] at h;cases h;have:k'= .free:=by cases k'<;>first | rfl | (simp at hc)
      exact⟨k',rfl,.inr ⟨this,rfl⟩⟩
     | false=> rw[hb] at h;exact ih h
   · rw[if_neg hc] at h;rw[C8] at h ⊢;cases hb:x==n with
     | true=> rw[hb] at h;cases h;exact⟨k',rfl,.inl rfl⟩
     | false=> rw[hb] at h;exact ih h
 exact go scope.names h
theorem zgj{env:Env}(h:scope.names.lookup x=some .free):(relabel scope env).names.lookup x=some .cell∨(relabel scope env).names.lookup x=some .free:=by
 have go:∀(names:List (Str×NameKind)),names.lookup x=some .free→(names.map λ(p:Str×NameKind)=>if(p.2==NameKind.free && env.scope.kind== .function && env.kindOf p.1==some .cell) then(p.1,NameKind.cell) else(p.1,p.2)).lookup x=some .cell∨
  (names.map λ(p:Str×NameKind)=>if(p.2==NameKind.free && env.scope.kind== .function && env.kindOf p.1==some .cell) then(p.1,NameKind.cell) else(p.1,p.2)).lookup x=some .free:=by
  intro names
  induction names with
  | nil=>intro h;cases h
  | cons p r ih=>
   obtain⟨n,k'⟩:=p;intro h;rw[AC];rw[C8] at h;by_cases hc:(k'==NameKind.free && env.scope.kind== .function && env.kindOf n==some .cell)=true
   · rw[if_pos hc,C8];cases hb:x==n with
     | true=>exact .inl rfl
     | false=> rw[hb] at h;exact ih h
   · rw[if_neg hc,C8];cases hb:x==n with
     | true=> rw[hb] at h;exact .inr h
     | false=> rw[hb] at h;exact ih h
 exact go scope.names h
theorem Pg:∀(names:List (Str×NameKind))(n:Nat)(acc:List (Str×Addr)),Cq n names acc=Cq n names []++acc
 | [],_,_=>rfl
 | (x,k)::r,n,acc=>by
  unfold Cq
  split
  · rw[Pg r _ ((x,n)::acc),Pg r _ [(x,n)],BE];rfl
  · exact Pg r n acc
theorem Ro{c:Addr}:∀(names:List (Str×NameKind))(n:Nat)(acc:List (Str×Addr)),(x,c)∈Cq n names acc→(x,NameKind.cell)∈names∨(x,c)∈acc
 | [],_,_,h=> .inr h
 | (y,k)::r,n,acc,h=>by
  unfold Cq at h
  split at h
  · rename_i hk;rcases Ro r _ _ h with z | z
    · exact .inl (Aj _ z)
    · rcases Ar.mp z with z | z
      · cases z;rw[show k= .cell from eq_of_beq hk];exact .inl Ai
      · exact .inr z
  · rcases Ro r _ _ h with z | z
    · exact .inl (Aj _ z)
    · exact .inr z
structure OwnCells(scope:Scope)(cl0 cl:List (Str×Addr))(lo:Nat)(h₁:Heap):Prop where
 own:∀x c,cl.lookup x=some c→(scope.names.lookup x=some .cell→lo<c∧h₁.IsCell c none)∧(scope.names.lookup x≠some .cell→cl0.lookup x=some c)
 has:∀x,scope.names.lookup x=some .cell∨(cl0.lookup x).isSome=true→(cl.lookup x).isSome=true
 inj:∀x y c,scope.names.lookup x=some .cell→scope.names.lookup y=some .cell→cl.lookup x=some c→cl.lookup y=some c→x=y
theorem OZ{M:Model}{A:Cw}{E:Value→Shared→Prop}{s:Shared}{globals:Addr}{cl0:List (Str×Addr)}{qual:Str}{env:Env}{Q:Env→Shared→Prop}(ok:∀p∈scope.names,p.2= .cell→scope.names.lookup p.1=some .cell)
 (hQ:∀(cl:List (Str×Addr))(h₁:Heap),(∃m,h₁.Ns s.heap.objs.size m)→(∀b u,s.heap.get? b=some u→h₁.get? b=some u)→OwnCells scope cl0 cl s.heap.objs.size h₁→
  Q (newEnv scope s.heap.objs.size globals cl qual none .none (some env) builtinsNs) {s with heap:=h₁,toks:=s.toks+([]:List (Str×Value)).length}):
 wpAny M A (newFunctionEnv scope globals cl0 [] qual none .none (some env)) Q E s:=by
 simp only[newFunctionEnv,Option.isSome_some,if_true];refine Aa (wpAny_alloc ?_);refine Aa (wpAny_layCells _ (λname kind cells=>by cases hkc:kind==NameKind.cell<;>simp[hkc]) _ _ _ _ ?_);have ck:=cellsFrom_ok scope.names (s.heap.push {cls:= .type "dict",data:= .dict #[]}) (s.heap.objs.size+1) [] ⟨λ_ _ hm=>(nomatch hm),List.Pairwise.nil⟩ (by rw[AS];exact Af _);rw[AS] at ck;rw[show({s with heap:=s.heap.push {cls:= .type "dict",data:= .dict #[]}}:Shared).heap.objs.size=s.heap.objs.size+1 from AS ..]
 rw[Et];refine Aa (Ac (Ac ?_));rw[Pg];refine hQ _ _ ⟨_,(Heap.Ns.new s.heap (.type "dict")).keeps (pushCells_keeps _ _)⟩ (λb o e=>pushCells_keeps _ _ b o (Ad _ e)) ?_;have lk:∀x,(Cq (s.heap.objs.size+1) scope.names []++cl0).lookup x=((Cq (s.heap.objs.size+1) scope.names []).lookup x).or (cl0.lookup x):=λx=>List.lookup_append;have cn:∀x c,(Cq (s.heap.objs.size+1) scope.names []).lookup x=some c→scope.names.lookup x=some .cell:=λx c e=>by
  rcases Ro _ _ _ (mem_of_lookup e) with z | z
  · exact ok _ z rfl
  · cases z
 refine⟨λx c e=>⟨λhx=>?_,λhx=>?_⟩,λx hx=>?_,λx y c hx hy e1 e2=>?_⟩
 · rw[lk] at e;have q:=Df scope.names (s.heap.objs.size+1) [] (.inl hx);cases z:(Cq (s.heap.objs.size+1) scope.names []).lookup x with
   | none=>rw[z] at q;cases q
   | some c'=> rw[z] at e;cases e;have:=ck.empty _ _ (mem_of_lookup z);exact⟨this.2,this.1⟩
 · rw[lk] at e;cases z:(Cq (s.heap.objs.size+1) scope.names []).lookup x with
   | none=>rw[z] at e;exact e
   | some c'=>exact absurd (cn x c' z) hx
 · rw[lk];rcases hx with hx | hx
   · have q:=Df scope.names (s.heap.objs.size+1) [] (.inl hx);cases z:(Cq (s.heap.objs.size+1) scope.names []).lookup x with
     | none=>rw[z] at q;cases q
     | some c'=>rfl
   · cases z:(Cq (s.heap.objs.size+1) scope.names []).lookup x with
     | none=>exact hx
     | some c'=>rfl
 · rw[lk] at e1 e2;have go:∀x,scope.names.lookup x=some .cell→((Cq (s.heap.objs.size+1) scope.names []).lookup x).or (cl0.lookup x)=some c→(x,c)∈Cq (s.heap.objs.size+1) scope.names []:=λx hx e=>by
    have q:=Df scope.names (s.heap.objs.size+1) [] (.inl hx);cases z:(Cq (s.heap.objs.size+1) scope.names []).lookup x with
    | none=>rw[z] at q;cases q
    | some c'=>rw[z] at e;cases e;exact mem_of_lookup z
   exact name_of_addr ck.apart (go x hx e1) (go y hy e2)
theorem OG{N':List Str}{js:JF}{cl0 cl:List (Str×Addr)}{fp:List Addr}{h₁:Heap}{t':Nat}(ok:CapOk X N' js scope)(I:Inv X pins σ H s)
 (h2':∀x c,cl0.lookup x=some c→X.env.cells.lookup x=some c) (h3':∀p∈scope.names,p.2= .free→(cl0.lookup p.1).isSome=true)
 (hf:∀b∈fp,Je X pins H b) (hlt:∀b∈fp,b<s.heap.objs.size)
 (k:∀b u,s.heap.get? b=some u→h₁.get? b=some u) (hn:∃m,h₁.Ns s.heap.objs.size m) (oc:OwnCells scope cl0 cl s.heap.objs.size h₁):
 Inv (J4 X N' scope cl s.heap.objs.size s H fp) [] (Kh js σ) H {s with heap:=h₁,toks:=t'}:=by
 have fresh:H s.heap.objs.size=none:=I.hok.fresh (Af _);have h2:∀x c,cl.lookup x=some c→(scope.names.lookup x=some .cell∧s.heap.objs.size<c∧h₁.IsCell c none)∨X.env.cells.lookup x=some c:=λx c e=>by
  by_cases hx:scope.names.lookup x=some .cell
  · exact .inl ⟨hx,(oc.own x c e).1 hx⟩
  · exact .inr (h2' x c ((oc.own x c e).2 hx))
 have h3:∀p∈scope.names,p.2= .free→(cl.lookup p.1).isSome=true:=λp hp e=>oc.has _ (.inr (h3' p hp e));have kind_of:∀x,((relabel scope X.env).names.lookup x=some .cell∨(relabel scope X.env).names.lookup x=some .free)→scope.names.lookup x=some .cell∨scope.names.lookup x=some .free:=λx hx=>by
  rcases hx with hx | hx
  · obtain⟨k0,e,z⟩:=Wr hx;rcases z with z | ⟨z,_⟩
    · subst z;exact .inl e
    · subst z;exact .inr e
  · obtain⟨k0,e,z⟩:=Wr hx;rcases z with z | ⟨z,z'⟩
    · subst z;exact .inr e
    · cases z'
 have clt:∀x c,X.env.cells.lookup x=some c→c<s.heap.objs.size:=λx c e=>let⟨v,hv⟩:=I.cell x c e;hv.lt;have okc:(J4 X N' scope cl s.heap.objs.size s H fp).Ok:=by
  refine⟨I.ok.mod,ok.kind,I.ok.glob,I.ok.blt,Af _,λx y c e1 e2=>?_,λx hx=>?_,λx c hx e=>?_,I.ok.hd,I.ok.frames,.inl rfl,λb hb=>⟨An (hlt b hb),λx c e=>?_⟩,I.bs,AM I.ok.bsz I.sz,λb o e hb=>?_,λb hb hb'=>?_,I.stack,I.stkFree⟩
  · rcases h2 x c e1 with⟨k1,l1,_⟩ | l1
    · rcases h2 y c e2 with⟨k2,l2,_⟩ | l2
      · exact oc.inj x y c k1 k2 e1 e2
      · exact absurd l1 (Nat.lt_asymm (clt y c l2))
    · rcases h2 y c e2 with⟨k2,l2,_⟩ | l2
      · exact absurd l2 (Nat.lt_asymm (clt x c l1))
      · exact I.ok.inj x y c l1 l2
  · have z:(cl.lookup x).isSome=true:=by
     rcases kind_of x hx with e | e
     · exact oc.has x (.inl e)
     · exact h3 _ (QZ e) rfl
    cases q:cl.lookup x with
    | none=>rw[q] at z;cases z
    | some c=>exact⟨c,q⟩
  · exact AZ ((oc.own x c e).1 (eq_of_beq hx)).1
  · rcases h2 x c e with⟨_,l,_⟩ | l
    · exact λz=>Nat.lt_asymm (hlt b hb) (z ▸ l)
    · exact(hf b hb).2.2.2.2.1 x c l
  · rcases(hf b hb).2.2.2.1 with z | z
    · exact I.ok.noex b o e z
    · exact absurd (A8 (Ag e) (AM I.ok.bsz z)) (Cs _)
  · rcases Ar.mp (I.stkSub b hb') with z | z
    · exact(hf b hb).2.1 z
    · exact(hf b hb).2.2.1 z
 obtain⟨m,hn⟩:=hn;refine⟨okc,rfl,I.bare,Un.kept k,⟨m,hn,λi x v e1 e2 e3=>?_⟩,λx c e=>?_,fresh,λx c e=>?_,(λp hp=>nomatch hp),I.hok.kept k,by show(Kh js σ).length=N'.length;unfold Kh;rw[Ab];exact ok.len⟩
 · have e2:(Kh js σ)[i]?=some (some v):=e2;unfold Kh at e2;rw[Am] at e2;cases q:js[i]? with
   | none=>rw[q] at e2;cases e2
   | some o=>
    rw[q] at e2;cases o with
    | none=>cases e2
    | some j=>
     obtain⟨x',n1,n2,n3⟩:=ok.cap i j q;have e1:N'[i]?=some x:=e1;rw[n1] at e1;cases e1;have e2:(σ[j]?).join=some v:=AD e2;have e2':σ[j]?=some (some v):=by
      cases q2:σ[j]? with
      | none=>rw[q2] at e2;cases e2
      | some o2=>rw[q2] at e2;exact congrArg some e2
     obtain⟨mo,hno,hlo⟩:=I.loc;have kx:=ok.free _ (QZ n3) rfl;have vis:Po X.env.scope x:=by
      rcases kx with z | z
      · exact .inr (.inl z)
      · exact .inr (.inr z)
     obtain⟨u,r,l⟩:=hlo j x v n2 e2' vis;refine⟨u,r,.inr ⟨zgj n3,?_⟩⟩;rcases l with⟨z,_⟩ | ⟨_,c,hc,hcell⟩
     · rcases kx with y | y<;>(rw[z] at y;cases y)
     · have z:=h3 _ (QZ n3) rfl;cases q3:cl.lookup x with
       | none=>rw[q3] at z;cases z
       | some c'=> have:=h2' x c' ((oc.own x c' q3).2 (by rw[n3];decide));rw[hc] at this;cases this;exact⟨c,q3,hcell.keeps k⟩
 · rcases h2 x c e with⟨_,_,l⟩ | l
   · exact⟨_,l⟩
   · obtain⟨v,hv⟩:=I.cell x c l;exact⟨v,hv.keeps k⟩
 · rcases h2 x c e with⟨_,l,_⟩ | l
   · exact I.hok.fresh (AZ l)
   · exact I.freeC x c l
section
variable{tg iter elt:Expr}{ifs:List Expr}{wi:TI}{js:JF}{g:TG}{tc:TT}{te:TE}{N':List Str}{pos:Pos}
theorem UK{pins:List (Addr×Obj)}{σ:St}{H:Hp}{s:Shared}{E:Value→Shared→Prop}{Q:VK}{J:It}{it:Addr}{fp:List Addr}{tn:Nat→Heap→Prop}{cl:List (Str×Addr)}
 (hc:X.calm=true) (ok:CapOk X N' js scope)
 (h2:∀x c,cl.lookup x=some c→X.env.cells.lookup x=some c) (h3:∀p∈scope.names,p.2= .free→(cl.lookup p.1).isSome=true)
 (hg:∀cl C s₀ H₀ ex,PG (J4 X N' scope cl C s₀ H₀ ex) tg g) (ht:∀cl C s₀ H₀ ex,J5 (J4 X N' scope cl C s₀ H₀ ex) ifs tc) (he:∀cl C s₀ H₀ ex,PE (J4 X N' scope cl C s₀ H₀ ex) elt te)
 (I:Inv X pins σ H s) (T:Turn X.prog X.w X.K tg J fp it tn) (st:tn 0 s.heap) (hf:∀b∈fp,Je X pins H b)
 (hw:∀p,H p=none→L5 J p js g tc te σ H Q):
 wpAny (model X.prog X.w) X.A (newList []) (λacc s₃=>wpAny (model X.prog X.w) X.A (newFunctionEnv scope X.env.globals cl [] X.env.qual none .none (some X.env)) (λcenv s₄=>
  codeAny (model X.prog X.w) X.A (.compStart (.ListComp elt [⟨tg,iter,ifs,0⟩] scope pos) 0 (.ref it) acc {cenv with scope:=relabel scope X.env})
   (λr s'=>r= .ok .next∧(∃m,s'.heap.Ns cenv.locals m)∧∃v H',RelV v acc∧Inv X pins σ H' s'∧Je X pins H' cenv.locals∧Q v H') s₄) E s₃) E s:=by
 have objs:=T.obj _ _ st;refine Bo ?_ (by show 0≤Az;decide);obtain⟨W,⟨m0,w0⟩,turn⟩:=hw s.heap.objs.size (I.hok.fresh (Af _));generalize hp:s.heap.objs.size=p at*;have kp:∀b u,s.heap.get? b=some u→(s.heap.push {cls:= .type "list",dict:=none,data:= .seq ([]:List Value).toArray}).get? b=some u:=λb u e=>Ad _ e;have I3:Inv X pins σ (IU H p (.lst [])) {s with heap:=s.heap.push {cls:= .type "list",dict:=none,data:= .seq ([]:List Value).toArray}}:=by refine I.laid (t':=s.toks) kp (by rw[hp];exact Af _) ⟨Bc _,[],0,.nil,?_⟩;have:=Al s.heap (o:={cls:= .type "list",dict:=none,data:= .seq ([]:List Value).toArray}) rfl;rw[hp] at this;exact this
 have fne:∀b∈fp,b≠p:=λb hb=>by obtain⟨o,e,_⟩:=objs b hb;have:=Ag e;rw[←hp];exact An this
 have hf3:∀b∈fp,Je X pins (IU H p (.lst [])) b:=λb hb=>⟨by rw[Ji (fne b hb)];exact(hf b hb).1,(hf b hb).2⟩;have st3:tn 0 (s.heap.push {cls:= .type "list",dict:=none,data:= .seq ([]:List Value).toArray}):=T.keep _ _ _ st λb _ o e=>kp b o e;have lt3:∀b∈fp,b<(s.heap.push {cls:= .type "list",dict:=none,data:= .seq ([]:List Value).toArray}).objs.size:=λb hb=>by obtain⟨o,e,_⟩:=objs b hb;exact Ag (kp b o e)
 generalize hs3:({s with heap:=s.heap.push {cls:= .type "list",dict:=none,data:= .seq ([]:List Value).toArray}}:Shared)=s3 at*
 have eh:s.heap.push {cls:= .type "list",dict:=none,data:= .seq ([]:List Value).toArray}=s3.heap:=by rw[←hs3]
 rw[eh] at st3 lt3;refine OZ ok.cells λcl h₁ hns₁ k4 oc=>?_;have I4:=OG (cl:=cl) (h₁:=h₁) (t':=s3.toks+([]:List (Str×Value)).length) ok I3 h2 h3 hf3 lt3 k4 hns₁ oc;have st4:tn 0 h₁:=T.keep _ _ _ st3 λb _ o e=>k4 b o e;generalize hX:J4 X N' scope cl s3.heap.objs.size s3 (IU H p (.lst [])) fp=X' at I4;have hg':PG X' tg g:=by rw[←hX];exact hg _ _ _ _ _
 have ht':J5 X' ifs tc:=by rw[←hX];exact ht _ _ _ _ _
 have he':PE X' elt te:=by rw[←hX];exact he _ _ _ _ _
 have eP:X'.prog=X.prog:=by rw[←hX];rfl
 have ew:X'.w=X.w:=by rw[←hX];rfl
 have eK:X'.K=X.K:=by rw[←hX];rfl
 have ec:X'.calm=true:=by rw[←hX];exact hc
 have eA:X'.A=X.A:=by rw[←hX];rfl
 have ex:X'.xe=λ_ _=>False:=by rw[←hX];rfl
 have eE:X'.env=compEnvC scope cl s3.heap.objs.size X.env:=by rw[←hX];rfl
 have eEx:X'.ex=fp:=by rw[←hX];rfl
 have eN:X'.pn=[]:=by rw[←hX];rfl
 have stat:∀{H':Hp},(∀b∈fp,H' b=none)→∀b∈fp,Je X' [] H' b:=λ{H'}hn b hb=>by have okc:=I4.ok;refine⟨hn b hb,(okc.exf b (by rw[eEx];exact hb)).1,okc.exfs b (by rw[eEx];exact hb),.inl (by rw[eEx];exact hb),(okc.exf b (by rw[eEx];exact hb)).2,λq hq=>?_⟩;rw[eN] at hq;cases hq
 have loop:∀s₄:Shared,s₄={s3 with heap:=h₁,toks:=s3.toks+([]:List (Str×Value)).length}→
  codeAny (model X.prog X.w) X.A (.compLoop (.ListComp elt [⟨tg,iter,ifs,0⟩] scope pos) 0 (.ref it) (.ref p) (compEnvC scope cl s3.heap.objs.size X.env))
   (λr s'=>r= .ok .next∧(∃m,s'.heap.Ns s3.heap.objs.size m)∧∃v H',RelV v (.ref p)∧Inv X pins σ H' s'∧Je X pins H' s3.heap.objs.size∧Q v H') s₄:=by
  rintro s₄ rfl;refine zhJ (λn s'=>∃i σ' ys H',Inv X' [] σ' H' s'∧tn i s'.heap∧(∀b∈fp,H' b=none)∧W i n σ' ys H') ?_ m0 ⟨0,_,[],_,I4,st4,λb hb=>(hf3 b hb).1,w0⟩;rintro n s5 ⟨i,σ5,ys,H5,I5,st5,fr5,w5⟩;obtain⟨hp5,tu⟩:=turn i n σ5 ys H5 w5;rcases tu with⟨stop,qn⟩ | ⟨go,hz,step⟩
  · have D:=T.done X' eP ew eK ec i [] s5 σ5 H5 (λ_ _=>False) I5 (stat fr5) st5 stop;rw[eA] at D;refine I_ D λr s6 ⟨hr,I6⟩=>?_;subst hr;refine⟨rfl,?_,.ref p,H5,rfl,?_,?_,qn⟩
    · obtain⟨m,hm,_⟩:=I6.loc;rw[eE] at hm;exact⟨m,hm⟩
    · have b6:=I6.base;have ho:=I6.os;have hk:=I6.hok;have hb:=I6.bare;subst hX;exact I3.call' (ch:=fp) ho b6 hk hb λb hb'=>⟨(hf b hb').2.2.2.1,(hf b hb').2.1,(hf b hb').2.2.2.2.1,(hf b hb').2.2.2.2.2⟩
    · have fr:=I6.free;rw[eE] at fr;exact I3.fpOk (Af _) fr
  · have D:=T.item X' eP ew eK ec i [] s5 σ5 H5 (λ_ _=>False) I5 (stat fr5) st5 go;rw[eA] at D;refine I_ D λr s6 ⟨u,hr,h6⟩=>?_;subst hr;refine I_ h6 λ_ s7 ⟨x,H7,I7,r7,y7,st7,fr7⟩=>?_;have I7':=I7.pinned (stat fr7) (T.obj _ _ st7);have G:=hg' _ s7 σ5 H7 x u _ I7' r7 (step x H7 y7);rw[eP,ew,eA,ex,eE] at G;refine I_ G λ_ s8 ⟨σ8,H8,I8,q8⟩=>?_;have Tt:=ht' _ s8 σ8 H8 _ I8 q8;rw[eP,ew,eA,ex,eE] at Tt;refine I_ Tt λb s9 ⟨H9,I9,q9⟩=>?_;have again:∀{s':Shared}{ys':List V}{H':Hp},Inv X' ([]++Kf fp s7.heap) σ8 H' s'→(∃m',m'<n∧W (i+1) m' σ8 ys' H')→
     ∃m,m<n∧∃i σ' ys H',Inv X' [] σ' H' s'∧tn i s'.heap∧(∀b∈fp,H' b=none)∧W i m σ' ys H':=λ{s' ys' H'}I' ⟨m',hm,w'⟩=>by
     refine⟨m',hm,i+1,σ8,ys',H',I'.unpinned,T.keep _ _ _ st7 λb hb o e=>(I'.pin (b,o) (Ao _ (Ao _ (KL hb e)))).1,λb hb=>?_,w'⟩;obtain⟨o,e,d⟩:=T.obj _ _ st7 b hb;exact(I'.pin (b,o) (Ao _ (Ao _ (KL hb e)))).2.1
    cases b with
    | false=>exact again I9 q9
    | true=> have Ee:=he' _ s9 σ8 H9 _ I9 q9;rw[eP,ew,eA,ex,eE] at Ee;show wpAny _ _ _ _ _ _;refine I_ Ee λxv s10 ⟨y,H10,I10,r10,hp10,q10⟩=>?_;have Ap:=Lf (X:=X') _ s10 σ8 H10 (.ref p) [y] (.ref p) [xv] (λ_ H'=>H'=IU H10 p (.lst (ys++[y]))) I10 rfl (.cons r10 .nil) ⟨p,ys,y,rfl,rfl,hp10,hz,rfl⟩;rw[eP,ew,eA,ex] at Ap;refine I_ Ap λ_ s11 ⟨_,H11,I11,_,e11⟩=>?_;subst e11;exact again I11 q10
 exact codeAny_compStart_list (loop _ rfl) (T.self _ 0 _ _ _ st4 (loop _ rfl))
theorem K6(hc:X.calm=true)(ok:CapOk X N' js scope)(hi:PI X tg iter wi)
 (hg:∀cl C s₀ H₀ ex,PG (J4 X N' scope cl C s₀ H₀ ex) tg g) (ht:∀cl C s₀ H₀ ex,J5 (J4 X N' scope cl C s₀ H₀ ex) ifs tc) (he:∀cl C s₀ H₀ ex,PE (J4 X N' scope cl C s₀ H₀ ex) elt te)
 (hs:∀x,B_ iter X.env x=pure x:=by intro _;rfl):PE X (.ListComp elt [⟨tg,iter,ifs,0⟩] scope pos) (Wz wi js g tc te):=by
 intro pins s σ H Q I h;obtain⟨cl,c1,c2,c3⟩:=N4 (scope:=scope) I.ok.has ok.free;rw[eval_ListComp];refine CS (use:=none) rfl hs c1 ok.kind ok.names (I_ (hi pins s σ H _ I h) λv s1 h1=>I_ h1 λitv s2 h2=>?_);obtain⟨it,fp,tn,J,H2,e,I2,T,st2,f2,hw⟩:=h2;subst e;refine AB (UK (iter:=iter) (pos:=pos) hc ok c2 c3 hg ht he I2 T st2 f2 hw) (λacc s3 h3=>AB h3 (λcenv s4 h4=>?_) λ_ _ z=>z) λ_ _ z=>z;refine Cn h4 λr s5 h5=>?_;obtain⟨rfl,⟨m,hm⟩,v,H5,rv,I5,f5,q5⟩:=h5;refine⟨m,hm,λh' sb=>?_⟩;obtain⟨f0,f1,_,f3,f4,f6⟩:=f5;exact⟨v,H5,I5.turned (t':=s5.toks) (λb o hb e=>(sb.2 b hb).trans e) f0 f1 f3 f4 f6,rv,q5⟩
theorem M7{px:Pos}{spos:Pos}(hN:X.N.Nodup)(hi':X.N[i]?=some x)(hx:Nk X.env.scope x)(hc:X.calm=true)(ok:CapOk X N' js scope)(hi:PI X tg iter wi)
 (hg:∀cl C s₀ H₀ ex,PG (J4 X N' scope cl C s₀ H₀ ex) tg g) (ht:∀cl C s₀ H₀ ex,J5 (J4 X N' scope cl C s₀ H₀ ex) ifs tc) (he:∀cl C s₀ H₀ ex,PE (J4 X N' scope cl C s₀ H₀ ex) elt te)
 (hsw:swapsWith (.ListComp elt [⟨tg,iter,ifs,0⟩] scope pos) (some (.Name x px)) spos.line X.env=pure true:=by rfl)
 (hs:∀x,B_ iter X.env x=pure x:=by intro _;rfl) (hf:X.fn x=true∨X.env.scope.names.lookup x=some .local:=by first | exact .inl rfl | exact .inr rfl | assumption):
 PS X (.Assign [.Name x px] (.ListComp elt [⟨tg,iter,ifs,0⟩] scope pos) spos) (KQ (Wz wi js g tc te) (KY i)):=by
 intro pins s σ H D I h;obtain⟨cl,c1,c2,c3⟩:=N4 (scope:=scope) I.ok.has ok.free;rw[exec_Assign_Name_used _ _ _ _ hsw];refine Aa (BM (Aa ?_));show wpAny _ X.A (do let _ ←comprehension (.ListComp elt [⟨tg,iter,ifs,0⟩] scope pos) scope X.env _ (newList []) false (eval iter X.env) (some (assign (.Name x px) X.env))) _ _ s
 refine Aa (AB (CS (use:=some (assign (.Name x px) X.env)) (Q:=λ_ s'=>SP X pins D .next s') rfl hs c1 ok.kind ok.names
  (I_ (hi pins s σ H _ I h) λv s1 h1=>I_ h1 λitv s2 h2=>?_)) (λ_ s' hq=>Ac (Ac hq)) λ_ _ e=>e)
 obtain⟨it,fp,tn,J,H2,e,I2,T,st2,f2,hw⟩:=h2;subst e;refine AB (UK (Q:=λx H1=>KY i x σ H1 D.nx) (iter:=iter) (pos:=pos) hc ok c2 c3 hg ht he I2 T st2 f2 hw) (λacc s3 h3=>AB h3 (λcenv s4 h4=>?_) λ_ _ z=>z) λ_ _ z=>z;refine Cn h4 λr s5 h5=>?_;obtain⟨rfl,⟨m,hm⟩,v,H5,rv,I5,f5,q5⟩:=h5;obtain⟨f0,f1,f2',f3,f4,f6⟩:=f5;show wpAny _ X.A (assign (.Name x px) X.env acc) _ _ _;refine FB (Ra I5 hN hi' hx rv (λs6 I6 ch=>?_) hf);obtain⟨a,sb,ha⟩:=ch;have na:cenv.locals≠a:=by
  rcases ha with z | z
  · rw[z];exact f1
  · exact λy=>f4 x a z y.symm
 refine⟨m,hm.sameBut sb na,λh' sb'=>⟨_,H5,I6.turned (t':=s6.toks) (λb o hb e=>(sb'.2 b hb).trans e) f0 f1 f3 f4 f6,q5⟩⟩
end
end L2
set_option exponentiation.threshold 2000
namespace L2
def Pu(i j:Int):Prop:=0≤j∧j≤1000∧i.natAbs<2^1000
def Xx(i j:Int):Prop:=0<j∧j<2^1000
theorem Lb:J8 X (binaryOp .Pow) (rI Pu λi j=> .int (i^j.toNat)):=NX λi j _ _ _ _ _ hc q=>by
 obtain⟨h0,h1,h2⟩:=hc;refine pow_int h0 ?_ q;have hb:Fa i≤1000:=intBits_le h2;have e1:((Fa i:Nat):Int)*j≤1000*1000:=by have a1:((Fa i:Nat):Int)*j≤1000*j:=Int.mul_le_mul_of_nonneg_right (by omega) h0;have a2:1000*j≤1000*1000:=Int.mul_le_mul_of_nonneg_left h1 (by decide);exact Int.le_trans a1 a2
 exact Int.le_trans e1 (by decide)
theorem Qn:J8 X (binaryOp .FloorDiv) (rI Xx λi j=> .int (i / j)):=NX λi j _ _ _ _ _ hc q=>by
 obtain⟨h0,h1⟩:=hc;refine floordiv_int (by omega) ?_ (.inl (PyProof.noPylong_of_log2 ?_))
 · rw[Int.fdiv_eq_ediv_of_nonneg _ (by omega)];exact q
 · have h2:j.natAbs<2^1000:=by
    have e:((j.natAbs:Nat):Int)=j:=by omega
    have h3:((j.natAbs:Nat):Int)<((2^1000:Nat):Int):=by rw[e,Int.natCast_pow];exact h1
    exact Int.ofNat_lt.mp h3
   have h4:j.natAbs≠0:=by omega
   have h5:=(Nat.log2_lt h4).mpr h2;omega
inductive PD where
 | non | bl (b:Bool) | int (i:Int) | str (x:Str) | lst (ds:List PD) | tup (ds:List PD)
mutual
def Ja(K:Ae)(H:Hp):PD→V→Prop
 | .non,v=>v= .non
 | .bl b,v=>v= .bl b
 | .int i,v=>v= .int i
 | .str x,v=>v= .str x
 | .lst ds,v=>∃a xs,v= .ref a∧SqL K H a xs∧Reps K H ds xs
 | .tup ds,v=>∃a xs,v= .ref a∧SqT K H a xs∧Reps K H ds xs
def Reps(K:Ae)(H:Hp):List PD→List V→Prop
 | [],xs=>xs=[]
 | d::ds,xs=>∃x r,xs=x::r∧Ja K H d x∧Reps K H ds r
end
mutual
def Jo:PD→PD→Bool
 | .non,.non=>true
 | .bl a,.bl b=>a==b
 | .bl a,.int b=>(if a then 1 else 0)==b
 | .int a,.bl b=>a==(if b then 1 else 0)
 | .int a,.int b=>a==b
 | .str a,.str b=>a==b
 | .lst xs,.lst ys=>JP xs ys
 | .tup xs,.tup ys=>JP xs ys
 | _,_=>false
def JP:List PD→List PD→Bool
 | [],[]=>true
 | x::xs,y::ys=>Jo x y && JP xs ys
 | _,_=>false
end
mutual
def K1:PD→Nat
 | .lst ds=>K8 ds+1
 | .tup ds=>K8 ds+1
 | _=>0
def K8:List PD→Nat
 | []=>0
 | d::ds=>max (K1 d) (K8 ds)
end
mutual
theorem Q9:∀d:PD,Jo d d=true
 | .non=>rfl
 | .bl b=>by simp[Jo]
 | .int i=>by simp[Jo]
 | .str x=>by simp[Jo]
 | .lst ds=>by rw[Jo];exact OU ds
 | .tup ds=>by rw[Jo];exact OU ds
theorem OU:∀ds:List PD,JP ds ds=true
 | []=>by rw[JP]
 | d::ds=>by rw[JP,Q9 d,OU ds];rfl
end
theorem Reps.length{K:Ae}:∀{ds:List PD}{xs:List V},Reps K H ds xs→xs.length=ds.length
 | [],xs,h=>by rw[Reps] at h;rw[h];rfl
 | d::ds,xs,h=>by rw[Reps] at h;obtain⟨x,r,rfl,_,h⟩:=h;rw[AA,AA,Reps.length h]
theorem Nb:∀{xs ys:List PD},xs.length≠ys.length→JP xs ys=false
 | [],[],h=>absurd rfl h
 | [],_::_,_=>by rw[JP];all_goals simp
 | _::_,[],_=>by rw[JP];all_goals simp
 | x::xs,y::ys,h=>by rw[JP,Nb (xs:=xs) (ys:=ys) (by simpa using h)];simp
def Ni(xs ys:List PD)(j:Nat):Bool:=match xs[j]?,ys[j]? with
 | some a,some b=>Jo a b
 | _,_=>false
theorem NG:∀(xs ys:List PD),xs.length=ys.length→(AG xs.length).all (Ni xs ys)=JP xs ys
 | [],[],_=>by rw[JP];rfl
 | x::xs,y::ys,h=>by rw[JP,AA,E7,CW,List.all_map];rw[←NG xs ys (by simpa using h)];rfl
theorem SqT.notL{K:Ae}{ys:List V}(I:Inv X pins σ H s)(h:SqT X.K H a xs)(h':SqL X.K H a ys):False:=by obtain⟨its,_,p,_⟩:=I.tuple h;obtain⟨its',_,p',_⟩:=I.list h';exact SeqAt.ne_of_list_tuple p'.isList (show s.heap.IsTuple a its.toArray from p) rfl
mutual
theorem O4(I:Inv X pins σ H s):∀(d e:PD)(v:V),Ja X.K H d v→Ja X.K H e v→d=e
 | .non,e,v,h,h'=>by rw[Ja] at h;subst h;cases e<;>rw[Ja] at h'<;>first | rfl | (obtain⟨_,_,z,_⟩:=h';cases z;done) | (cases h';done)
 | .bl b,e,v,h,h'=>by rw[Ja] at h;subst h;cases e<;>rw[Ja] at h'<;>first | (obtain⟨_,_,z,_⟩:=h';cases z;done) | (cases h';done) | (cases h';rfl)
 | .int i,e,v,h,h'=>by rw[Ja] at h;subst h;cases e<;>rw[Ja] at h'<;>first | (obtain⟨_,_,z,_⟩:=h';cases z;done) | (cases h';done) | (cases h';rfl)
 | .str x,e,v,h,h'=>by rw[Ja] at h;subst h;cases e<;>rw[Ja] at h'<;>first | (obtain⟨_,_,z,_⟩:=h';cases z;done) | (cases h';done) | (cases h';rfl)
 | .lst ds,e,v,h,h'=>by
  rw[Ja] at h;obtain⟨a,xs,rfl,q,r⟩:=h;cases e with
  | lst es=> rw[Ja] at h';obtain⟨a',ys,z,q',r'⟩:=h';cases z;have:=I.list_inj q q';subst this;rw[Qs I ds es xs r r']
  | tup es=> rw[Ja] at h';obtain⟨a',ys,z,q',r'⟩:=h';cases z;exact(SqT.notL (K:=X.K) I q' q).elim
  | _=>rw[Ja] at h';cases h'
 | .tup ds,e,v,h,h'=>by
  rw[Ja] at h;obtain⟨a,xs,rfl,q,r⟩:=h;cases e with
  | tup es=> rw[Ja] at h';obtain⟨a',ys,z,q',r'⟩:=h';cases z;have:=I.tuple_inj q q';subst this;rw[Qs I ds es xs r r']
  | lst es=> rw[Ja] at h';obtain⟨a',ys,z,q',r'⟩:=h';cases z;exact(SqT.notL (K:=X.K) I q q').elim
  | _=>rw[Ja] at h';cases h'
theorem Qs(I:Inv X pins σ H s):∀(ds es:List PD)(vs:List V),Reps X.K H ds vs→Reps X.K H es vs→ds=es
 | [],es,vs,h,h'=>by
  rw[Reps] at h;subst h;cases es with
  | nil=>rfl
  | cons e es=>rw[Reps] at h';obtain⟨_,_,z,_⟩:=h';cases z
 | d::ds,es,vs,h,h'=>by
  rw[Reps] at h;obtain⟨x,r,rfl,h1,h2⟩:=h;cases es with
  | nil=>rw[Reps] at h';cases h'
  | cons e es=> rw[Reps] at h';obtain⟨x',r',z,h1',h2'⟩:=h';cases z;rw[O4 I d e x h1 h1',Qs I ds es r h2 h2']
end
mutual
theorem UH(I:Inv X pins σ H s):∀(A:Cw)(d e:PD)(v w:V)(u y:Value),Ja X.K H d v→Ja X.K H e w→RelV v u→RelV w y→A.units+K1 d<cLine→SeqAt.EqAt A s u y (Jo d e)
 | A,.non,e,v,w,u,y,h,h',r,r',z=>by
  rw[Ja] at h;subst h;cases r;cases e with
  | non=>rw[Ja] at h';subst h';cases r';rw[Jo];exact EK _
  | bl b=>rw[Ja] at h';subst h';cases r';exact GL b
  | int b=>rw[Ja] at h';subst h';obtain⟨t,rfl⟩:=r';exact EX b t
  | str b=>rw[Ja] at h';subst h';obtain⟨t,rfl⟩:=r';exact EY b t
  | lst es=>rw[Ja] at h';obtain⟨a,xs,rfl,q,_⟩:=h';cases r';obtain⟨its,_,p,_⟩:=I.list q;exact SeqAt.EqAt.none_list p.isList (by omega)
  | tup es=>rw[Ja] at h';obtain⟨a,xs,rfl,q,_⟩:=h';cases r';obtain⟨its,_,p,_⟩:=I.tuple q;exact SeqAt.EqAt.none_tuple p (by omega)
 | A,.bl c,e,v,w,u,y,h,h',r,r',z=>by
  rw[Ja] at h;subst h;cases r;cases e with
  | non=>rw[Ja] at h';subst h';cases r';exact GM c
  | bl b=>rw[Ja] at h';subst h';cases r';exact GN c b
  | int b=>rw[Ja] at h';subst h';obtain⟨t,rfl⟩:=r';exact GU c b t
  | str b=>rw[Ja] at h';subst h';obtain⟨t,rfl⟩:=r';exact GV c b t
  | lst es=>rw[Ja] at h';obtain⟨a,xs,rfl,q,_⟩:=h';cases r';obtain⟨its,_,p,_⟩:=I.list q;exact SeqAt.EqAt.bool_list c p.isList (by omega)
  | tup es=>rw[Ja] at h';obtain⟨a,xs,rfl,q,_⟩:=h';cases r';obtain⟨its,_,p,_⟩:=I.tuple q;exact SeqAt.EqAt.bool_tuple c p (by omega)
 | A,.int c,e,v,w,u,y,h,h',r,r',z=>by
  rw[Ja] at h;subst h;obtain⟨tc,rfl⟩:=r;cases e with
  | non=>rw[Ja] at h';subst h';cases r';exact EZ c tc
  | bl b=>rw[Ja] at h';subst h';cases r';exact GW c tc b
  | int b=>rw[Ja] at h';subst h';obtain⟨t,rfl⟩:=r';exact SeqAt.EqAt.int_int c tc b t
  | str b=>rw[Ja] at h';subst h';obtain⟨t,rfl⟩:=r';exact Eh c tc b t
  | lst es=>rw[Ja] at h';obtain⟨a,xs,rfl,q,_⟩:=h';cases r';obtain⟨its,_,p,_⟩:=I.list q;exact SeqAt.EqAt.int_list c tc p.isList (by omega)
  | tup es=>rw[Ja] at h';obtain⟨a,xs,rfl,q,_⟩:=h';cases r';obtain⟨its,_,p,_⟩:=I.tuple q;exact SeqAt.EqAt.int_tuple c tc p (by omega)
 | A,.str c,e,v,w,u,y,h,h',r,r',z=>by
  rw[Ja] at h;subst h;obtain⟨tc,rfl⟩:=r;cases e with
  | non=>rw[Ja] at h';subst h';cases r';exact E_ c tc
  | bl b=>rw[Ja] at h';subst h';cases r';exact GX c tc b
  | int b=>rw[Ja] at h';subst h';obtain⟨t,rfl⟩:=r';exact Ej c tc b t
  | str b=>rw[Ja] at h';subst h';obtain⟨t,rfl⟩:=r';exact SeqAt.EqAt.str_str c tc b t
  | lst es=>rw[Ja] at h';obtain⟨a,xs,rfl,q,_⟩:=h';cases r';obtain⟨its,_,p,_⟩:=I.list q;exact SeqAt.EqAt.str_list c tc p.isList (by omega)
  | tup es=>rw[Ja] at h';obtain⟨a,xs,rfl,q,_⟩:=h';cases r';obtain⟨its,_,p,_⟩:=I.tuple q;exact SeqAt.EqAt.str_tuple c tc p (by omega)
 | A,.lst ds,e,v,w,u,y,h,h',r,r',z=>by
  have h0:=h;rw[Ja] at h;obtain⟨a,xs,rfl,q,qs⟩:=h;cases r;obtain⟨its,rv,p,_⟩:=I.list q;cases e with
  | non=>rw[Ja] at h';subst h';cases r';exact SeqAt.EqAt.list_none p.isList (by omega)
  | bl b=>rw[Ja] at h';subst h';cases r';exact SeqAt.EqAt.list_bool b p.isList (by omega)
  | int b=>rw[Ja] at h';subst h';obtain⟨t,rfl⟩:=r';exact SeqAt.EqAt.list_int b t p.isList (by omega)
  | str b=>rw[Ja] at h';subst h';obtain⟨t,rfl⟩:=r';exact SeqAt.EqAt.list_str b t p.isList (by omega)
  | tup es=>rw[Ja] at h';obtain⟨b,ys,rfl,q',_⟩:=h';cases r';obtain⟨its',_,p',_⟩:=I.tuple q';exact SeqAt.EqAt.list_tuple p.isList p' (by omega)
  | lst es=>
   have h0':=h';rw[Ja] at h';obtain⟨b,ys,rfl,q',qs'⟩:=h';cases r';obtain⟨its',rv',p',_⟩:=I.list q';by_cases hab:a=b
   · subst hab;rw[O4 I _ _ _ h0 h0',Q9];exact EK _
   · refine SeqAt.EqAt.of_refs hab ?_;rw[Jo];rw[K1] at z;have l1:=qs.length;have l2:=qs'.length;have l3:=rv.length;have l4:=rv'.length;by_cases hl:ds.length=es.length
     · rw[←NG ds es hl];have:=SeqAt.RcAt.lists (e:=Ni ds es) p.isList p'.isList (by simp;omega) (by omega) (λj h1 h2=>?_) (A:=A)
       · simp only[Aw] at this;rw[show ds.length=its.length by omega];exact this
       · have:=NA I A.in1 ds es xs ys its its' qs qs' rv rv' (by rw[C_];omega) j (by simpa using h1) (by simpa using h2);simpa using this
     · rw[Nb hl];exact SeqAt.RcAt.lists_lengths p.isList p'.isList (by simp;omega) (by omega)
 | A,.tup ds,e,v,w,u,y,h,h',r,r',z=>by
  have h0:=h;rw[Ja] at h;obtain⟨a,xs,rfl,q,qs⟩:=h;cases r;obtain⟨its,rv,p,_⟩:=I.tuple q;cases e with
  | non=>rw[Ja] at h';subst h';cases r';exact SeqAt.EqAt.tuple_none p (by omega)
  | bl b=>rw[Ja] at h';subst h';cases r';exact SeqAt.EqAt.tuple_bool b p (by omega)
  | int b=>rw[Ja] at h';subst h';obtain⟨t,rfl⟩:=r';exact SeqAt.EqAt.tuple_int b t p (by omega)
  | str b=>rw[Ja] at h';subst h';obtain⟨t,rfl⟩:=r';exact SeqAt.EqAt.tuple_str b t p (by omega)
  | lst es=>rw[Ja] at h';obtain⟨b,ys,rfl,q',_⟩:=h';cases r';obtain⟨its',_,p',_⟩:=I.list q';exact SeqAt.EqAt.tuple_list p p'.isList (by omega)
  | tup es=>
   have h0':=h';rw[Ja] at h';obtain⟨b,ys,rfl,q',qs'⟩:=h';cases r';obtain⟨its',rv',p',_⟩:=I.tuple q';by_cases hab:a=b
   · subst hab;rw[O4 I _ _ _ h0 h0',Q9];exact EK _
   · refine SeqAt.EqAt.of_refs hab ?_;rw[Jo];rw[K1] at z;have l1:=qs.length;have l2:=qs'.length;have l3:=rv.length;have l4:=rv'.length;have:=SeqAt.RcAt.tuples (e:=Ni ds es) p p' (by omega) (λj h1 h2=>?_) (A:=A)
     · simp only[Aw] at this;by_cases hl:ds.length=es.length
       · rw[←NG ds es hl];rw[show min its.length its'.length=ds.length by omega,show(its.length==its'.length)=true by simp;omega,Bool.and_true] at this;exact this
       · rw[Nb hl];rw[show(its.length==its'.length)=false by simp;omega,DD] at this;exact this
     · have:=NA I A.in1 ds es xs ys its its' qs qs' rv rv' (by rw[C_];omega) j (by simpa using h1) (by simpa using h2);simpa using this
theorem NA(I:Inv X pins σ H s):∀(A:Cw)(ds es:List PD)(vs ws:List V)(us ys:List Value),Reps X.K H ds vs→Reps X.K H es ws→Vals vs us→Vals ws ys→A.units+K8 ds<cLine→
 ∀(j:Nat)(h1:j<us.length)(h2:j<ys.length),SeqAt.EqAt A s us[j] ys[j] (Ni ds es j)
 | A,[],es,vs,ws,us,ys,h,h',r,r',z=>by rw[Reps] at h;subst h;cases r;intro j h1;exact absurd h1 (Ea _)
 | A,d::ds,es,vs,ws,us,ys,h,h',r,r',z=>by
  rw[Reps] at h;obtain⟨x,vr,rfl,g1,g2⟩:=h;cases es with
  | nil=> rw[Reps] at h';subst h';cases r';intro j h1 h2;exact absurd h2 (Ea _)
  | cons e es=>
   rw[Reps] at h';obtain⟨x',vr',rfl,g1',g2'⟩:=h';cases r with
   | cons ra rb=>
    cases r' with
    | cons ra' rb'=>
     rw[K8] at z;intro j h1 h2;cases j with
     | zero=>exact UH I A d e x x' _ _ g1 g1' ra ra' (by omega)
     | succ j=>exact NA I A ds es vr vr' _ _ g2 g2' rb rb' (by omega) j (by simpa using h1) (by simpa using h2)
end
section
variable{R:Result→Shared→Prop}{J:Addr}{fo wo:List Addr}{len:Nat}{At:Nat→Value→Prop}{Sx:Nat→Heap→Prop}
end
section
variable{R:Result→Shared→Prop}{J:Addr}{fo wo:List Addr}{len:Nat}{At:Nat→Value→Prop}{Sx:Nat→Heap→Prop}
end
theorem ziH(I:Inv X pins σ H s)(A:Cw)(d e:PD)(v w:V)(u y:Value)(h:Ja X.K H d v)(h':Ja X.K H e w)(r:RelV v u)(r':RelV w y)(z:A.units+K1 d<cLine):SeqAt.RcNeAt A s u y (!Jo d e):=by
 cases d with
 | non=>
  rw[Ja] at h;subst h;cases r;cases e with
  | non=> rw[Ja] at h';subst h';cases r';rw[Jo];exact SeqAt.RcNeAt.none_none
  | bl b=> rw[Ja] at h';subst h';cases r';exact SeqAt.RcNeAt.none_bool b
  | int b=> rw[Ja] at h';subst h';obtain⟨t,rfl⟩:=r';exact SeqAt.RcNeAt.none_int b t
  | str b=> rw[Ja] at h';subst h';obtain⟨t,rfl⟩:=r';exact SeqAt.RcNeAt.none_str b t
  | lst es=> rw[Ja] at h';obtain⟨b,ys,rfl,q',qs'⟩:=h';cases r';obtain⟨its',rv',p',_⟩:=I.list q';exact SeqAt.RcNeAt.none_list p'.isList (by omega)
  | tup es=> rw[Ja] at h';obtain⟨b,ys,rfl,q',qs'⟩:=h';cases r';obtain⟨its',rv',p',_⟩:=I.tuple q';exact SeqAt.RcNeAt.none_tuple p' (by omega)
 | bl c=>
  rw[Ja] at h;subst h;cases r;cases e with
  | non=> rw[Ja] at h';subst h';cases r';exact SeqAt.RcNeAt.bool_none c
  | bl b=> rw[Ja] at h';subst h';cases r';exact SeqAt.RcNeAt.bool_bool c b
  | int b=> rw[Ja] at h';subst h';obtain⟨t,rfl⟩:=r';exact SeqAt.RcNeAt.bool_int c b t
  | str b=> rw[Ja] at h';subst h';obtain⟨t,rfl⟩:=r';exact SeqAt.RcNeAt.bool_str c b t
  | lst es=> rw[Ja] at h';obtain⟨b,ys,rfl,q',qs'⟩:=h';cases r';obtain⟨its',rv',p',_⟩:=I.list q';exact SeqAt.RcNeAt.bool_list c p'.isList (by omega)
  | tup es=> rw[Ja] at h';obtain⟨b,ys,rfl,q',qs'⟩:=h';cases r';obtain⟨its',rv',p',_⟩:=I.tuple q';exact SeqAt.RcNeAt.bool_tuple c p' (by omega)
 | int c=>
  rw[Ja] at h;subst h;obtain⟨tc,rfl⟩:=r;cases e with
  | non=> rw[Ja] at h';subst h';cases r';exact SeqAt.RcNeAt.int_none c tc
  | bl b=> rw[Ja] at h';subst h';cases r';exact SeqAt.RcNeAt.int_bool c tc b
  | int b=> rw[Ja] at h';subst h';obtain⟨t,rfl⟩:=r';exact SeqAt.RcNeAt.int_int c tc b t
  | str b=> rw[Ja] at h';subst h';obtain⟨t,rfl⟩:=r';exact SeqAt.RcNeAt.int_str c tc b t
  | lst es=> rw[Ja] at h';obtain⟨b,ys,rfl,q',qs'⟩:=h';cases r';obtain⟨its',rv',p',_⟩:=I.list q';exact SeqAt.RcNeAt.int_list c tc p'.isList (by omega)
  | tup es=> rw[Ja] at h';obtain⟨b,ys,rfl,q',qs'⟩:=h';cases r';obtain⟨its',rv',p',_⟩:=I.tuple q';exact SeqAt.RcNeAt.int_tuple c tc p' (by omega)
 | str c=>
  rw[Ja] at h;subst h;obtain⟨tc,rfl⟩:=r;cases e with
  | non=> rw[Ja] at h';subst h';cases r';exact SeqAt.RcNeAt.str_none c tc
  | bl b=> rw[Ja] at h';subst h';cases r';exact SeqAt.RcNeAt.str_bool c tc b
  | int b=> rw[Ja] at h';subst h';obtain⟨t,rfl⟩:=r';exact SeqAt.RcNeAt.str_int c tc b t
  | str b=> rw[Ja] at h';subst h';obtain⟨t,rfl⟩:=r';exact SeqAt.RcNeAt.str_str c tc b t
  | lst es=> rw[Ja] at h';obtain⟨b,ys,rfl,q',qs'⟩:=h';cases r';obtain⟨its',rv',p',_⟩:=I.list q';exact SeqAt.RcNeAt.str_list c tc p'.isList (by omega)
  | tup es=> rw[Ja] at h';obtain⟨b,ys,rfl,q',qs'⟩:=h';cases r';obtain⟨its',rv',p',_⟩:=I.tuple q';exact SeqAt.RcNeAt.str_tuple c tc p' (by omega)
 | lst ds=>
  rw[Ja] at h;obtain⟨a,xs,rfl,q,qs⟩:=h;cases r;obtain⟨its,rv,p,_⟩:=I.list q;cases e with
  | non=> rw[Ja] at h';subst h';cases r';exact SeqAt.RcNeAt.list_none p.isList (by omega)
  | bl b=> rw[Ja] at h';subst h';cases r';exact SeqAt.RcNeAt.list_bool b p.isList (by omega)
  | int b=> rw[Ja] at h';subst h';obtain⟨t,rfl⟩:=r';exact SeqAt.RcNeAt.list_int b t p.isList (by omega)
  | str b=> rw[Ja] at h';subst h';obtain⟨t,rfl⟩:=r';exact SeqAt.RcNeAt.list_str b t p.isList (by omega)
  | lst es=>
   rw[Ja] at h';obtain⟨b,ys,rfl,q',qs'⟩:=h';cases r';obtain⟨its',rv',p',_⟩:=I.list q';rw[Jo];rw[K1] at z;have l1:=qs.length;have l2:=qs'.length;have l3:=rv.length;have l4:=rv'.length;by_cases hl:ds.length=es.length
   · rw[←NG ds es hl];have:=SeqAt.RcNeAt.lists (e:=Ni ds es) p.isList p'.isList (by simp;omega) (by omega) (λj h1 h2=>?_) (A:=A)
     · simp only[Aw] at this;rw[show ds.length=its.length by omega];exact this
     · have:=NA I A.in1 ds es xs ys its its' qs qs' rv rv' (by rw[C_];omega) j (by simpa using h1) (by simpa using h2);simpa using this
   · rw[Nb hl];exact Ft p.isList p'.isList (by simp;omega) (by omega)
  | tup es=> rw[Ja] at h';obtain⟨b,ys,rfl,q',qs'⟩:=h';cases r';obtain⟨its',rv',p',_⟩:=I.tuple q';exact SeqAt.RcNeAt.list_tuple p.isList p' (by omega)
 | tup ds=>
  rw[Ja] at h;obtain⟨a,xs,rfl,q,qs⟩:=h;cases r;obtain⟨its,rv,p,_⟩:=I.tuple q;cases e with
  | non=> rw[Ja] at h';subst h';cases r';exact SeqAt.RcNeAt.tuple_none p (by omega)
  | bl b=> rw[Ja] at h';subst h';cases r';exact SeqAt.RcNeAt.tuple_bool b p (by omega)
  | int b=> rw[Ja] at h';subst h';obtain⟨t,rfl⟩:=r';exact SeqAt.RcNeAt.tuple_int b t p (by omega)
  | str b=> rw[Ja] at h';subst h';obtain⟨t,rfl⟩:=r';exact SeqAt.RcNeAt.tuple_str b t p (by omega)
  | lst es=> rw[Ja] at h';obtain⟨b,ys,rfl,q',qs'⟩:=h';cases r';obtain⟨its',rv',p',_⟩:=I.list q';exact SeqAt.RcNeAt.tuple_list p p'.isList (by omega)
  | tup es=>
   rw[Ja] at h';obtain⟨b,ys,rfl,q',qs'⟩:=h';cases r';obtain⟨its',rv',p',_⟩:=I.tuple q';rw[Jo];rw[K1] at z;have l1:=qs.length;have l2:=qs'.length;have l3:=rv.length;have l4:=rv'.length;have:=SeqAt.RcNeAt.tuples (e:=Ni ds es) p p' (by omega) (λj h1 h2=>?_) (A:=A)
   · simp only[Aw] at this;by_cases hl:ds.length=es.length
     · rw[←NG ds es hl];rw[show min its.length its'.length=ds.length by omega,show(its.length==its'.length)=true by simp;omega,Bool.and_true] at this;exact this
     · rw[Nb hl];rw[show(its.length==its'.length)=false by simp;omega,DD] at this;exact this
   · have:=NA I A.in1 ds es xs ys its its' qs qs' rv rv' (by rw[C_];omega) j (by simpa using h1) (by simpa using h2);simpa using this
def Kz(X:Cx):Prop:=X.A.units+60<cLine
def NQ(K:Ae):R2:=λx y H Q=>∃d e,Ja K H d x∧Ja K H e y∧K1 d<60∧Q (.bl (!Jo d e)) H
theorem Tq(hr:Kz X):J8 X (BN .NotEq) (NQ X.K):=by intro pins s σ H x y v u Q I rx ry h;obtain⟨d,e,h1,h2,h3,q⟩:=h;unfold Kz at hr;exact ziH I X.A d e x y v u h1 h2 rx ry (by omega) X.prog X.w _ _ ⟨.bl _,H,I,rfl,q⟩
theorem Ml{k:Nat}(hr:Room k A):A.units+60<cLine:=CL (GY (by decide:60≤64) _) hr.units
theorem Kd{n:String}:Ko X (.builtin "isinstance") (λxs H Q=>∃x t c b,xs=[x,.ty c]∧TyOf X.K H x (.type t)∧PySem.W.kitOne X.K (.type t) (.type c)=some b∧Q (.bl b) H):=by intro pins s σ H xs us Q I r h;obtain⟨x,t,c,b,rfl,ty,e,q⟩:=h;obtain⟨u,w',rfl,ru,rw'⟩:=M2 r;cases rw';exact ZM I ru ty e λtk=>⟨.bl b,H,I.tok tk,rfl,q⟩
section
variable{K:Ae}{p:Addr}{g:TG}{tc:TT}{te:TE}{Q:VK}
abbrev M4(p:Addr)(g:TG)(tc:TT)(te:TE)(ys:List V)(x:V)(σ:St)(H:Hp)(N:St→List V→Hp→Prop):Prop:=
 g x σ H λσ2 H2=>tc σ2 H2 λb H3=>if b=true then te σ2 H3 λy H4=>H4 p=some (.lst ys)∧N σ2 (ys++[y]) (IU H4 p (.lst (ys++[y]))) else N σ2 ys H3
theorem MQ{n:Nat}{J:It}{js:JF}(Pv:Nat→St→List V→Hp→Prop)(h0:Pv 0 (Kh js σ) [] (IU H p (.lst [])))
 (hl:∀i σ ys H,i≤n→Pv i σ ys H→H p=some (.lst ys)∧ys.length<Az)
 (hgo:∀i σ ys H,i<n→Pv i σ ys H→J.go i H) (hst:∀σ ys H,Pv n σ ys H→J.stop n H)
 (hs:∀(i:Nat)x σ ys H H'(N:St→List V→Hp→Prop),i<n→J.yld i H x H'→Pv i σ ys H→(∀σ' ys' H',Pv (i+1) σ' ys' H'→N σ' ys' H')→M4 p g tc te ys x σ H' N)
 (hd:∀σ ys H,Pv n σ ys H→Q (.ref p) H):
 L5 J p js g tc te σ H Q:=by
 refine⟨λi m σ ys H=>m=n - i∧i≤n∧Pv i σ ys H,⟨n,by simp,Bc _,h0⟩,?_⟩;rintro i m σ ys H ⟨rfl,hi,pv⟩;obtain⟨q1,q2⟩:=hl i σ ys H hi pv;refine⟨q1,?_⟩;by_cases lt:i<n
 · exact .inr ⟨hgo i σ ys H lt pv,q2,λx H' y=>hs i x σ ys H H' (λσ2 ys2 H2=>∃m',m'<n - i∧m'=n - (i+1)∧i+1≤n∧Pv (i+1) σ2 ys2 H2) lt y pv λσ' ys' H' p'=>⟨n - (i+1),by omega,rfl,lt,p'⟩⟩
 · have e:i=n:=by omega
   subst e;exact .inl ⟨hst σ ys H pv,hd σ ys H pv⟩
theorem M9{js:JF}(Pv:Nat→St→List V→Hp→Prop)(h0:Pv 0 (Kh js σ) [] (IU H p (.lst [])))
 (hl:∀i σ ys H,i≤xs.length→Pv i σ ys H→SqL K H a xs∧H p=some (.lst ys)∧ys.length<Az)
 (hs:∀(i:Nat)x σ ys H(N:St→List V→Hp→Prop),xs[i]?=some x→Pv i σ ys H→(∀σ' ys' H',Pv (i+1) σ' ys' H'→N σ' ys' H')→M4 p g tc te ys x σ H N)
 (hd:∀σ ys H,Pv xs.length σ ys H→Q (.ref p) H):L5 (Lz K a) p js g tc te σ H Q:=
 MQ (n:=xs.length) (J:=Lz K a) (js:=js) (σ:=σ) (H:=H) (p:=p) (Q:=Q) (g:=g) (tc:=tc) (te:=te) Pv h0 (λi σ ys H hi pv=>(hl i σ ys H hi pv).2)
  (λi σ ys H hi pv=>⟨xs,xs[i],(hl i σ ys H (AZ hi) pv).1,by simp[hi]⟩) (λσ ys H pv=>⟨xs,(hl _ σ ys H (Af _) pv).1,Af _⟩)
  (λi x σ ys H H' N hi y pv hN=>by obtain⟨e,y⟩:=y;subst e;exact hs i x σ ys _ N (y xs (hl i σ ys _ (AZ hi) pv).1) pv hN) hd
theorem Tl{js:JF}(Pv:Nat→St→List V→Hp→Prop)(h0:Pv 0 (Kh js σ) [] (IU H p (.lst [])))
 (hl:∀i σ ys H,i≤xs.length→Pv i σ ys H→SqT K H a xs∧H p=some (.lst ys)∧ys.length<Az)
 (hs:∀(i:Nat)x σ ys H(N:St→List V→Hp→Prop),xs[i]?=some x→Pv i σ ys H→(∀σ' ys' H',Pv (i+1) σ' ys' H'→N σ' ys' H')→M4 p g tc te ys x σ H N)
 (hd:∀σ ys H,Pv xs.length σ ys H→Q (.ref p) H):L5 (Mu K a) p js g tc te σ H Q:=
 MQ (n:=xs.length) (J:=Mu K a) (js:=js) (σ:=σ) (H:=H) (p:=p) (Q:=Q) (g:=g) (tc:=tc) (te:=te) Pv h0 (λi σ ys H hi pv=>(hl i σ ys H hi pv).2)
  (λi σ ys H hi pv=>⟨xs,xs[i],(hl i σ ys H (AZ hi) pv).1,by simp[hi]⟩) (λσ ys H pv=>⟨xs,(hl _ σ ys H (Af _) pv).1,Af _⟩)
  (λi x σ ys H H' N hi y pv hN=>by obtain⟨e,y⟩:=y;subst e;exact hs i x σ ys _ N (y xs (hl i σ ys _ (AZ hi) pv).1) pv hN) hd
theorem Mj{js:JF}{lo:Int}{n:Nat}(Pv:Nat→St→List V→Hp→Prop)(h0:Pv 0 (Kh js σ) [] (IU H p (.lst [])))
 (hl:∀i σ ys H,i≤n→Pv i σ ys H→H p=some (.lst ys)∧ys.length<Az)
 (hs:∀(i:Nat)σ ys H(N:St→List V→Hp→Prop),i<n→Pv i σ ys H→(∀σ' ys' H',Pv (i+1) σ' ys' H'→N σ' ys' H')→M4 p g tc te ys (.int (lo+i)) σ H N)
 (hd:∀σ ys H,Pv n σ ys H→Q (.ref p) H):L5 (Mv lo n) p js g tc te σ H Q:=
 MQ (n:=n) (J:=Mv lo n) (js:=js) (σ:=σ) (H:=H) (p:=p) (Q:=Q) (g:=g) (tc:=tc) (te:=te) Pv h0 hl
  (λi σ ys H hi pv=>hi) (λσ ys H pv=>Af n)
  (λi x σ ys H H' N hi y pv hN=>by obtain⟨e,y⟩:=y;subst e y;exact hs i σ ys _ N hi pv hN) hd
end
def UC(outer:Scope)(N N':List Str)(js:JF)(scope:Scope):Bool:=
 decide (js.length=N'.length) && (scope.kind== .function) && scope.names.all (λp=>(p.2 != .cell || scope.names.lookup p.1==some .cell) && (p.2 != .local || scope.names.lookup p.1==some .local) && (p.2 != .free || (outer.names.lookup p.1==some .cell || outer.names.lookup p.1==some .free)))
  && (AG js.length).all λi=>match js[i]? with
   | some (some j)=>(match N'[i]? with | some x=>N[j]?==some x && scope.names.lookup x==some .free | none=>false)
   | _=>true
theorem JN{N N':List Str}{js:JF}{outer:Scope}(h:UC outer N N' js scope=true)(hN:X.N=N:=by rfl)(ho:X.env.scope=outer:=by rfl):CapOk X N' js scope:=by
 subst hN ho;unfold UC at h;rw[AX,AX,AX] at h;obtain⟨⟨⟨h1,h2⟩,h3⟩,h4⟩:=h;rw[List.all_eq_true] at h3 h4;refine⟨of_decide_eq_true h1,eq_of_beq h2,λp hp e=>?_,λp hp e=>?_,λp hp e=>?_,λi j e=>?_⟩
 · have:=h3 p hp;rw[e] at this;simp at this;exact this
 · have:=h3 p hp;rw[e] at this;simp at this;exact this
 · have:=h3 p hp;rw[e] at this;simp at this;exact this
 · have hi:i<js.length:=(Au.mp e).1;have:=h4 i (Be.mpr hi);rw[e] at this;simp only at this;cases q:N'[i]? with
   | none=>rw[q] at this;cases this
   | some x=> rw[q] at this;simp only[AX,beq_iff_eq] at this;exact⟨x,rfl,this.1,this.2⟩
def Jr(P:Bw)(w:World)(K:Ae)(mg:Str→Option Value)(base:Heap)(k:Nat)(x:Str)(ps:List Str)(sp:Sp):Prop:=
 ∃f fd,FnOk P w K mg base Jp k f fd ps sp∧Binds K fd ps []∧Fd K (.ref f)=true∧mg x=some (.ref f)
section
variable{k:Nat}{ps:List Str}{sp:Sp}{es:List Expr}{t:TA}{p pos:Pos}
theorem Jd(F:Jr X.prog X.w X.K X.mg X.base k x ps sp)(hr:Room k X.A)(hg:Gl X x)(ha:PA X (e::es) t)(hdb:(x==("__debug__":Str))=false:=by decide)
 (he:A9 (e::es) X.env=(false,eval e X.env)::A9 es X.env:=by rfl) (hpl:(backTo pos (A9 es X.env)).any (·.1)=false:=by rfl):PE X (.Call (.Name x p) (e::es) [] pos) (SS sp [] E0 t):=by
 obtain⟨f,fd,h1,h2,h3,h4⟩:=F;exact YO h1 hr hg h4 h3 h2 .nil Xh ha hdb he hpl
end
structure Bl(mg:Str→Option Value):Prop where
 len_:mg "len"=none
 range_:mg "range"=none
 isinstance_:mg "isinstance"=none
 int_:mg "int"=none
 bool_:mg "bool"=none
 tuple_:mg "tuple"=none
 list_:mg "list"=none
 max_:mg "max"=none
 min_:mg "min"=none
 all_:mg "all"=none
 zip_:mg "zip"=none
 str_:mg "str"=none
 dict_:mg "dict"=none
 sorted_:mg "sorted"=none
 set_:mg "set"=none
 any_:mg "any"=none
 sum_:mg "sum"=none
 enumerate_:mg "enumerate"=none
 repr_:mg "repr"=none
 ord_:mg "ord"=none
 chr_:mg "chr"=none
 abs_:mg "abs"=none
 reversed_:mg "reversed"=none
theorem PB:Bm "int"=some (.type "int"):=by decide+kernel
theorem Qg:Bm "bool"=some (.type "bool"):=by decide+kernel
theorem L8:Bm "tuple"=some (.type "tuple"):=by decide+kernel
theorem KN:Bm "list"=some (.type "list"):=by decide+kernel
theorem PH:Bm "str"=some (.type "str"):=by decide+kernel
theorem XE:Bm "dict"=some (.type "dict"):=by decide+kernel
theorem Tc:Bm "set"=some (.type "set"):=by decide+kernel
theorem JT:Bm "isinstance"=some (.builtin "isinstance"):=by decide+kernel
theorem J9:Bm "len"=some (.builtin "len"):=by decide+kernel
theorem WK:Bm "max"=some (.builtin "max"):=by decide+kernel
theorem PF:Bm "min"=some (.builtin "min"):=by decide+kernel
theorem Mf:Bm "all"=some (.builtin "all"):=by decide+kernel
theorem Tb:Bm "any"=some (.builtin "any"):=by decide+kernel
theorem OE:Bm "sorted"=some (.builtin "sorted"):=by decide+kernel
theorem MN(h:n≤1000):n≤Az:=AZ (JB h)
theorem Jf{p:Addr}(h:H p=none)(o:HO):Same H (IU H p o):=λb u q=>by rw[Ji (JJ q h)];exact q
def eV:Option Int→V
 | none=> .non
 | some i=> .int i
def SameB(b g:Addr)(H H':Hp):Prop:=∀a o,H a=some o→a≠b→a≠g→H' a=some o
theorem SameB.trans{g:Addr}{H1 H2:Hp}(x:SameB b g H H1)(y:SameB b g H1 H2):SameB b g H H2:=λa o h n1 n2=>y a o (x a o h n1 n2) n1 n2
theorem Same.sameB{g:Addr}{H1:Hp}(x:Same H H1):SameB b g H H1:=λa o h _ _=>x a o h
theorem QV{c:TT}{tb u:TS}{D:Ends}(W:Nat→St→Hp→Prop)(M:St→Hp→Prop)(h0:∃m,W m σ H)
 (hs:∀(m:Nat)σ H(Z:St→Hp→Prop),W m σ H→(∀σ' H',M σ' H'→Z σ' H')→c σ H λb H1=>if b=true then ∃N:St→Hp→Prop,(∀σ' H',N σ' H'→∃m',m'<m∧W m' σ' H')∧tb {nx:=N,rt:=D.rt,bk:=Z,ct:=N} σ H1 else Z σ H1)
 (hd:∀σ H,M σ H→u D σ H):Lq (T7 c tb) u D σ H:=⟨W,h0,λm σ H w=>hs m σ H (u D) w hd⟩
theorem UR{K:Ae}:∀ns:List Int,Reps K H (ns.map PD.int) (ns.map V.int)
 | []=>by show Reps K H [] [];rw[Reps]
 | n::ns=>by show Reps K H (.int n::ns.map PD.int) (.int n::ns.map V.int);rw[Reps];exact⟨_,_,rfl,by rw[Ja],UR ns⟩
theorem Wh:∀ns:List Int,K8 (ns.map PD.int)=0
 | []=>by show K8 []=0;rw[K8]
 | n::ns=>by
  show K8 (.int n::ns.map PD.int)=0;rw[K8,Wh ns,K1]
  all_goals simp
theorem SH{K:Ae}{p:Addr}{ns:List Int}{Q:VK}(h:SqL K H a (ns.map V.int))(hp:SqL K H p [])(q:Q (.bl (!ns.isEmpty)) H):NQ K (.ref a) (.ref p) H Q:=by
 refine⟨.lst (ns.map PD.int),.lst [],by rw[Ja];exact⟨a,_,rfl,h,UR ns⟩,by rw[Ja];exact⟨p,_,rfl,hp,by rw[Reps]⟩,by rw[K1,Wh];decide,?_⟩;cases ns with
 | nil=>rw[Jo,show JP (([]:List Int).map PD.int) []=true from OU []];exact q
 | cons n ns=>rw[Jo,Nb (by simp)];exact q
theorem Su{α:Type}{x:α}{r:List α}:JI (x::r) 0=some x:=K7 (j:=0) rfl
theorem W9{α:Type}{x:α}{r:List α}:LG (x::r).length 0=some 0:=by unfold LG;rw[if_pos (by decide),if_pos (by rw[AA];omega)];rfl
theorem WI{ls:List Int}{i:Int}(h0:0≤i)(h1:i<(ls.length:Int)):∃v,JI (ls.map V.int) i=some (.int v)∧v∈ls:=by
 obtain⟨k,rfl⟩:=Dw h0;have hk:k<ls.length:=by omega
 exact⟨ls[k],K7 (by rw[Am,AK hk];rfl),FQ _⟩
theorem Kq:(0:Nat)≤Az:=Bc _
theorem KJ{α:Type}{l:List α}{x:α}(h:l[i]?=some x):l.take (i+1)=l.take i++[x]:=by rw[CM,h];rfl
theorem OA{K:Ae}{p:Addr}{Q:VK}{js:JF}{cap:St}{tc:TT}{te:TE}(ns:List Int)(f:Int→Int)(c:Int→Bool)(hn:ns.length≤900)(e:SqL K H a (ns.map V.int))(hp:H p=none)(hσ:Kh js σ=none::cap)
 (ht:∀n H'(R:Bool→Hp→Prop),Same H H'→R (c n) H'→tc (some (.int n)::cap) H' R) (he:∀n H'(R:VK),Same H H'→R (.int (f n)) H'→te (some (.int n)::cap) H' R)
 (hq:∀H',Same H H'→H' p=some (.lst (((ns.filter c).map f).map V.int))→Q (.ref p) H'):L5 (Lz K a) p js (KY 0) tc te σ H Q:=by
 have s0:=Jf hp (.lst []);refine M9 (xs:=ns.map V.int) (λi σ' ys H'=>(∃v,σ'=v::cap)∧Same H H'∧H' p=some (.lst ys)∧ys=((((ns.take i).filter c).map f).map V.int)) ⟨⟨_,hσ⟩,s0,IX,rfl⟩ ?_ ?_ ?_
 · rintro i σ' ys H' hi ⟨_,s,h1,h2⟩;refine⟨s.seq e,h1,?_⟩;rw[h2];simp only[Ab];have:=BC c (ns.take i);rw[AE] at this;exact JB (by omega)
 · rintro i x σ' ys H' N hx ⟨⟨v,rfl⟩,s,h1,h2⟩ hN;rw[Am] at hx;cases hn':ns[i]? with
   | none=>rw[hn'] at hx;cases hx
   | some n=>
    rw[hn'] at hx;have hx:V.int n=x:=AD hx;subst hx;refine ht n H' _ s ?_;have e1:=KJ hn';cases hc:c n with
    | true=>
     refine IY (he n H' _ s ⟨h1,hN _ _ _ ⟨⟨_,rfl⟩,?_,IX,?_⟩⟩)
     · intro b o q;have:b≠p:=λz=>by rw[z,hp] at q;cases q
       rw[Ji this];exact s b o q
     · rw[h2,e1,BR,DM,if_pos hc];simp
    | false=> refine IW (hN _ _ _ ⟨⟨_,rfl⟩,s,h1,?_⟩);rw[h2,e1,BR,DM,if_neg (by rw[hc];exact A3)];simp
 · rintro σ' ys H' ⟨_,s,h1,h2⟩;refine hq H' s ?_;rw[h1,h2,Ab,Bx]
theorem Same.seqT{K:Ae}{H':Hp}(e:Same H H')(h:SqT K H a xs):SqT K H' a xs:=by
 rcases h with(h | ⟨o,h⟩) | h
 · exact .inl (.inl (e _ _ h))
 · exact .inl (.inr ⟨o,e _ _ h⟩)
 · exact .inr h
def Ot(xs:List V):It:=⟨λi _=>i<xs.length,λi H x H'=>H'=H∧xs[i]?=some x,λi _=>xs.length≤i⟩
theorem ze7{K:Ae}{tg:Expr}(it:Addr)(x:Str)(t:Tok):Turn P w K tg (Ot (x.cps.toList.map λc=>V.str ⟨#[c]⟩)) [it] it (λi h=>h.IsStrIter it "str_ascii_iterator" x t i) where
 mem:=by simp
 obj:=λi h st b hb=>by
  have e:b=it:=by simpa using hb
  subst e;obtain⟨o,e,c,d⟩:=st;exact⟨o,e,λv z=>by rw[d] at z;cases z⟩
 keep:=λi h h' st k=>let⟨o,ho,r⟩:=st;⟨o,k it (by simp) o ho,r⟩
 item:=by
  intro X hP hw hK hc i pins s σ H E I hf st hg;subst hP hw hK;have hg:i<(x.cps.toList.map λc=>V.str ⟨#[c]⟩).length:=hg;rw[Ab,Ah] at hg;obtain⟨f0,f1,f2,f3,f4,f5⟩:=hf it (by simp);refine wpAny_pyNext_ascii_item st (c:=x.cps[i]) (by simp[hg]) λh' st' sb=>?_;have I1:Inv X pins σ H {s with heap:=h',toks:=s.toks+1}:=I.turned (λb o hb e=>(sb.2 b hb).trans e) f0 f1 f3 f4 f5
  obtain⟨o,e,c,d⟩:=id st';exact⟨_,rfl,Nq (s:={s with heap:=h',toks:=s.toks+1}) e c d (by decide) ⟨.str ⟨#[x.cps[i]]⟩,H,I1,⟨_,rfl⟩,⟨rfl,by rw[Am,A7,AL hg];rfl⟩,st',λb hb=>(hf b hb).1⟩⟩
 done:=by intro X hP hw hK hc i pins s σ H E I hf st hg;subst hP hw hK;have hg:(x.cps.toList.map λc=>V.str ⟨#[c]⟩).length≤i:=hg;rw[Ab,Ah] at hg;obtain⟨f0,f1,f2,f3,f4,f5⟩:=hf it (by simp);exact wpAny_pyNext_ascii_end (I.ok.hd hc) st (by simpa using hg) λh' eb=>⟨rfl,I.turned (t':=s.toks) (λb o hb e=>eb b o hb e) f0 f1 f3 f4 f5⟩
 self:=λ_ _ _ _ _ st h=>wpAny_pyIter_striter_ascii st h
theorem zfZ{K:Ae}{tg:Expr}(it:Addr)(x:Str)(t:Tok):Turn P w K tg (Ot (x.cps.toList.map λc=>V.str ⟨#[c]⟩)) [it] it (λi h=>h.IsStrIter it "str_iterator" x t i) where
 mem:=by simp
 obj:=λi h st b hb=>by
  have e:b=it:=by simpa using hb
  subst e;obtain⟨o,e,c,d⟩:=st;exact⟨o,e,λv z=>by rw[d] at z;cases z⟩
 keep:=λi h h' st k=>let⟨o,ho,r⟩:=st;⟨o,k it (by simp) o ho,r⟩
 item:=by
  intro X hP hw hK hc i pins s σ H E I hf st hg;subst hP hw hK;have hg:i<(x.cps.toList.map λc=>V.str ⟨#[c]⟩).length:=hg;rw[Ab,Ah] at hg;obtain⟨f0,f1,f2,f3,f4,f5⟩:=hf it (by simp);refine wpAny_pyNext_wide_item st (c:=x.cps[i]) (by simp[hg]) λh' st' sb=>?_;have I1:Inv X pins σ H {s with heap:=h',toks:=s.toks+1}:=I.turned (λb o hb e=>(sb.2 b hb).trans e) f0 f1 f3 f4 f5
  obtain⟨o,e,c,d⟩:=id st';exact⟨_,rfl,Nq (s:={s with heap:=h',toks:=s.toks+1}) e c d (by decide) ⟨.str ⟨#[x.cps[i]]⟩,H,I1,⟨_,rfl⟩,⟨rfl,by rw[Am,A7,AL hg];rfl⟩,st',λb hb=>(hf b hb).1⟩⟩
 done:=by intro X hP hw hK hc i pins s σ H E I hf st hg;subst hP hw hK;have hg:(x.cps.toList.map λc=>V.str ⟨#[c]⟩).length≤i:=hg;rw[Ab,Ah] at hg;obtain⟨f0,f1,f2,f3,f4,f5⟩:=hf it (by simp);exact wpAny_pyNext_wide_end (I.ok.hd hc) st (by simpa using hg) λh' eb=>⟨rfl,I.turned (t':=s.toks) (λb o hb e=>eb b o hb e) f0 f1 f3 f4 f5⟩
 self:=λ_ _ _ _ _ st h=>wpAny_pyIter_striter_wide st h
section
variable{tg:Expr}
def signs(x:Str):List V:=x.cps.toList.map λc=>V.str ⟨#[c]⟩
def Sn(tl:TE):TI:=λσ H R=>tl σ H λv H1=>∃x,v= .str x∧R (Ot (signs x)) H1
theorem Yt{l:Expr}{tl:TE}(hl:PE X l tl):PI X tg l (Sn tl):=by
 intro pins s σ H R I h;refine I_ (hl pins s σ H _ I h) λv s1 ⟨y,H1,I1,r1,q1⟩=>?_;obtain⟨x,e,q⟩:=q1;subst e;obtain⟨t,rfl⟩:=r1;cases ha:x.cps.all (· <128)
 · refine wpAny_pyIter_wide ha ?_;refine⟨s1.heap.objs.size,[s1.heap.objs.size],_,_,H1,rfl,I1.kept (t':=s1.toks) λb o e=>Ad _ e,zfZ _ x t,⟨_,Al _ rfl,rfl,rfl⟩,λb hb=>?_,q⟩;have e:b=s1.heap.objs.size:=by simpa using hb
   subst e;exact I1.fpOk (Af _) (I1.hok.fresh (Af _))
 · refine wpAny_pyIter_ascii ha ?_;refine⟨s1.heap.objs.size,[s1.heap.objs.size],_,_,H1,rfl,I1.kept (t':=s1.toks) λb o e=>Ad _ e,ze7 _ x t,⟨_,Al _ rfl,rfl,rfl⟩,λb hb=>?_,q⟩;have e:b=s1.heap.objs.size:=by simpa using hb
   subst e;exact I1.fpOk (Af _) (I1.hok.fresh (Af _))
theorem Vn:J8 X (BN .LtE) (λx y H Q=>∃i j,x= .str i∧y= .str j∧Q (.bl (!decide (j.cps.toList<i.cps.toList))) H):=by intro pins s σ H x y v u Q I rx ry h;obtain⟨i,j,rfl,rfl,q⟩:=h;obtain⟨t,rfl⟩:=rx;obtain⟨t',rfl⟩:=ry;exact PySem.P.le_str (JD I q rfl)
theorem Mi(hc:X.calm=true):Ko X (.builtin "all") (λxs H Q=>∃(a:Addr)(bs:List Bool),xs=[.ref a]∧SqL X.K H a (bs.map V.bl)∧Q (.bl (bs.all id)) H):=by
 intro pins s σ H xs us Q I r h;obtain⟨a,bs,rfl,hq,q⟩:=h;obtain⟨u,rfl,ru⟩:=KC r;cases ru;obtain⟨its,rv,p,hzz⟩:=I.list hq;have ll:=rv.length;rw[Ab] at ll;refine call_all_walk (D9 p.isList ?_);obtain⟨o,ho,_⟩:=id p.isList;have lt:=Ag ho;refine⟨s.heap.objs.size,_,_,_,_,_,λi=>bs.getD i false,rfl,Walks.list (A:=X.A.in1) (I.ok.hd hc) s.heap.objs.size a (An lt) its.toArray,⟨⟨_,Al _ rfl,rfl,rfl⟩,p.isList.at λo' e=>Ad _ e⟩,?_,λg t' k=>?_⟩
 · intro i v s' Q' E' hv q';have hi:its[i]?=some v:=by simpa using hv
   have hl:i<its.length:=(Au.mp hi).1;have e:(bs.map V.bl)[i]?=some (.bl (bs.getD i false)):=by rw[Am,AK (by omega),Cv,AK (by omega)];rfl
   obtain⟨u,h1,h2⟩:=Vals.get rv e;rw[hi] at h1;cases h1;cases h2;exact BP q'
 · refine⟨.bl (bs.all id),H,I.kept (λb o' e=>k b o' ?_ (Ad _ e)),?_,q⟩
   · intro z;exact absurd (Ak.mp z) (An (Ag e))
   · show Value.bool _=Value.bool _;congr 1;rw[Aw,←ll];clear rv ll hq q p ho lt hzz
     induction bs with
     | nil=>rfl
     | cons b r ih=> rw[AA,E7,CW,List.all_map,CW,←ih];rfl
end
theorem WW{xs:List V}{p:Addr}{g:TG}{tc:TT}{te:TE}{Q:VK}{js:JF}(Pv:Nat→St→List V→Hp→Prop)(h0:Pv 0 (Kh js σ) [] (IU H p (.lst [])))
 (hl:∀i σ ys H,i≤xs.length→Pv i σ ys H→H p=some (.lst ys)∧ys.length<Az)
 (hs:∀(i:Nat)x σ ys H(N:St→List V→Hp→Prop),xs[i]?=some x→Pv i σ ys H→(∀σ' ys' H',Pv (i+1) σ' ys' H'→N σ' ys' H')→M4 p g tc te ys x σ H N)
 (hd:∀σ ys H,Pv xs.length σ ys H→Q (.ref p) H):L5 (Ot xs) p js g tc te σ H Q:=
 MQ (n:=xs.length) (J:=Ot xs) (js:=js) (σ:=σ) (H:=H) (p:=p) (Q:=Q) (g:=g) (tc:=tc) (te:=te) Pv h0 hl
  (λi σ ys H hi pv=>hi) (λσ ys H pv=>Af _)
  (λi x σ ys H H' N hi y pv hN=>by obtain⟨e,y⟩:=y;subst e;exact hs i x σ ys _ N y pv hN) hd
section
variable{R:Result→Shared→Prop}
theorem zgJ{kx vx target iter:Expr}{ifs:List Expr}{scope:Scope}{pos:Pos}{it:Value}{D:Addr}{env:Env}(I:Nat→Shared→Prop)
 (turn:∀n s,I n s→wpAny (model prog w) A (pyNext it) (λr s₁=>match r with
  | none=>R (.ok .next) s₁
  | some v=>wpAny (model prog w) A (Co target it v) (λ_ s₁'=>wpAny (model prog w) A (assign target env v) (λ_ s₂=>
   wpAny (model prog w) A (forIn ifs true λc r=>if r=true then do let ok ←isTrue c env (eval c env);pure (ForInStep.yield ok) else pure (ForInStep.yield r)) (λok s₃=>
    if ok=true then wpAny (model prog w) A (eval kx env) (λkv s₄=>wpAny (model prog w) A (eval vx env) (λvv s₅=> wpAny (model prog w) A (dictSet D kv vv) (λ_ s₆=>∃m,m<n∧I m s₆) (λ_ _=>False) s₅) (λ_ _=>False) s₄) (λ_ _=>False) s₃
    else ∃m,m<n∧I m s₃) (λ_ _=>False) s₂) (λ_ _=>False) s₁') (λ_ _=>False) s₁) (λ_ _=>False) s)
 (n:Nat) (h:I n s):
 codeAny (model prog w) A (.compLoop (.DictComp kx vx [⟨target,iter,ifs,0⟩] scope pos) 0 it (.ref D) env) R s:=by
 refine EM rfl I (λn s hI=>?_) n h;show wpAny _ A ((compTurn (.DictComp kx vx [⟨target,iter,ifs,0⟩] scope pos) 0 it (.ref D) env).onRaise (λx=>do noteFrame x env;theTreesLotGoes x)) _ _ s
 refine Fk ?_;rw[compTurn_dict];refine Aa (BM (Aa (AB (turn n s hI) (λr s₁ h₁=>?_) λ_ _ z=>z.elim)));cases r with
 | none=>exact Ac h₁
 | some v=>
  refine Aa (AB h₁ (λ_ s₁' h₁'=>?_) λ_ _ z=>z.elim);refine Aa (AB h₁' (λ_ s₂ h₂=>Aa (AB h₂ (λok s₃ h₃=>?_) λ_ _ z=>z.elim)) λ_ _ z=>z.elim);cases ok with
  | false=>exact Ac ⟨rfl,h₃⟩
  | true=> exact Aa (Aa (AB h₃ (λkv s₄ h₄=>Aa (AF (AB h₄ (λvv s₅ h₅=>Aa (BM (AF (AB h₅ (λ_ s₆ h₆=>Ac ⟨rfl,h₆⟩) λ_ _ z=>z.elim)))) λ_ _ z=>z.elim))) λ_ _ z=>z.elim))
end
def PJ(J:It)(p:Addr)(js:JF)(g:TG)(tc:TT)(tk tv:TE)(σ:St)(H:Hp)(Q:VK):Prop:=
 ∃W:Nat→Nat→St→List (Jq×V)→Hp→Prop,(∃m,W 0 m (Kh js σ) [] (IU H p (.dK [])))∧∀i m σ' kvs H,W i m σ' kvs H→H p=some (.dK kvs)∧
  ((J.stop i H∧Q (.ref p) H)∨(J.go i H∧kvs.length<Az∧∀x H',J.yld i H x H'→g x σ' H' λσ2 H2=>tc σ2 H2 λb H3=>
    if b=true then tk σ2 H3 λk H4=>tv σ2 H4 λy H5=>∃ky,k=kV ky∧H5 p=some (.dK kvs)∧∃m',m'<m∧W (i+1) m' σ2 (Jv kvs ky y) (IU H5 p (.dK (Jv kvs ky y)))
    else ∃m',m'<m∧W (i+1) m' σ2 kvs H3))
def tDC(wi:TI)(js:JF)(g:TG)(tc:TT)(tk tv:TE):TE:=λσ H Q=>wi σ H λJ H1=>∀p,H1 p=none→PJ J p js g tc tk tv σ H1 Q
section
variable{tg iter kx vx:Expr}{ifs:List Expr}{wi:TI}{js:JF}{g:TG}{tc:TT}{tk tv:TE}{N':List Str}{pos:Pos}
theorem Zt{pins:List (Addr×Obj)}{σ:St}{H:Hp}{s:Shared}{E:Value→Shared→Prop}{Q:VK}{J:It}{it:Addr}{fp:List Addr}{tn:Nat→Heap→Prop}{cl:List (Str×Addr)}
 (hc:X.calm=true) (ok:CapOk X N' js scope)
 (h2:∀x c,cl.lookup x=some c→X.env.cells.lookup x=some c) (h3:∀p∈scope.names,p.2= .free→(cl.lookup p.1).isSome=true)
 (hg:∀cl C s₀ H₀ ex,PG (J4 X N' scope cl C s₀ H₀ ex) tg g) (ht:∀cl C s₀ H₀ ex,J5 (J4 X N' scope cl C s₀ H₀ ex) ifs tc) (he:∀cl C s₀ H₀ ex,PE (J4 X N' scope cl C s₀ H₀ ex) kx tk) (hv:∀cl C s₀ H₀ ex,PE (J4 X N' scope cl C s₀ H₀ ex) vx tv)
 (I:Inv X pins σ H s) (T:Turn X.prog X.w X.K tg J fp it tn) (st:tn 0 s.heap) (hf:∀b∈fp,Je X pins H b)
 (hw:∀p,H p=none→PJ J p js g tc tk tv σ H Q):
 wpAny (model X.prog X.w) X.A newDict (λacc s₃=>wpAny (model X.prog X.w) X.A (newFunctionEnv scope X.env.globals cl [] X.env.qual none .none (some X.env)) (λcenv s₄=>
  codeAny (model X.prog X.w) X.A (.compStart (.DictComp kx vx [⟨tg,iter,ifs,0⟩] scope pos) 0 (.ref it) acc {cenv with scope:=relabel scope X.env})
   (λr s'=>r= .ok .next∧(∃m,s'.heap.Ns cenv.locals m)∧∃v H',RelV v acc∧Inv X pins σ H' s'∧Je X pins H' cenv.locals∧Q v H') s₄) E s₃) E s:=by
 have objs:=T.obj _ _ st;refine Bo ?_;obtain⟨W,⟨m0,w0⟩,turn⟩:=hw s.heap.objs.size (I.hok.fresh (Af _));generalize hp:s.heap.objs.size=p at*;have kp:∀b u,s.heap.get? b=some u→(s.heap.push {cls:= .type "dict",data:= .dict #[]}).get? b=some u:=λb u e=>Ad _ e;have I3:Inv X pins σ (IU H p (.dK [])) {s with heap:=s.heap.push {cls:= .type "dict",data:= .dict #[]}}:=by subst hp;exact I.laid (t':=s.toks) kp (Af _) (UG s.heap I.big)
 have fne:∀b∈fp,b≠p:=λb hb=>by obtain⟨o,e,_⟩:=objs b hb;have:=Ag e;rw[←hp];exact An this
 have hf3:∀b∈fp,Je X pins (IU H p (.dK [])) b:=λb hb=>⟨by rw[Ji (fne b hb)];exact(hf b hb).1,(hf b hb).2⟩;have st3:tn 0 (s.heap.push {cls:= .type "dict",data:= .dict #[]}):=T.keep _ _ _ st λb _ o e=>kp b o e;have lt3:∀b∈fp,b<(s.heap.push {cls:= .type "dict",data:= .dict #[]}).objs.size:=λb hb=>by obtain⟨o,e,_⟩:=objs b hb;exact Ag (kp b o e)
 generalize hs3:({s with heap:=s.heap.push {cls:= .type "dict",data:= .dict #[]}}:Shared)=s3 at*
 have eh:s.heap.push {cls:= .type "dict",data:= .dict #[]}=s3.heap:=by rw[←hs3]
 rw[eh] at st3 lt3;refine OZ ok.cells λcl h₁ hns₁ k4 oc=>?_;have I4:=OG (cl:=cl) (h₁:=h₁) (t':=s3.toks+([]:List (Str×Value)).length) ok I3 h2 h3 hf3 lt3 k4 hns₁ oc;have st4:tn 0 h₁:=T.keep _ _ _ st3 λb _ o e=>k4 b o e;generalize hX:J4 X N' scope cl s3.heap.objs.size s3 (IU H p (.dK [])) fp=X' at I4;have hg':PG X' tg g:=by rw[←hX];exact hg _ _ _ _ _
 have ht':J5 X' ifs tc:=by rw[←hX];exact ht _ _ _ _ _
 have he':PE X' kx tk:=by rw[←hX];exact he _ _ _ _ _
 have hv':PE X' vx tv:=by rw[←hX];exact hv _ _ _ _ _
 have eP:X'.prog=X.prog:=by rw[←hX];rfl
 have ew:X'.w=X.w:=by rw[←hX];rfl
 have eK:X'.K=X.K:=by rw[←hX];rfl
 have ec:X'.calm=true:=by rw[←hX];exact hc
 have eA:X'.A=X.A:=by rw[←hX];rfl
 have ex:X'.xe=λ_ _=>False:=by rw[←hX];rfl
 have eE:X'.env=compEnvC scope cl s3.heap.objs.size X.env:=by rw[←hX];rfl
 have eEx:X'.ex=fp:=by rw[←hX];rfl
 have eN:X'.pn=[]:=by rw[←hX];rfl
 have stat:∀{H':Hp},(∀b∈fp,H' b=none)→∀b∈fp,Je X' [] H' b:=λ{H'}hn b hb=>by have okc:=I4.ok;refine⟨hn b hb,(okc.exf b (by rw[eEx];exact hb)).1,okc.exfs b (by rw[eEx];exact hb),.inl (by rw[eEx];exact hb),(okc.exf b (by rw[eEx];exact hb)).2,λq hq=>?_⟩;rw[eN] at hq;cases hq
 have loop:∀s₄:Shared,s₄={s3 with heap:=h₁,toks:=s3.toks+([]:List (Str×Value)).length}→
  codeAny (model X.prog X.w) X.A (.compLoop (.DictComp kx vx [⟨tg,iter,ifs,0⟩] scope pos) 0 (.ref it) (.ref p) (compEnvC scope cl s3.heap.objs.size X.env))
   (λr s'=>r= .ok .next∧(∃m,s'.heap.Ns s3.heap.objs.size m)∧∃v H',RelV v (.ref p)∧Inv X pins σ H' s'∧Je X pins H' s3.heap.objs.size∧Q v H') s₄:=by
  rintro s₄ rfl;refine zgJ (λn s'=>∃i σ' ys H',Inv X' [] σ' H' s'∧tn i s'.heap∧(∀b∈fp,H' b=none)∧W i n σ' ys H') ?_ m0 ⟨0,_,[],_,I4,st4,λb hb=>(hf3 b hb).1,w0⟩;rintro n s5 ⟨i,σ5,ys,H5,I5,st5,fr5,w5⟩;obtain⟨hp5,tu⟩:=turn i n σ5 ys H5 w5;rcases tu with⟨stop,qn⟩ | ⟨go,hz,step⟩
  · have D:=T.done X' eP ew eK ec i [] s5 σ5 H5 (λ_ _=>False) I5 (stat fr5) st5 stop;rw[eA] at D;refine I_ D λr s6 ⟨hr,I6⟩=>?_;subst hr;refine⟨rfl,?_,.ref p,H5,rfl,?_,?_,qn⟩
    · obtain⟨m,hm,_⟩:=I6.loc;rw[eE] at hm;exact⟨m,hm⟩
    · have b6:=I6.base;have ho:=I6.os;have hk:=I6.hok;have hb:=I6.bare;subst hX;exact I3.call' (ch:=fp) ho b6 hk hb λb hb'=>⟨(hf b hb').2.2.2.1,(hf b hb').2.1,(hf b hb').2.2.2.2.1,(hf b hb').2.2.2.2.2⟩
    · have fr:=I6.free;rw[eE] at fr;exact I3.fpOk (Af _) fr
  · have D:=T.item X' eP ew eK ec i [] s5 σ5 H5 (λ_ _=>False) I5 (stat fr5) st5 go;rw[eA] at D;refine I_ D λr s6 ⟨u,hr,h6⟩=>?_;subst hr;refine I_ h6 λ_ s7 ⟨x,H7,I7,r7,y7,st7,fr7⟩=>?_;have I7':=I7.pinned (stat fr7) (T.obj _ _ st7);have G:=hg' _ s7 σ5 H7 x u _ I7' r7 (step x H7 y7);rw[eP,ew,eA,ex,eE] at G;refine I_ G λ_ s8 ⟨σ8,H8,I8,q8⟩=>?_;have Tt:=ht' _ s8 σ8 H8 _ I8 q8;rw[eP,ew,eA,ex,eE] at Tt;refine I_ Tt λb s9 ⟨H9,I9,q9⟩=>?_;have again:∀{s':Shared}{ys':List (Jq×V)}{H':Hp},Inv X' ([]++Kf fp s7.heap) σ8 H' s'→(∃m',m'<n∧W (i+1) m' σ8 ys' H')→
     ∃m,m<n∧∃i σ' ys H',Inv X' [] σ' H' s'∧tn i s'.heap∧(∀b∈fp,H' b=none)∧W i m σ' ys H':=λ{s' ys' H'}I' ⟨m',hm,w'⟩=>by
     refine⟨m',hm,i+1,σ8,ys',H',I'.unpinned,T.keep _ _ _ st7 λb hb o e=>(I'.pin (b,o) (Ao _ (Ao _ (KL hb e)))).1,λb hb=>?_,w'⟩;obtain⟨o,e,d⟩:=T.obj _ _ st7 b hb;exact(I'.pin (b,o) (Ao _ (Ao _ (KL hb e)))).2.1
    cases b with
    | false=>exact again I9 q9
    | true=>
     have Ee:=he' _ s9 σ8 H9 _ I9 q9;rw[eP,ew,eA,ex,eE] at Ee;show wpAny _ _ _ _ _ _;refine I_ Ee λkv s10 ⟨kk,H10,I10,r10,q10⟩=>?_;have Ev:=hv' _ s10 σ8 H10 _ I10 q10;rw[eP,ew,eA,ex,eE] at Ev;refine I_ Ev λvv s11 ⟨y,H11,I11,r11,ky,ek,hp11,q11⟩=>?_;subst ek;obtain⟨z0,hd0,vs0,rel0,dd0⟩:=SD I11.hok hp11;have hz0:vs0.length≤Az:=by rw[←rel0.length];exact z0
     have hl0:(Jv ys ky y).length≤Az:=by have:=Rq ys ky y;omega
     rw[eP,ew] at dd0;refine wpAny_dictSet_pairs (hsz:=hz0) (Nn r10) dd0 λh' dd' hs'=>?_;have he0:∃q,h'.get? p=some q:=let⟨q,_,_,hq,_⟩:=dd';⟨q,hq⟩;have I12:=Ub (t':=s11.toks+1) I11 (by rw[hp11];exact True.intro) hs' he0 (Tf hl0 hd0 (rel0.put ky r11) (by rw[eP,ew];exact dd'));exact again I12 q11
 exact codeAny_compStart_dict (loop _ rfl) (T.self _ 0 _ _ _ st4 (loop _ rfl))
end
theorem PY{ti tp:Addr}{k:Nat}{vs:Array Value}{v:Value}{Q:Value→Shared→Prop}(hi:s.heap.IsTupleIter ti tp k)(ht:s.heap.IsTuple tp vs)(hv:vs[k]?=some v)
 (fin:∀g,g.IsTupleIter ti tp (k+1)→BO ti s.heap g→Q v {s with heap:=g}):wpAny (model prog w) A (Bb (.ref ti)) Q E s:=by
 obtain⟨oi,e1,c1,d1⟩:=id hi;obtain⟨ot,e2,_,nt,d2⟩:=ht;unfold Bb;refine Aa (Bn (name:=C6 "__next__") hi.typeIs CJ (AT CJ hi.typeIs E8 ?_ (E1 _)));show wpAny _ _ (field (.ref ti) 0>>=_) _ _ s;refine Aa (BA e1 d1 (x:= .ref tp) rfl ?_);show wpAny _ _ (if(Value.ref tp==Value.none)=true then _ else _) _ _ s
 rw[if_neg (show ¬((Value.ref tp==Value.none)=true) from A3)];show wpAny _ _ (field (.ref ti) 1>>=_) _ _ s;refine Aa (BA e1 d1 (x:= .int k 0) rfl ?_);show wpAny _ _ (seqItems? (.ref tp)>>=_) _ _ s;refine Aa (Ba e2 d2 ?_);simp only[AU,hv];refine Aa (BU e1 d1 (by simp) (Ac ⟨v,rfl,Ac (fin _ ?_ (AJ ..))⟩));exact⟨_,Bz _ e1 (Obj.isFreed_of_fields (Obj.data_mapFields d1 _)),(Obj.cls_mapFields ..).trans c1,by rw[Obj.data_mapFields d1];simp[rawInt]⟩
theorem Tp{ti tp:Addr}{k:Nat}{vs:Array Value}{Q:Value→Shared→Prop}(hh:A.handled=none)(hi:s.heap.IsTupleIter ti tp k)(ht:s.heap.IsTuple tp vs)(hv:vs[k]?=none)
 (fin:∀g e,G1 ti s.heap g→(∃o,g.get? e=some o∧o.cls= .type "StopIteration")→E (.ref e) {s with heap:=g}):wpAny (model prog w) A (Bb (.ref ti)) Q E s:=by
 obtain⟨oi,e1,c1,d1⟩:=id hi;obtain⟨ot,e2,_,nt,d2⟩:=ht;unfold Bb;refine Aa (Bn (name:=C6 "__next__") hi.typeIs CJ (AT CJ hi.typeIs E8 ?_ (E1 _)));show wpAny _ _ (field (.ref ti) 0>>=_) _ _ s;refine Aa (BA e1 d1 (x:= .ref tp) rfl ?_);show wpAny _ _ (if(Value.ref tp==Value.none)=true then _ else _) _ _ s
 rw[if_neg (show ¬((Value.ref tp==Value.none)=true) from A3)];show wpAny _ _ (field (.ref ti) 1>>=_) _ _ s;refine Aa (BA e1 d1 (x:= .int k 0) rfl ?_);show wpAny _ _ (seqItems? (.ref tp)>>=_) _ _ s;refine Aa (Ba e2 d2 ?_);simp only[AU,hv];refine Aa (Cm (Aa (BU e1 d1 (by simp) ?_)));show wpAny _ _ (newExc (.type "StopIteration") []>>=_) _ _ _;refine Aa ?_;simp only[newExc,newTuple];refine Aa (Bo ?_ (by size_fits));refine Aa (m:=firstArgMember _ _) (G2 (a:=Value.none) (by first | rfl | (simp only[firstArgMember];rfl)) ?_)
 refine Bo ?_ (by size_fits);simp only[raiseNew];refine Aa (wpAny_handled ?_)
 first | rw[show A.in1.handled=none from hh] | rw[hh]
 refine Aa (Ac (wpAny_throw ?_));exact fin _ _ (((AJ ..).extBut.push _).push _) ⟨_,Al _ rfl,rfl⟩
structure ZA(z a b i j:Addr):Prop where
 az:a≠z
 bz:b≠z
 iz:i≠z
 jz:j≠z
 ab:a≠b
 ai:a≠i
 aj:a≠j
 bi:b≠i
 bj:b≠j
 ij:i≠j
theorem LP{h':Heap}{t c:Addr}{vs:Array Value}(x:h.IsTuple t vs)(hs:BO c h h')(n:t≠c):h'.IsTuple t vs:=x.extBut hs.extBut n
theorem Yv{z i j t1 t2:Addr}{k1 k2:Nat}{xs ys:Array Value}{x y p q:Value}{Q:Value→Shared→Prop}(D:ZA z a b i j)(n1:t1≠z∧t1≠b∧t1≠i∧t1≠j)(n2:t2≠z∧t2≠b∧t2≠i∧t2≠j)
 (hz:IsZip s.heap z a b .none) (ha:IsPair s.heap a (.ref i) (.ref j)) (hb:IsPair s.heap b p q) (h1:s.heap.IsTupleIter i t1 k1) (h2:s.heap.IsTupleIter j t2 k2) (g1:s.heap.IsTuple t1 xs) (g2:s.heap.IsTuple t2 ys) (hx:xs[k1]?=some x) (hy:ys[k2]?=some y)
 (fin:∀g,IsZip g z a b (rawInt s.heap.objs.size)→IsPair g b x y→g.IsTupleIter i t1 (k1+1)→g.IsTupleIter j t2 (k2+1)→IsPair g s.heap.objs.size x y→
  (∀c o,c≠z→c≠b→c≠i→c≠j→s.heap.get? c=some o→g.get? c=some o)→Q (.ref s.heap.objs.size) {s with heap:=g}):
 wpAny (model prog w) A (Builtin.«zip.__next__» ⟨[.ref z],[]⟩) (λr s'=>∃v,r= .done (.ret v)∧Q v s') E s:=by
 show wpAny _ _ (field (.ref z) 2>>=_) _ _ _;refine Aa (BA hz rfl (x:= .bool false) rfl ?_);show wpAny _ _ (field (.ref z) 3>>=_) _ _ _;refine Aa (BA hz rfl (x:= .ref a) rfl ?_);refine Aa (Ba ha rfl ?_);show wpAny _ _ (Bk (.ref z)>>=_) _ _ _;refine Aa ?_;unfold Bk;refine Aa (BA hz rfl (x:= .none) rfl (Ac ?_));simp only[if_true];refine Aa (Cm ?_);refine Aa (BA hz rfl (x:= .ref b) rfl ?_);refine Aa (CN hz (by simp) λw1 z1 m1=>?_)
 replace z1:IsZip w1 z a b .ellipsis:=z1
 refine Aa ?_;simp only[List.zipIdx_cons,List.zipIdx_nil,D_,Et];refine Aa (Aa (Fu ?_));show wpAny _ _ (Bb (.ref i)>>=_) _ _ _;refine Aa (PY (h1.extBut m1.extBut D.iz) (LP g1 m1 n1.1) hx λw2 i2 m2=>Ac ?_);have b2:IsPair w2 b p q:=m2.extBut _ _ D.bi (m1.extBut _ _ D.bz hb);refine Aa (Ba b2 rfl ?_);refine Aa (EN b2 λw3 b3 m3=>?_)
 replace b3:IsPair w3 b x q:=b3
 refine Aa (G3 (Ac ?_));refine Aa (Aa (Fu ?_));show wpAny _ _ (Bb (.ref j)>>=_) _ _ _;refine Aa (PY (((h2.extBut m1.extBut D.jz).extBut m2.extBut D.ij.symm).extBut m3.extBut D.bj.symm) (LP (LP (LP g2 m1 n2.1) m2 n2.2.2.1) m3 n2.2.1) hy λw4 j4 m4=>Ac ?_);have b4:IsPair w4 b x q:=m4.extBut _ _ D.bj b3;refine Aa (Ba b4 rfl ?_);refine Aa (EN b4 λw5 b5 m5=>?_)
 replace b5:IsPair w5 b x y:=b5
 refine Aa (G3 (Ac (Ac ?_)));refine Aa (Ba b5 rfl ?_);refine Aa (Eu ?_);have sz:w5.objs.size=s.heap.objs.size:=by rw[m5.1,m4.1,m3.1,m2.1,m1.1]
 have z5:IsZip w5 z a b .ellipsis:=m5.extBut _ _ D.bz.symm (m4.extBut _ _ D.jz.symm (m3.extBut _ _ D.bz.symm (m2.extBut _ _ D.iz.symm z1)));have k5:∀c o,c≠z→c≠b→c≠i→c≠j→s.heap.get? c=some o→w5.get? c=some o:=λc o c1 c2 c3 c4 e=> m5.extBut _ _ c2 (m4.extBut _ _ c4 (m3.extBut _ _ c2 (m2.extBut _ _ c3 (m1.extBut _ _ c1 e))));have i5:w5.IsTupleIter i t1 (k1+1):=((i2.extBut m3.extBut D.bi.symm).extBut m4.extBut D.ij).extBut m5.extBut D.bi.symm;have j5:w5.IsTupleIter j t2 (k2+1):=j4.extBut m5.extBut D.bj.symm;have zlt:z<w5.objs.size:=Ag z5;show wpAny _ _ (Em (.ref z) (.ref w5.objs.size)>>=_) _ _ _;refine Aa ?_;unfold Em;have z6:IsZip (w5.push {cls:= .type "tuple",data:= .seq #[x,y]}) z a b .ellipsis:=Ad _ z5;refine Aa (CN z6 (by simp) λw7 z7 m7=>?_)
 replace z7:IsZip w7 z a b (rawInt w5.objs.size):=z7
 refine CN z7 (by simp) λw8 z8 m8=>?_
 replace z8:IsZip w8 z a b (rawInt w5.objs.size):=z8
 have up:∀c o,c≠z→w5.get? c=some o→w8.get? c=some o:=λc o c1 e=>m8.extBut _ _ c1 (m7.extBut _ _ c1 (Ad _ e));have t8:IsPair w8 w5.objs.size x y:=m8.extBut _ _ (AV zlt) (m7.extBut _ _ (AV zlt) (Al _ rfl));rw[sz] at z8 t8;refine Ac ⟨_,rfl,?_⟩;show Q (.ref w5.objs.size) _;rw[sz];obtain⟨oi,ei,ri⟩:=i5;obtain⟨oj,ej,rj⟩:=j5;exact fin w8 z8 (up _ _ D.bz b5) ⟨oi,up _ oi D.iz ei,ri⟩ ⟨oj,up _ oj D.jz ej,rj⟩ t8 λc o c1 c2 c3 c4 e=>up c o c1 (k5 c o c1 c2 c3 c4 e)
theorem Yl{z i j t1 t2:Addr}{k1 k2:Nat}{xs ys:Array Value}{p q:Value}{Q:Fin→Shared→Prop}(hh:A.handled=none)(D:ZA z a b i j)(n1:t1≠z∧t1≠b∧t1≠i∧t1≠j)(n2:t2≠z∧t2≠b∧t2≠i∧t2≠j)
 (hz:IsZip s.heap z a b .none) (ha:IsPair s.heap a (.ref i) (.ref j)) (hb:IsPair s.heap b p q) (h1:s.heap.IsTupleIter i t1 k1) (h2:s.heap.IsTupleIter j t2 k2) (g1:s.heap.IsTuple t1 xs) (g2:s.heap.IsTuple t2 ys) (hend:xs[k1]?=none∨ys[k2]?=none)
 (fin:∀g e,(∀c o,c≠z→c≠b→c≠i→c≠j→s.heap.get? c=some o→g.get? c=some o)→(∃o,g.get? e=some o∧o.cls= .type "StopIteration")→E (.ref e) {s with heap:=g}):
 wpAny (model prog w) A (Builtin.«zip.__next__» ⟨[.ref z],[]⟩) Q E s:=by
 show wpAny _ _ (field (.ref z) 2>>=_) _ _ _;refine Aa (BA hz rfl (x:= .bool false) rfl ?_);show wpAny _ _ (field (.ref z) 3>>=_) _ _ _;refine Aa (BA hz rfl (x:= .ref a) rfl ?_);refine Aa (Ba ha rfl ?_);show wpAny _ _ (Bk (.ref z)>>=_) _ _ _;refine Aa ?_;unfold Bk;refine Aa (BA hz rfl (x:= .none) rfl (Ac ?_));simp only[if_true];refine Aa (Cm ?_);refine Aa (BA hz rfl (x:= .ref b) rfl ?_);refine Aa (CN hz (by simp) λw1 z1 m1=>?_)
 replace z1:IsZip w1 z a b .ellipsis:=z1
 refine Aa ?_;simp only[List.zipIdx_cons,List.zipIdx_nil,D_,Et];refine Aa (Aa (Fu ?_));show wpAny _ _ (Bb (.ref i)>>=_) _ _ _;cases hx:xs[k1]? with
 | none=>
  refine Aa (Tp hh (h1.extBut m1.extBut D.iz) (LP g1 m1 n1.1) hx λw2 e m2 he=>?_);obtain⟨oe,e1,e2⟩:=he;have z2:IsZip w2 z a b .ellipsis:=m2 _ _ D.iz.symm z1;have ez:e≠z:=λu=>by subst u;rw[z2] at e1;cases e1;simp at e2
  exact CN z2 (by simp) λw3 _ m3=>fin w3 e (λc o c1 _ c3 _ u=>m3.extBut _ _ c1 (m2 _ _ c3 (m1.extBut _ _ c1 u))) ⟨oe,m3.extBut _ _ ez e1,e2⟩
 | some x=>
  have hy:ys[k2]?=none:=by
   rcases hend with u | u
   · rw[hx] at u;cases u
   · exact u
  refine Aa (PY (h1.extBut m1.extBut D.iz) (LP g1 m1 n1.1) hx λw2 i2 m2=>Ac ?_);have b2:IsPair w2 b p q:=m2.extBut _ _ D.bi (m1.extBut _ _ D.bz hb);refine Aa (Ba b2 rfl ?_);refine Aa (EN b2 λw3 b3 m3=>?_);refine Aa (G3 (Ac ?_));refine Aa (Aa (Fu ?_));show wpAny _ _ (Bb (.ref j)>>=_) _ _ _;refine Aa (Tp hh (((h2.extBut m1.extBut D.jz).extBut m2.extBut D.ij.symm).extBut m3.extBut D.bj.symm) (LP (LP (LP g2 m1 n2.1) m2 n2.2.2.1) m3 n2.2.1) hy λw4 e m4 he=>?_);obtain⟨oe,e1,e2⟩:=he;have z4:IsZip w4 z a b .ellipsis:=m4 _ _ D.jz.symm (m3.extBut _ _ D.bz.symm (m2.extBut _ _ D.iz.symm z1));have ez:e≠z:=λu=>by subst u;rw[z4] at e1;cases e1;simp at e2
  exact CN z4 (by simp) λw5 _ m5=>fin w5 e (λc o c1 c2 c3 c4 u=>m5.extBut _ _ c1 (m4 _ _ c4 (m3.extBut _ _ c2 (m2.extBut _ _ c3 (m1.extBut _ _ c1 u))))) ⟨oe,m5.extBut _ _ ez e1,e2⟩
section
variable{h':Heap}
theorem Inv.newTup{T:Addr}{x y:V}{t':Nat}(I:Inv X pins σ H s)(ch:List Addr)(hch:∀c∈ch,Je X pins H c)(keep:∀c o,c ∉ ch→s.heap.get? c=some o→h'.get? c=some o)(hT:s.heap.objs.size≤T)
 (tup:∃its:List Value,Vals [x,y] its∧IsTupP h' T its.toArray):Inv X pins σ (IU H T (.tup [x,y])) {s with heap:=h',toks:=t'}:=by
 have hn:H T=none:=I.hok.fresh hT;have neT:∀c o,s.heap.get? c=some o→c≠T:=λc o e=>An (A8 (Ag e) hT);have off:∀c u,H c=some u→c ∉ ch:=λc u e z=>by rw[(hch c z).1] at e;cases e
 refine I.step (g':=s.gens) (d':=s.drawn) (ch:=ch) (λc hc=>⟨(hch c hc).2.2.2.1,(hch c hc).2.1,(hch c hc).2.2.2.2.1,(hch c hc).2.2.2.2.2⟩) (λc o _ _ hc e _=>keep c o hc e) (λc o _ _ hc e _=>⟨o.slots,keep c o hc e⟩)
  (λc o _ e n=>by rw[Ji (neT c o e)];exact n) (λc o hc e=>⟨o,keep c o hc e⟩) (λc xs e=>by rw[Ji (JJ e hn)];exact e) (λc o u e=>by rw[Ji (JJ e hn)];exact e)
  (λc ps e=>⟨#[],by rw[Ji (JJ e hn),e];simp⟩) (λm hm=>?_) (λc u e=>?_) I.bare
 · obtain⟨o,es,ep,ho,r⟩:=hm;exact⟨o,es,ep,keep _ o (λz=>(hch _ z).2.1 rfl) ho,r⟩
 · by_cases hc:c=T
   · subst hc;rw[IX] at e;cases e;obtain⟨its,r,p⟩:=tup;exact⟨by show 2≤Az;decide,its,r,p⟩
   · rw[Ji hc] at e;refine(I.hok c u e).stay (λd v hd q=>keep d v ?_ q) (λd q=>by rw[Ji (JJ q hn)];exact q) λd xs q=>by rw[Ji (JJ q hn)];exact q
     rcases hd with z | z
     · rw[z];exact off c u e
     · exact off d _ z
theorem Inv.turnedN{t':Nat}(I:Inv X pins σ H s)(ch:List Addr)(hch:∀c∈ch,Je X pins H c)(keep:∀c o,c ∉ ch→s.heap.get? c=some o→h'.get? c=some o):Inv X pins σ H {s with heap:=h',toks:=t'}:=by
 have off:∀c u,H c=some u→c ∉ ch:=λc u e z=>by rw[(hch c z).1] at e;cases e
 refine I.step (g':=s.gens) (d':=s.drawn) (ch:=ch) (λc hc=>⟨(hch c hc).2.2.2.1,(hch c hc).2.1,(hch c hc).2.2.2.2.1,(hch c hc).2.2.2.2.2⟩) (λc o _ _ hc e _=>keep c o hc e) (λc o _ _ hc e _=>⟨o.slots,keep c o hc e⟩)
  (λc o _ e n=>n) (λc o hc e=>⟨o,keep c o hc e⟩) (λc xs e=>e) (λc o u e=>e) (λc ps e=>⟨#[],by rw[e];simp⟩) (λm hm=>?_) (λc u e=>?_) I.bare
 · obtain⟨o,es,ep,ho,r⟩:=hm;exact⟨o,es,ep,keep _ o (λz=>(hch _ z).2.1 rfl) ho,r⟩
 · refine(I.hok c u e).stay (λd v hd q=>keep d v ?_ q) (λ_ q=>q) λ_ _ q=>q;rcases hd with z | z
   · rw[z];exact off c u e
   · exact off d _ z
theorem K4{t c:Addr}(I:Inv X pins σ H s)(h:SqT X.K H t xs)(f:Je X pins H c):t≠c:=by
 intro e;subst e;rcases h with(h | ⟨o,h⟩) | ⟨o,its,n,hk,_⟩
 · rw[f.1] at h;cases h
 · rw[f.1] at h;cases h
 · have eb:=I.ok.mod.kin t o hk;rcases f.2.2.2.1 with z | z
   · exact I.ok.noex t o eb z
   · exact absurd (A8 (Ag eb) (AM I.ok.bsz z)) (Cs _)
end
def Ps(K:Ae)(t1 t2:Addr):It:=
 ⟨λk H=>∃(xs ys:List V)(x y:V),SqT K H t1 xs∧SqT K H t2 ys∧xs[k]?=some x∧ys[k]?=some y,
  λk H v H'=>∃p,v= .ref p∧H p=none∧∀(xs ys:List V)(x y:V),SqT K H t1 xs→SqT K H t2 ys→xs[k]?=some x→ys[k]?=some y→H'=IU H p (.tup [x,y]),
  λk H=>∃(xs ys:List V),SqT K H t1 xs∧SqT K H t2 ys∧(xs.length≤k∨ys.length≤k)⟩
theorem Zn{P:Bw}{w:World}{K:Ae}{es:List Expr}{kk:Nat}{pos:Pos}(t1 t2 z a b i j:Addr)(D:ZA z a b i j):
 Turn P w K (.Tuple es kk pos) (Ps K t1 t2) [z,a,b,i,j] z (λk h=>IsZip h z a b .none∧IsPair h a (.ref i) (.ref j)∧(∃p q,IsPair h b p q)∧h.IsTupleIter i t1 k∧h.IsTupleIter j t2 k) where
 mem:=by simp
 obj:=λk h st c hc=>by
  obtain⟨hz,ha,⟨p,q,hb⟩,⟨oi,ei,_,di⟩,⟨oj,ej,_,dj⟩⟩:=st;simp only[Ar,A6,or_false] at hc;rcases hc with rfl | rfl | rfl | rfl | rfl
  · exact⟨_,hz,λv e=>by cases e⟩
  · exact⟨_,ha,λv e=>by cases e⟩
  · exact⟨_,hb,λv e=>by cases e⟩
  · exact⟨oi,ei,λv e=>by rw[di] at e;cases e⟩
  · exact⟨oj,ej,λv e=>by rw[dj] at e;cases e⟩
 keep:=λk h h' st kp=>by obtain⟨hz,ha,⟨p,q,hb⟩,⟨oi,ei,ri⟩,⟨oj,ej,rj⟩⟩:=st;exact⟨kp z (by simp) _ hz,kp a (by simp) _ ha,⟨p,q,kp b (by simp) _ hb⟩,⟨oi,kp i (by simp) _ ei,ri⟩,⟨oj,kp j (by simp) _ ej,rj⟩⟩
 item:=by
  intro X hP hw hK hc k pins s σ H E I hf st hg;subst hP hw hK;obtain⟨xs,ys,x,y,q1,q2,hx,hy⟩:=hg;obtain⟨hz,ha,⟨p,q,hb⟩,h1,h2⟩:=st;obtain⟨its1,r1,g1,_⟩:=I.tuple q1;obtain⟨its2,r2,g2,_⟩:=I.tuple q2;obtain⟨u1,hu1,v1⟩:=r1.get hx;obtain⟨u2,hu2,v2⟩:=r2.get hy;have fz:=hf z (by simp);have fb:=hf b (by simp);have fi:=hf i (by simp);have fj:=hf j (by simp);have hT:s.TypeIs (.ref z) "zip":=⟨_,hz,rfl⟩;unfold pyNext;refine Aa (Dj (Bn (name:=C6 "__next__") hT C9 (AT C9 hT G4
   (Yv D ⟨K4 I q1 fz,K4 I q1 fb,K4 I q1 fi,K4 I q1 fj⟩ ⟨K4 I q2 fz,K4 I q2 fb,K4 I q2 fi,K4 I q2 fj⟩ hz ha hb h1 h2 g1 g2 (by simpa using hu1) (by simpa using hu2) λg a1 a2 a3 a4 a5 a6=>Ac ?_) (Gf _))))
  refine⟨_,rfl,wpAny_letOwnedTupleGo_zip a1 λg' z' m'=>?_⟩;have zT:z≠s.heap.objs.size:=An (Ag hz);have up:∀c o,c≠z→g.get? c=some o→g'.get? c=some o:=λc o hc e=>m'.extBut c o hc e;have fr:H s.heap.objs.size=none:=I.hok.fresh (Af _);have I1:Inv X pins σ (IU H s.heap.objs.size (.tup [x,y])) {s with heap:=g'}:=by
   refine I.newTup (t':=s.toks) [z,b,i,j] (λc hc=>?_) (λc o hc e=>?_) (Af _) ⟨[u1,u2],.cons v1 (.cons v2 .nil),_,up _ _ zT.symm a5,rfl,rfl,_,rfl⟩
   · simp only[Ar,A6,or_false] at hc;rcases hc with rfl | rfl | rfl | rfl
     · exact fz
     · exact fb
     · exact fi
     · exact fj
   · simp only[Ar,A6,or_false,not_or] at hc;exact up c o hc.1 (a6 c o hc.1 hc.2.1 hc.2.2.1 hc.2.2.2 e)
  obtain⟨oi,ei,ri⟩:=a3;obtain⟨oj,ej,rj⟩:=a4;refine⟨.ref s.heap.objs.size,_,I1,rfl,⟨_,rfl,fr,λxs' ys' x' y' s1 s2 e1 e2=>?_⟩,⟨z',up _ _ D.az (a6 a _ D.az D.ab D.ai D.aj ha),⟨_,_,up _ _ D.bz a2⟩,⟨oi,up _ _ D.iz ei,ri⟩,⟨oj,up _ _ D.jz ej,rj⟩⟩,λc hc=>?_⟩
  · rw[I.tuple_inj s1 q1,hx] at e1;rw[I.tuple_inj s2 q2,hy] at e2;cases e1;cases e2;rfl
  · have fc:=hf c hc;have:c≠s.heap.objs.size:=by
     simp only[Ar,A6,or_false] at hc;obtain⟨oi',ei',_⟩:=h1;obtain⟨oj',ej',_⟩:=h2;rcases hc with rfl | rfl | rfl | rfl | rfl
     · exact zT
     · exact An (Ag ha)
     · exact An (Ag hb)
     · exact An (Ag ei')
     · exact An (Ag ej')
    rw[Ji this];exact fc.1
 done:=by
  intro X hP hw hK hc k pins s σ H E I hf st hg;subst hP hw hK;obtain⟨xs,ys,q1,q2,hend⟩:=hg;obtain⟨hz,ha,⟨p,q,hb⟩,h1,h2⟩:=st;obtain⟨its1,r1,g1,_⟩:=I.tuple q1;obtain⟨its2,r2,g2,_⟩:=I.tuple q2;have l1:=r1.length;have l2:=r2.length;have fz:=hf z (by simp);have fb:=hf b (by simp);have fi:=hf i (by simp);have fj:=hf j (by simp);have hT:s.TypeIs (.ref z) "zip":=⟨_,hz,rfl⟩;unfold pyNext;refine Aa (Dj (Bn (name:=C6 "__next__") hT C9 (AT C9 hT G4
   (Yl (I.ok.hd hc) D ⟨K4 I q1 fz,K4 I q1 fb,K4 I q1 fi,K4 I q1 fj⟩ ⟨K4 I q2 fz,K4 I q2 fb,K4 I q2 fi,K4 I q2 fj⟩ hz ha hb h1 h2 g1 g2 ?_ λg e kp he=>?_) (Gf _))))
  · rcases hend with u | u
    · exact .inl (by simp;omega)
    · exact .inr (by simp;omega)
  · obtain⟨o,ho,hcl⟩:=he;refine Aa (Da (T:="StopIteration") (b:=true) ⟨o,ho,hcl⟩ isSubtype_stop ?_);refine Ac ⟨rfl,I.turnedN (t':=s.toks) [z,b,i,j] (λc hc=>?_) (λc o hc e=>?_)⟩
    · simp only[Ar,A6,or_false] at hc;rcases hc with rfl | rfl | rfl | rfl
      · exact fz
      · exact fb
      · exact fi
      · exact fj
    · simp only[Ar,A6,or_false,not_or] at hc;exact kp c o hc.1 hc.2.1 hc.2.2.1 hc.2.2.2 e
 self:=λ_ _ _ _ _ st h=>FR st.1 h
abbrev My(h:Heap)(t:Addr):Heap:=h.push {cls:= .type "tuple_iterator",data:= .fields #[.ref t,.int 0 0]}
abbrev Mx(h:Heap)(t u:Addr):Heap:=(My h t).push {cls:= .type "tuple_iterator",data:= .fields #[.ref u,.int 0 0]}
abbrev Mw(h:Heap)(t u:Addr):Heap:=(Mx h t u).push {cls:= .type "tuple",data:= .seq #[.ref h.objs.size,.ref (My h t).objs.size]}
abbrev MM(h:Heap)(t u:Addr):Heap:=(Mw h t u).push {cls:= .type "tuple",data:= .seq #[.none,.none]}
abbrev Md(h:Heap)(t u:Addr):Heap:=(MM h t u).push {cls:= .type "zip",data:= .fields #[.none,.bool false,.bool false,.ref (Mx h t u).objs.size,.ref (Mw h t u).objs.size]}
theorem X8(t u:Addr)(xs ys:Array Value):Meets (Builtin.«zip.__new__» ⟨[.type "zip",.ref t,.ref u],[]⟩) (λ_ R s=>s.heap.IsTuple t xs∧s.heap.IsTuple u ys∧
 R (.ok (.ret (.ref (MM s.heap t u).objs.size))) {s with heap:=Md s.heap t u}):=
 .of_wp λprog w A R s h=>by
  obtain⟨hp,g,d,tk,os⟩:=s;obtain⟨g1,g2,h⟩:=h;have f0:=sub_zip;have f1:Heap.IsTuple (Shared.heap ⟨hp,g,d,tk,os⟩) t xs:=g1;have f2:Heap.IsTuple (Shared.heap ⟨hp.push {cls:= .type "tuple_iterator",data:= .fields #[.ref t,.int 0 0]},g,d,tk,os⟩) u ys:=FD g2 _
  wp_walk using Ek f1,Ek f2
  exact⟨_,rfl,h⟩
theorem Td:Bm "zip"=some (.type "zip"):=by decide+kernel
def Sl(K:Ae)(ta:TA):TI:=λσ H R=>ta σ H λvs H1=>∃t u,vs=[.ref t,.ref u]∧(∃xs,SqT K H1 t xs)∧(∃ys,SqT K H1 u ys)∧R (Ps K t u) H1
theorem XY{es:List Expr}{kk:Nat}{tpos:Pos}{a b:Expr}{ta:TA}{p pos:Pos}(hg:Gl X "zip")(hm:X.mg "zip"=none)(ha:PA X [a,b] ta)
 (he:A9 [a,b] X.env=(false,eval a X.env)::A9 [b] X.env:=by rfl) (hpl:(backTo pos (A9 [b] X.env)).any (·.1)=false:=by rfl):
 PI X (.Tuple es kk tpos) (.Call (.Name "zip" p) [a,b] [] pos) (Sl X.K ta):=by
 intro pins s σ H R I h;refine Bq (K2 I hg hm Td ?_ (by decide) (by decide));refine Bp (I_ (ha pos pins s σ H _ I h) λus s1 ⟨vs,H1,I1,r1,t,u,e,⟨xs,q1⟩,⟨ys,q2⟩,q⟩=>?_) he hpl;subst e;obtain⟨u1,u2,rfl,v1,v2⟩:=M2 r1;cases v1;cases v2;obtain⟨its1,rv1,g1,_⟩:=I1.tuple q1;obtain⟨its2,rv2,g2,_⟩:=I1.tuple q2;refine callType_new PySem.F.called_zip (by decide) (PySem.F.typeCall_zip_2 _ _) (PySem.F.newCall_zip_2 _ _) (λobj=>PySem.F.args_object_init_3 obj _ _) PySem.F.entry_zip_new (X8 t u its1.toArray its2.toArray) ⟨g1,g2,?_⟩;have y1:(My s1.heap t).objs.size=s1.heap.objs.size+1:=AS ..;have y2:(Mx s1.heap t u).objs.size=s1.heap.objs.size+2:=by rw[AS,y1]
 have y3:(Mw s1.heap t u).objs.size=s1.heap.objs.size+3:=by rw[AS,y2]
 have y4:(MM s1.heap t u).objs.size=s1.heap.objs.size+4:=by rw[AS,y3]
 have k5:∀c o,s1.heap.get? c=some o→(Md s1.heap t u).get? c=some o:=λc o e=>Ad _ (Ad _ (Ad _ (Ad _ (Ad _ e))));have e5:(Md s1.heap t u).get? (MM s1.heap t u).objs.size=some _:=Al _ rfl;have e4:(Md s1.heap t u).get? (Mw s1.heap t u).objs.size=some _:=Ad _ (Al _ rfl);have e3:(Md s1.heap t u).get? (Mx s1.heap t u).objs.size=some _:=Ad _ (Ad _ (Al _ rfl));have e2:(Md s1.heap t u).get? (My s1.heap t).objs.size=some _:=Ad _ (Ad _ (Ad _ (Al _ rfl)));have e1:(Md s1.heap t u).get? s1.heap.objs.size=some _:=Ad _ (Ad _ (Ad _ (Ad _ (Al _ rfl))));have I2:Inv X pins σ H1 {s1 with heap:=Md s1.heap t u}:=I1.kept (t':=s1.toks) k5
 have fp:∀c,s1.heap.objs.size≤c→Je X pins H1 c:=λc hc=>I1.fpOk hc (I1.hok.fresh hc);have D:ZA (MM s1.heap t u).objs.size (Mx s1.heap t u).objs.size (Mw s1.heap t u).objs.size s1.heap.objs.size (My s1.heap t).objs.size:=by
  have n4:(Mw s1.heap t u).objs.size<(MM s1.heap t u).objs.size:=by rw[y3,y4];exact BX _
  have n3:(Mx s1.heap t u).objs.size<(Mw s1.heap t u).objs.size:=by rw[y2,y3];exact BX _
  have n2:(My s1.heap t).objs.size<(Mx s1.heap t u).objs.size:=by rw[y1,y2];exact BX _
  have n1:s1.heap.objs.size<(My s1.heap t).objs.size:=by rw[y1];exact BX _
  exact⟨An (Cu n3 n4),An n4,An (Cu n1 (Cu n2 (Cu n3 n4))),An (Cu n2 (Cu n3 n4)),An n3,AV (Cu n1 n2),AV n2,
   AV (Cu n1 (Cu n2 n3)),AV (Cu n2 n3),An n1⟩
 refine⟨⟨_,e5,rfl⟩,FR e5 ?_⟩;refine⟨_,_,_,_,H1,rfl,I2,Zn t u _ _ _ _ _ D,⟨e5,e3,⟨_,_,e4⟩,⟨_,e1,rfl,rfl⟩,⟨_,e2,rfl,rfl⟩⟩,λc hc=>fp c ?_,q⟩;simp only[Ar,A6,or_false] at hc;rcases hc with rfl | rfl | rfl | rfl | rfl
 · rw[y4];exact Db _ _
 · rw[y2];exact Db _ _
 · rw[y3];exact Db _ _
 · exact Af _
 · rw[y1];exact Db _ _
section
variable{tg iter kx vx:Expr}{ifs:List Expr}{wi:TI}{js:JF}{g:TG}{tc:TT}{tk tv:TE}{N':List Str}{pos:Pos}
theorem YY{px:Pos}{spos:Pos}(hN:X.N.Nodup)(hi':X.N[i]?=some x)(hx:Nk X.env.scope x)(hc:X.calm=true)(ok:CapOk X N' js scope)(hi:PI X tg iter wi)
 (hg:∀cl C s₀ H₀ ex,PG (J4 X N' scope cl C s₀ H₀ ex) tg g) (ht:∀cl C s₀ H₀ ex,J5 (J4 X N' scope cl C s₀ H₀ ex) ifs tc) (he:∀cl C s₀ H₀ ex,PE (J4 X N' scope cl C s₀ H₀ ex) kx tk) (hv:∀cl C s₀ H₀ ex,PE (J4 X N' scope cl C s₀ H₀ ex) vx tv)
 (hsw:swapsWith (.DictComp kx vx [⟨tg,iter,ifs,0⟩] scope pos) (some (.Name x px)) spos.line X.env=pure true:=by rfl)
 (hs:∀x,B_ iter X.env x=pure x:=by intro _;rfl) (hf:X.fn x=true∨X.env.scope.names.lookup x=some .local:=by first | exact .inl rfl | exact .inr rfl | assumption):
 PS X (.Assign [.Name x px] (.DictComp kx vx [⟨tg,iter,ifs,0⟩] scope pos) spos) (KQ (tDC wi js g tc tk tv) (KY i)):=by
 intro pins s σ H D I h;obtain⟨cl,c1,c2,c3⟩:=N4 (scope:=scope) I.ok.has ok.free;rw[exec_Assign_Name_used _ _ _ _ hsw];refine Aa (BM (Aa ?_));show wpAny _ X.A (do let _ ←comprehension (.DictComp kx vx [⟨tg,iter,ifs,0⟩] scope pos) scope X.env _ newDict false (eval iter X.env) (some (assign (.Name x px) X.env))) _ _ s
 refine Aa (AB (CS (use:=some (assign (.Name x px) X.env)) (Q:=λ_ s'=>SP X pins D .next s') rfl hs c1 ok.kind ok.names
  (I_ (hi pins s σ H _ I h) λv s1 h1=>I_ h1 λitv s2 h2=>?_)) (λ_ s' hq=>Ac (Ac hq)) λ_ _ e=>e)
 obtain⟨it,fp,tn,J,H2,e,I2,T,st2,f2,hw⟩:=h2;subst e;refine AB (Zt (Q:=λx H1=>KY i x σ H1 D.nx) (iter:=iter) (pos:=pos) hc ok c2 c3 hg ht he hv I2 T st2 f2 hw) (λacc s3 h3=>AB h3 (λcenv s4 h4=>?_) λ_ _ z=>z) λ_ _ z=>z;refine Cn h4 λr s5 h5=>?_;obtain⟨rfl,⟨m,hm⟩,v,H5,rv,I5,f5,q5⟩:=h5;obtain⟨f0,f1,f2',f3,f4,f6⟩:=f5;show wpAny _ X.A (assign (.Name x px) X.env acc) _ _ _;refine FB (Ra I5 hN hi' hx rv (λs6 I6 ch=>?_) hf);obtain⟨a,sb,ha⟩:=ch;have na:cenv.locals≠a:=by
  rcases ha with z | z
  · rw[z];exact f1
  · exact λy=>f4 x a z y.symm
 refine⟨m,hm.sameBut sb na,λh' sb'=>⟨_,H5,I6.turned (t':=s6.toks) (λb o hb e=>(sb'.2 b hb).trans e) f0 f1 f3 f4 f6,q5⟩⟩
end
theorem ZU{t sl:Addr}{items:Array Value}{vl vu:Value}{lo hi:Option Int}{Q:Value→Shared→Prop}(ht:IsTup s.heap t items)(hs:s.heap.IsSliceOf sl vl vu .none)(pl:IsPart vl lo)(pu:IsPart vu hi)
 (h0:HT.sIx items.size 0 lo=0) (h1:HT.sIx items.size items.size hi=items.size) (h:Q (.ref t) s):wpAny (model prog w) A (getItem (.ref t) (.ref sl)) Q E s:=by
 obtain⟨os,hos,hcs,hds⟩:=id hs;have hTs:s.TypeIs (.ref sl) "slice":=⟨os,hos,hcs⟩;unfold getItem
 try with_reducible refine AF ?_
 first | refine Aa (Ac ?_) | skip
 refine Aa (wpAny_sequenceKey ht.typeIs (by decide) ?_);refine Aa (Bn (name:=C6 "__getitem__") ht.typeIs Cb
  (AT Cb ht.typeIs PySem.F.entry_tuple_getitem ?_ (PySem.F.args_tuple_getitem_2 _ _)))
 show wpAny _ _ (DT (.ref t)>>=_) _ _ s;refine Aa (tupleItemsOf_ ht ?_);refine Aa (C7 hTs ?_);rw[if_pos (by decide)];refine Aa (HT.sliceApplied_gen hs pl pu ?_);have yes:((((HT.sIx items.size 0 lo:Nat):Int)==0 && (1:Int)==1 && (HT.sIx items.size items.size hi - HT.sIx items.size 0 lo)==items.size)=true):=by rw[h0,h1];simp
 show wpAny _ _ (if(((HT.sIx items.size 0 lo:Nat):Int)==0 && (1:Int)==1 && (HT.sIx items.size items.size hi - HT.sIx items.size 0 lo)==items.size)=true then _ else _) _ _ s
 rw[if_pos yes];unfold Builtin.Tuple.tupleIsExact;refine Aa (Aa (C7 ht.typeIs (Ac ?_)));rw[if_pos (by decide)];exact Aa (Cm (Ac ⟨_,rfl,Ac h⟩))
def NP(K:Ae):V→Option Int→Option Int→Hp→VK→Prop:=λx lo hi H Q=>∃a xs,x= .ref a∧SqT K H a xs∧
 (HT.sIx xs.length 0 lo=0∧HT.sIx xs.length xs.length hi=xs.length→Q (.ref a) H)∧
 (¬(HT.sIx xs.length 0 lo=0∧HT.sIx xs.length xs.length hi=xs.length)→∀p,H p=none→Q (.ref p) (IU H p (.tup (J2 xs lo hi))))
theorem U8:Nj X (NP X.K):=by
 intro pins s σ H x v vl vu lo hi sl Q I rx hs pl pu h;obtain⟨a,xs,rfl,hx,q1,q2⟩:=h;by_cases hw:HT.sIx xs.length 0 lo=0∧HT.sIx xs.length xs.length hi=xs.length
 · cases rx;obtain⟨its,r,ht,hz⟩:=I.tuple hx;have hlen:its.toArray.size=xs.length:=by rw[Aw];exact r.length.symm
   refine⟨"tuple",_,Cb.lookup,ht.typeIs,?_⟩;exact ZU ht hs pl pu (by rw[hlen];exact hw.1) (by rw[hlen];exact hw.2) ⟨.ref a,H,I,rfl,q1 hw⟩
 · exact Yh pins s σ H (.ref a) v vl vu lo hi sl Q I rx hs pl pu ⟨a,xs,rfl,hx,hw,q2 hw⟩
theorem Y8{K:Ae}{Q:VK}(h:SqT K H a xs)(q:∀p H',Same H H'→SqT K H' p (xs.drop 1)→Q (.ref p) H'):NP K (.ref a) (some 1) none H Q:=by
 have e0:HT.sIx xs.length 0 (some 1)=min 1 xs.length:=HT.sIx_nat _ _ 1;refine⟨a,xs,rfl,h,λhw=>?_,λhw p hp=>?_⟩
 · rw[e0] at hw;have hl:xs.length=0:=by omega
   have hx:xs=[]:=Dx.mp hl;subst hx;exact q a H (Same.refl _) h
 · refine q p _ (Jf hp _) (SqT.of ?_);rw[IX];unfold J2;rw[e0,show HT.sIx xs.length xs.length none=xs.length from rfl];cases xs with
   | nil=>rfl
   | cons x r=>
    have e1:min 1 (x::r).length=1:=by rw[AA];omega
    rw[e1];congr 2;rw[AA,Nat.add_sub_cancel];exact Bt (by simp)
section
variable{K:Ae}
theorem TQ(K:Ae)(h:X.K=K):Mt X (NR K):=by subst h;exact KO
theorem Z6(K:Ae)(h:X.K=K):Mt X (NS K):=by subst h;exact JA
theorem MT(K:Ae)(h:X.K=K){es:List Expr}{k:Nat}{t:Mr}{n:Nat}{pos:Pos}(hc:X.calm=true)(hg:Oo X es t)
 (hn:(assignEach es X.env).length=n:=by rfl) (hst:(assignEach es X.env).findIdx? (·.1)=none:=by rfl):PG X (.Tuple es k pos) (Ol K n t):=by subst h;exact KZ hc hg hn hst
end
theorem WX{K:Ae}{t1 t2 p:Addr}{ys:List V}{g:TG}{tc:TT}{te:TE}{Q:VK}{js:JF}(h1:n≤xs.length)(h2:n≤ys.length)(h3:xs.length≤n∨ys.length≤n)(Pv:Nat→St→List V→Hp→Prop)(h0:Pv 0 (Kh js σ) [] (IU H p (.lst [])))
 (hl:∀i σ zs H,i≤n→Pv i σ zs H→SqT K H t1 xs∧SqT K H t2 ys∧H p=some (.lst zs)∧zs.length<Az)
 (hs:∀(i:Nat)x y σ zs H q(N:St→List V→Hp→Prop),xs[i]?=some x→ys[i]?=some y→H q=none→Pv i σ zs H→(∀σ' ys' H',Pv (i+1) σ' ys' H'→N σ' ys' H')→M4 p g tc te zs (.ref q) σ (IU H q (.tup [x,y])) N)
 (hd:∀σ zs H,Pv n σ zs H→Q (.ref p) H):L5 (Ps K t1 t2) p js g tc te σ H Q:=
 MQ (n:=n) (J:=Ps K t1 t2) (js:=js) (σ:=σ) (H:=H) (p:=p) (Q:=Q) (g:=g) (tc:=tc) (te:=te) Pv h0 (λi σ zs H hi pv=>(hl i σ zs H hi pv).2.2)
  (λi σ zs H hi pv=>⟨xs,ys,xs[i],ys[i],(hl i σ zs H (AZ hi) pv).1,(hl i σ zs H (AZ hi) pv).2.1,by simp,by simp⟩)
  (λσ zs H pv=>⟨xs,ys,(hl _ σ zs H (Af _) pv).1,(hl _ σ zs H (Af _) pv).2.1,h3⟩)
  (λi v σ zs H H' N hi y pv hN=>by
   obtain⟨q,e,hq,y⟩:=y;subst e;have ex:xs[i]?=some xs[i]:=by simp
   have ey:ys[i]?=some ys[i]:=by simp
   have e2:=y xs ys _ _ (hl i σ zs H (AZ hi) pv).1 (hl i σ zs H (AZ hi) pv).2.1 ex ey;subst e2;exact hs i _ _ σ zs H q N ex ey hq pv hN) hd
section
variable{h':Heap}
end
def Pt(K:Ae)(a:Addr):It:=
 ⟨λk H=>∃(xs:List V)(x:V),SqL K H a xs∧xs[k]?=some x,
  λk H v H'=>∃p,v= .ref p∧H p=none∧∀(xs:List V)(x:V),SqL K H a xs→xs[k]?=some x→H'=IU H p (.tup [.int k,x]),
  λk H=>∃(xs:List V),SqL K H a xs∧xs.length≤k⟩
theorem zjg{P:Bw}{w:World}{K:Ae}{es:List Expr}{kk:Nat}{pos:Pos}(a e it:Addr)(D:e≠it):
 Turn P w K (.Tuple es kk pos) (Pt K a) [e,it] e (λk h=>(∃old,IsEnum h e it k old)∧h.IsListIter it a k) where
 mem:=by simp
 obj:=λk h st c hc=>by
  obtain⟨⟨old,hz⟩,⟨oi,ei,_,di⟩⟩:=st;simp only[Ar,A6,or_false] at hc;rcases hc with rfl | rfl
  · exact⟨_,hz,λv e=>by cases e⟩
  · exact⟨oi,ei,λv e=>by rw[di] at e;cases e⟩
 keep:=λk h h' st kp=>by obtain⟨⟨old,hz⟩,⟨oi,ei,ri⟩⟩:=st;exact⟨⟨old,kp e (by simp) _ hz⟩,⟨oi,kp it (by simp) _ ei,ri⟩⟩
 item:=by
  intro X hP hw hK hc k pins s σ H E I hf st hg;subst hP hw hK;obtain⟨xs,x,q1,hx⟩:=hg;obtain⟨⟨old,hz⟩,h1⟩:=st;obtain⟨its1,r1,g1,_⟩:=I.list q1;obtain⟨u1,hu1,v1⟩:=r1.get hx;have fz:=hf e (by simp);have fi:=hf it (by simp);refine wpAny_pyNext_enum_item hz h1 g1.isList (by simpa using hu1) D λg a1 a2 a3 a4 a5=>?_;refine⟨_,rfl,wpAny_letOwnedTupleGo_enum a1 λg' z' m'=>?_⟩;have zT:e≠s.heap.objs.size:=An (Ag hz);have up:∀c o,c≠e→g.get? c=some o→g'.get? c=some o:=λc o hc e=>m'.extBut c o hc e;have fr:H s.heap.objs.size=none:=I.hok.fresh (Af _);have I1:Inv X pins σ (IU H s.heap.objs.size (.tup [.int k,x])) {s with heap:=g',toks:=s.toks+1}:=by
   refine I.newTup (t':=s.toks+1) [e,it] (λc hc=>?_) (λc o hc e=>?_) (Af _) ⟨[.int k s.toks,u1],.cons ⟨_,rfl⟩ (.cons v1 .nil),_,up _ _ zT.symm a3,rfl,rfl,_,rfl⟩
   · simp only[Ar,A6,or_false] at hc;rcases hc with rfl | rfl
     · exact fz
     · exact fi
   · simp only[Ar,A6,or_false,not_or] at hc;exact up c o hc.1 (a5 c o hc.1 hc.2 e)
  obtain⟨oi,ei,ri⟩:=a2;refine⟨.ref s.heap.objs.size,_,I1,rfl,⟨_,rfl,fr,λxs' x' s1 e1=>?_⟩,⟨⟨_,z'⟩,⟨oi,up _ _ D.symm ei,ri⟩⟩,λc hc=>?_⟩
  · rw[I.list_inj s1 q1,hx] at e1;cases e1;rfl
  · have fc:=hf c hc;have:c≠s.heap.objs.size:=by
     simp only[Ar,A6,or_false] at hc;obtain⟨oi',ei',_⟩:=h1;rcases hc with rfl | rfl
     · exact zT
     · exact An (Ag ei')
    rw[Ji this];exact fc.1
 done:=by
  intro X hP hw hK hc k pins s σ H E I hf st hg;subst hP hw hK;obtain⟨xs,q1,hend⟩:=hg;obtain⟨⟨old,hz⟩,h1⟩:=st;obtain⟨its1,r1,g1,_⟩:=I.list q1;have l1:=r1.length;refine wpAny_pyNext_enum_end (I.ok.hd hc) hz h1 g1.isList (by simp;omega) λg kp=>?_;refine⟨rfl,I.turnedN (t':=s.toks) [it] (λc hc=>?_) (λc o hc e=>?_)⟩
  · simp only[Ar,A6,or_false] at hc;subst hc;exact hf c (by simp)
  · simp only[Ar,A6,or_false] at hc;exact kp c o hc e
 self:=λ_ _ _ _ _ st h=>by obtain⟨⟨old,hz⟩,_⟩:=st;exact wpAny_pyIter_enum hz h
theorem zgP:Bm "enumerate"=some (.type "enumerate"):=by decide+kernel
def W_(K:Ae)(ta:TA):TI:=λσ H R=>ta σ H λvs H1=>∃t,vs=[.ref t]∧(∃xs,SqL K H1 t xs)∧R (Pt K t) H1
theorem YQ{es:List Expr}{kk:Nat}{tpos:Pos}{a:Expr}{ta:TA}{p pos:Pos}(hg:Gl X "enumerate")(hm:X.mg "enumerate"=none)(ha:PA X [a] ta)
 (he:A9 [a] X.env=(false,eval a X.env)::A9 [] X.env:=by rfl) (hpl:(backTo pos (A9 [] X.env)).any (·.1)=false:=by rfl):
 PI X (.Tuple es kk tpos) (.Call (.Name "enumerate" p) [a] [] pos) (W_ X.K ta):=by
 intro pins s σ H R I h;refine Bq (K2 I hg hm zgP ?_ (by decide) (by decide));refine Bp (I_ (ha pos pins s σ H _ I h) λus s1 ⟨vs,H1,I1,r1,t,e,⟨xs,q1⟩,q⟩=>?_) he hpl;subst e;obtain⟨u1,rfl,v1⟩:=KC r1;cases v1;obtain⟨its1,rv1,⟨o,n,g0,g1,g2,g3⟩,_⟩:=I1.list q1;obtain⟨oc,od,odat,osl⟩:=o;cases g1;cases g2;cases g3;refine callType_new PySem.F.called_enumerate (by decide) (PySem.F.typeCall_enumerate_1 _) (PySem.F.newCall_enumerate_1 _) (λobj=>PySem.F.args_object_init_2 obj _) PySem.F.entry_enumerate_new (meets_enumerate_newL t its1.toArray n none osl) ⟨g0,?_⟩;generalize hh5:((s1.heap.push {cls:= .type "list_iterator",data:= .fields #[.ref t,.int 0 0]}).push {cls:= .type "enumerate",data:= .fields #[.none,.bool false,.ref s1.heap.objs.size,rawInt 0,.none,.none]})=h5;have y1:(s1.heap.push {cls:= .type "list_iterator",data:= .fields #[.ref t,.int 0 0]}).objs.size=s1.heap.objs.size+1:=AS ..;have k5:∀c o,s1.heap.get? c=some o→h5.get? c=some o:=λc o e=>by rw[←hh5];exact Ad _ (Ad _ e)
 have e5:IsEnum h5 (s1.heap.objs.size+1) s1.heap.objs.size 0 .none:=by have:=Al (s1.heap.push {cls:= .type "list_iterator",data:= .fields #[.ref t,.int 0 0]}) (o:={cls:= .type "enumerate",data:= .fields #[.none,.bool false,.ref s1.heap.objs.size,rawInt 0,.none,.none]}) rfl;rw[y1,hh5] at this;exact this
 have e1:h5.IsListIter s1.heap.objs.size t 0:=by rw[←hh5];exact⟨_,Ad _ (Al _ rfl),rfl,rfl⟩
 have I2:Inv X pins σ H1 {s1 with heap:=h5}:=I1.kept (t':=s1.toks) k5
 have fp:∀c,s1.heap.objs.size≤c→Je X pins H1 c:=λc hc=>I1.fpOk hc (I1.hok.fresh hc);show _∧_;rw[y1];refine⟨⟨_,e5,rfl⟩,wpAny_pyIter_enum e5 ?_⟩;refine⟨_,_,_,_,H1,rfl,I2,zjg t _ _ (AV (BX _)),⟨⟨_,e5⟩,e1⟩,λc hc=>fp c ?_,q⟩;simp only[Ar,A6,or_false] at hc;rcases hc with rfl | rfl
 · exact CD _
 · exact Af _
theorem XV{K:Ae}{a p:Addr}{xs:List V}{g:TG}{tc:TT}{te:TE}{Q:VK}{js:JF}(Pv:Nat→St→List V→Hp→Prop)(h0:Pv 0 (Kh js σ) [] (IU H p (.lst [])))
 (hl:∀i σ ys H,i≤xs.length→Pv i σ ys H→SqL K H a xs∧H p=some (.lst ys)∧ys.length<Az)
 (hs:∀(i:Nat)x q σ ys H(N:St→List V→Hp→Prop),xs[i]?=some x→H q=none→Pv i σ ys H→(∀σ' ys' H',Pv (i+1) σ' ys' H'→N σ' ys' H')→M4 p g tc te ys (.ref q) σ (IU H q (.tup [.int i,x])) N)
 (hd:∀σ ys H,Pv xs.length σ ys H→Q (.ref p) H):L5 (Pt K a) p js g tc te σ H Q:=
 MQ (n:=xs.length) (J:=Pt K a) (js:=js) (σ:=σ) (H:=H) (p:=p) (Q:=Q) (g:=g) (tc:=tc) (te:=te) Pv h0 (λi σ ys H hi pv=>(hl i σ ys H hi pv).2)
  (λi σ ys H hi pv=>⟨xs,xs[i],(hl i σ ys H (AZ hi) pv).1,by simp[hi]⟩) (λσ ys H pv=>⟨xs,(hl _ σ ys H (Af _) pv).1,Af _⟩)
  (λi x σ ys H H' N hi y pv hN=>by
   obtain⟨q,e,hq,y⟩:=y;subst e;have hx:xs[i]?=some xs[i]:=by simp[hi]
   rw[y xs xs[i] (hl i σ ys _ (AZ hi) pv).1 hx];exact hs i _ q σ ys _ N hx hq pv hN) hd
section
variable{te:TE}{pos p2 p3 p4:Pos}
def RB(K:Ae)(te:TE):TE:=λσ H Q=>te σ H λx H1=>∃a xs,x= .ref a∧SqL K H1 a xs∧∀p,H1 p=none→Q (.ref p) (IU H1 p (.lst xs.reverse))
theorem Vals.rev:∀{xs:List V}{us:List Value},Vals xs us→Vals xs.reverse us.reverse
 | _,_,.nil=> .nil
 | _,_,.cons r t=>by rw[DA,DA];exact(Vals.rev t).append (.cons r .nil)
theorem Yr(he:PE X e te):PE X (.Subscript e (.Slice none none (some (.UnaryOp .USub (.Constant (.int 1) n p3) p4)) p2) pos) (RB X.K te):=by
 intro pins s σ H Q I h;refine Subscript_ (I_ (he pins s σ H _ I h) λv s1 ⟨x,H1,I1,r1,a,xs,hx,hq,q1⟩=>?_);subst hx;cases r1;refine wpAny_Slice ?_;rw[evalPart_none,evalPart_some];refine Ac (Ac ?_);have hst:PE X (.UnaryOp .USub (.Constant (.int 1) n p3) p4) _:=P6 PQ IV;refine I_ (hst pins s1 σ H1 (λv H2=>v= .int (-1)∧H2=H1) I1 ⟨1,rfl,rfl,rfl⟩) λvs s2 ⟨y,H2,I2,r2,e2,e3⟩=>?_;subst e2 e3;obtain⟨t,rfl⟩:=r2;have I4:Inv X pins σ H2 {s2 with heap:=s2.heap.push {cls:= .type "slice",data:= .fields #[.none,.none,.int (-1) t]}}:=I2.kept (t':=s2.toks) λb ob q=>Ad _ q
 obtain⟨its,r,ht,hz⟩:=I4.list hq;have hlen:=r.length;have hg:wpAny (model X.prog X.w) X.A (getItem (.ref a) (.ref s2.heap.objs.size)) (EP X pins σ Q) X.xe {s2 with heap:=s2.heap.push {cls:= .type "slice",data:= .fields #[.none,.none,.int (-1) t]}}:=by refine FN ht.isList (Heap.IsSliceOf.new ..) .none .none (.int (-1) t) (by decide) ?_ (by rw[Aw]<;>omega);rw[PySem.W.krv_pick];refine⟨.ref _,_,I4.laid (t':=s2.toks) (o:= .lst xs.reverse) (λb ob q=>Ad _ q) (Af _) ?_,rfl,q1 _ (I4.hok.fresh (Af _))⟩;exact⟨by rw[Fb];exact hz,_,0,Vals.rev r,Al _ rfl⟩
 show wpAny (model X.prog X.w) X.A (subscriptTail e (.Slice none none (some (.UnaryOp .USub (.Constant (.int 1) n p3) p4)) p2) (.ref a) (.ref s2.heap.objs.size)) (EP X pins σ Q) X.xe {s2 with heap:=s2.heap.push {cls:= .type "slice",data:= .fields #[.none,.none,.int (-1) t]}}
 exact tail_any (ops:=_) ht.isList.typeIs FC.lookup hg (by with_unfolding_all rfl)
end
def R8(ns:List Int):Nat:=(ns.foldl step_dedup []).length
section
variable{te:TE}{pos p2 p3 p4:Pos}
end
end L2
namespace WB
def Web(W:List Int):Prop:=W.length≤23∧∀(i:Nat)(x:Int),W[i]?=some x→0≤x∧x≤(i:Int)
def Post(W:List Int)(p:Int):Prop:=0≤p∧p≤(W.length:Int)
def par(W:List Int)(p:Int):Int:=W.getD (p - 1).toNat 0
theorem par_at{W:List Int}{p:Int}(h:Post W p)(h0:0<p):W[(p - 1).toNat]?=some (par W p):=by
 obtain⟨h1,h2⟩:=h;have:(p - 1).toNat<W.length:=by omega
 unfold par;rw[Cv,AK this];rfl
theorem par_lt{W:List Int}{p:Int}(w:Web W)(h:Post W p)(h0:0<p):0≤par W p∧par W p<p:=by have:=w.2 _ _ (par_at h h0);omega
theorem par_post{W:List Int}{p:Int}(w:Web W)(h:Post W p)(h0:0<p):Post W (par W p):=by have:=par_lt w h h0;obtain⟨h1,h2⟩:=h;exact⟨this.1,by omega⟩
def back(W:List Int):Nat→Int→List Int
 | 0,p=>[p]
 | f+1,p=>if 0<p then p::back W f (par W p) else [p]
def bk(W:List Int)(p:Int):List Int:=back W p.toNat p
theorem Vx{W:List Int}(w:Web W):∀(f g:Nat)(p:Int),Post W p→p.toNat≤f→p.toNat≤g→back W f p=back W g p
 | 0,0,p,_,_,_=>rfl
 | 0,g+1,p,h,h1,_=>by
  have:¬ 0<p:=by omega
  unfold back;rw[if_neg this]
 | f+1,0,p,h,_,h1=>by
  have:¬ 0<p:=by omega
  unfold back;rw[if_neg this]
 | f+1,g+1,p,h,h1,h2=>by
  unfold back;by_cases h0:0<p
  · rw[if_pos h0,if_pos h0];have:=par_lt w h h0;rw[Vx w f g _ (par_post w h h0) (by omega) (by omega)]
  · rw[if_neg h0,if_neg h0]
theorem bk_pos{W:List Int}{p:Int}(w:Web W)(h:Post W p)(h0:0<p):bk W p=p::bk W (par W p):=by
 unfold bk;obtain⟨n,hn⟩:∃n,p.toNat=n+1:=⟨p.toNat - 1,by omega⟩;rw[hn];have:=par_lt w h h0;show(if 0<p then p::back W n (par W p) else [p])=_
 rw[if_pos h0,Vx w n (par W p).toNat _ (par_post w h h0) (by omega) (Af _)]
theorem bk_zero(W:List Int):bk W 0=[0]:=rfl
theorem ND{W:List Int}(w:Web W){P:Int→Prop}(h0:P 0)(hs:∀p,Post W p→0<p→P (par W p)→P p):∀p,Post W p→P p:=by
 have:∀(n:Nat)(p:Int),p.toNat≤n→Post W p→P p:=by
  intro n
  induction n with
  | zero=>
   intro p hn hp;have:p=0:=by have:=hp.1;omega
   subst this;exact h0
  | succ n ih=>
   intro p hn hp;by_cases hp0:0<p
   · have:=par_lt w hp hp0;exact hs p hp hp0 (ih _ (by omega) (par_post w hp hp0))
   · have:p=0:=by have:=hp.1;omega
     subst this;exact h0
 exact λp hp=>this _ p (Af _) hp
theorem bk_cons{W:List Int}(w:Web W){p:Int}(h:Post W p):∃t,bk W p=p::t:=by
 by_cases h0:0<p
 · exact⟨_,bk_pos w h h0⟩
 · have:p=0:=by have:=h.1;omega
   subst this;exact⟨_,bk_zero W⟩
theorem M5{W:List Int}(w:Web W):∀p,Post W p→∀x∈bk W p,Post W x∧x≤p∧∃pre,bk W p=pre++bk W x:=by
 refine ND w ?_ ?_
 · intro x hx;rw[bk_zero] at hx;simp at hx;subst hx;exact⟨⟨by decide,by omega⟩,by decide,[],rfl⟩
 · intro p hp h0 ih x hx;have e:=bk_pos w hp h0;rw[e] at hx;rcases Ar.mp hx with rfl | hx
   · exact⟨hp,Int.le_refl _,[],rfl⟩
   · obtain⟨a,b,pre,c⟩:=ih x hx;have:=par_lt w hp h0;exact⟨a,by omega,p::pre,by rw[e,c];rfl⟩
theorem XD{W:List Int}(w:Web W):∀p,Post W p→(0:Int)∈bk W p:=by
 refine ND w ?_ ?_
 · rw[bk_zero];simp
 · intro p hp h0 ih;rw[bk_pos w hp h0];exact Aj _ ih
theorem Ta{W:List Int}(w:Web W):∀p,Post W p→(bk W p).Pairwise (· > ·):=by
 refine ND w ?_ ?_
 · rw[bk_zero];simp
 · intro p hp h0 ih;rw[bk_pos w hp h0];refine List.pairwise_cons.mpr ⟨λx hx=>?_,ih⟩;have:=(M5 w _ (par_post w hp h0) x hx).2.1;have:=par_lt w hp h0;omega
theorem ZW{l:List Int}(h:l.Pairwise (· > ·)):l.Nodup:=h.imp (λa=>by omega)
theorem OK{W:List Int}(w:Web W){p:Int}(h:Post W p):(bk W p).Nodup:=ZW (Ta w p h)
theorem Ue:∀(l:List Int)(m:Int),l.Pairwise (· > ·)→(∀x∈l,0≤x∧x≤m)→(l.length:Int)≤m+1∨l=[]
 | [],m,_,_=> .inr rfl
 | x::l,m,h,hm=>by
  rw[En] at h;have hx:=hm x (Ai ..)
  left
  rcases Ue l (x - 1) h.2 (λy hy=>⟨(hm y (Aj _ hy)).1,by have:=h.1 y hy;omega⟩) with z | z
  · rw[AA];omega
  · subst z;simp;omega
theorem bk_len{W:List Int}(w:Web W){p:Int}(h:Post W p):(bk W p).length≤24:=by
 have:=Ue _ p (Ta w p h) (λx hx=>⟨(M5 w p h x hx).1.1,(M5 w p h x hx).2.1⟩);have h2:=h.2;have h3:=w.1;rcases this with z | z
 · omega
 · rw[z];simp
structure Split(W:List Int)(p q c:Int)(a b:List Int):Prop where
 pc:Post W c
 ea:bk W p=a++bk W c
 eb:bk W q=b++bk W c
 na:∀x∈a,x ∉ bk W q
 nb:∀x∈b,x ∉ bk W p
theorem split{W:List Int}(w:Web W){q:Int}(hq:Post W q):∀p,Post W p→∃c a b,Split W p q c a b:=by
 have JY:∀p,Post W p→p∈bk W q→∃c a b,Split W p q c a b:=by intro p hp hm;obtain⟨_,_,pre,e⟩:=M5 w q hq p hm;refine⟨p,[],pre,hp,rfl,e,λx hx=>by simp at hx,λx hx hx2=>?_⟩;have nd:=OK w hq;rw[e,Bf] at nd;exact nd.2.2 x hx x hx2 rfl
 refine ND w ?_ ?_
 · exact JY 0 ⟨by decide,by omega⟩ (XD w q hq)
 · intro p hp h0 ih;by_cases hm:p∈bk W q
   · exact JY p hp hm
   · obtain⟨c,a,b,s⟩:=ih;have e:=bk_pos w hp h0;refine⟨c,p::a,b,s.pc,by rw[e,s.ea];rfl,s.eb,λx hx=>?_,λx hx hx2=>?_⟩
     · rcases Ar.mp hx with rfl | hx
       · exact hm
       · exact s.na x hx
     · rw[e] at hx2;rcases Ar.mp hx2 with rfl | hx2
       · exact hm (by rw[s.eb];exact AO _ hx)
       · exact s.nb x hx hx2
theorem Split.flip{W:List Int}{p q c:Int}{a b:List Int}(s:Split W p q c a b):Split W q p c b a:=⟨s.pc,s.eb,s.ea,s.nb,s.na⟩
def off(B:List Int)(x:Int):Bool:=!B.any (λy=>y==x)
theorem off_iff{B:List Int}{x:Int}:off B x=true↔x ∉ B:=by
 unfold off;rw[Dl,←Dc,DN];constructor
 · intro h hx;exact h ⟨x,hx,by simp⟩
 · rintro h ⟨y,hy,e⟩;have:=eq_of_beq e;subst this;exact h hy
theorem Split.ahead{W:List Int}{p q c:Int}{a b:List Int}(s:Split W p q c a b):(bk W p).filter (off (bk W q))=a:=by rw[s.ea,BR];have h1:a.filter (off (bk W q))=a:=List.filter_eq_self.mpr λx hx=>off_iff.mpr (s.na x hx);have h2:(bk W c).filter (off (bk W q))=[]:=List.filter_eq_nil_iff.mpr λx hx z=>off_iff.mp z (by rw[s.eb];exact Ao _ hx);rw[h1,h2,CG]
def wayB(W:List Int)(p q:Int):List Int:=
 (bk W p).filter (off (bk W q))++[(bk W p).getD ((bk W p).filter (off (bk W q))).length 0]++((bk W q).filter (off (bk W p))).reverse
theorem Split.turn{W:List Int}(w:Web W){p q c:Int}{a b:List Int}(s:Split W p q c a b):(bk W p)[a.length]?=some c:=by obtain⟨t,e⟩:=bk_cons w s.pc;rw[s.ea,Ct (Af _),EO,e];rfl
theorem Split.way{W:List Int}(w:Web W){p q c:Int}{a b:List Int}(s:Split W p q c a b):wayB W p q=a++c::b.reverse:=by unfold wayB;rw[s.ahead,s.flip.ahead,Cv,s.turn w];simp
theorem Qk{W:List Int}(w:Web W){p q:Int}(hp:Post W p)(hq:Post W q):wayB W q p=(wayB W p q).reverse:=by obtain⟨c,a,b,s⟩:=split w hq p hp;rw[s.way w,s.flip.way w];simp
def Adj(W:List Int)(x y:Int):Prop:=0<max x y∧W[(max x y - 1).toNat]?=some (min x y)
theorem Adj.symm{W:List Int}{x y:Int}(h:Adj W x y):Adj W y x:=by unfold Adj at*;rw[Int.max_comm,Int.min_comm];exact h
theorem Qc{W:List Int}(w:Web W){p:Int}(h:Post W p)(h0:0<p):Adj W p (par W p):=by have:=par_lt w h h0;unfold Adj;rw[Gs (by omega),Int.min_eq_right (by omega)];exact⟨h0,par_at h h0⟩
def Adjs(W:List Int):List Int→Prop
 | []=>True
 | [_]=>True
 | x::y::r=>Adj W x y∧Adjs W (y::r)
theorem Ul{W:List Int}(w:Web W):∀p,Post W p→Adjs W (bk W p):=by
 refine ND w ?_ ?_
 · rw[bk_zero];exact trivial
 · intro p hp h0 ih;rw[bk_pos w hp h0];obtain⟨t,e⟩:=bk_cons w (par_post w hp h0);rw[e] at ih ⊢;exact⟨Qc w hp h0,ih⟩
theorem Adjs.left{W:List Int}:∀(a:List Int){c:Int}{t:List Int},Adjs W (a++c::t)→Adjs W (a++[c])
 | [],c,t,_=>trivial
 | [x],c,t,h=>⟨h.1,trivial⟩
 | x::y::r,c,t,h=>⟨h.1,Adjs.left (y::r) h.2⟩
theorem Adjs.join{W:List Int}:∀(a:List Int){c:Int}{b:List Int},Adjs W (a++[c])→Adjs W (c::b)→Adjs W (a++c::b)
 | [],c,b,_,h=>h
 | [x],c,b,h,h2=>⟨h.1,h2⟩
 | x::y::r,c,b,h,h2=>⟨h.1,Adjs.join (y::r) h.2 h2⟩
theorem Adjs.rev{W:List Int}:∀(l:List Int),Adjs W l→Adjs W l.reverse
 | [],_=>trivial
 | [x],_=>trivial
 | x::y::r,h=>by have ih:=Adjs.rev (y::r) h.2;rw[DA] at ih;rw[DA,DA,BE];exact Adjs.join _ ih ⟨h.1.symm,trivial⟩
structure IsWay(W:List Int)(l:List Int)(p q:Int):Prop where
 first:l[0]?=some p
 last:l[l.length - 1]?=some q
 nd:l.Nodup
 posts:∀x∈l,Post W x
 adj:Adjs W l
 len:l.length≤60
theorem Nc{W:List Int}(w:Web W){p q:Int}(hp:Post W p)(hq:Post W q):∃t,wayB W p q=p::t:=by
 obtain⟨c,a,b,s⟩:=split w hq p hp;obtain⟨t,e⟩:=bk_cons w s.pc;obtain⟨t',e'⟩:=bk_cons w hp;rw[s.way w];have:=s.ea;rw[e,e'] at this;cases a with
 | nil=>injection this with h1 h2;exact⟨b.reverse,by rw[h1];rfl⟩
 | cons x a=>injection this with h1 h2;exact⟨a++c::b.reverse,by rw[h1];rfl⟩
theorem Yk{W:List Int}(w:Web W){p q:Int}(hp:Post W p)(hq:Post W q):IsWay W (wayB W p q) p q:=by
 have r:=Qk w hp hq;obtain⟨t1,f1⟩:=Nc w hp hq;obtain⟨t2,f2⟩:=Nc w hq hp;obtain⟨c,a,b,s⟩:=split w hq p hp
 have e:=s.way w;have ea:=s.ea;have eb:=s.eb;obtain⟨t,ec⟩:=bk_cons w s.pc;have nA:=OK w hp;have nB:=OK w hq;have aA:=Ul w p hp;have aB:=Ul w q hq;have mA:∀x∈a++[c],x∈bk W p:=λx hx=>by
  rw[ea,ec];rcases As.mp hx with z | z
  · exact AO _ z
  · exact Ao _ (by rw[Ak.mp z];exact Ai ..)
 have lA:=bk_len w hp;have lB:=bk_len w hq;refine⟨by rw[f1];rfl,?_,?_,?_,?_,?_⟩
 · have:(wayB W p q).reverse[0]?=some q:=by rw[←r,f2];rfl
   rw[List.getElem?_reverse (by rw[f1];simp)] at this;rw[←this,Nat.sub_zero]
 · rw[e];rw[ea,ec] at nA;rw[eb,ec] at nB;rw[Bf] at nA nB ⊢;refine⟨nA.1,?_,?_⟩
   · rw[Cg];refine⟨λz=>nB.2.2 c (by simpa using z) c (Ai ..) rfl,?_⟩;exact List.pairwise_reverse.mpr (nB.1.imp λh z=>h z.symm)
   · intro x hx y hy z;subst z;rcases Ar.mp hy with z | z
     · exact nA.2.2 x hx c (Ai ..) z
     · exact s.na x hx (by rw[eb];exact AO _ (by simpa using z))
 · intro x hx;rw[e] at hx;rcases As.mp hx with z | z
   · exact(M5 w p hp x (by rw[ea];exact AO _ z)).1
   · rcases Ar.mp z with z | z
     · rw[z];exact s.pc
     · exact(M5 w q hq x (by rw[eb];exact AO _ (by simpa using z))).1
 · rw[e];rw[ea,ec] at aA;rw[eb,ec] at aB;refine Adjs.join a (aA.left a) ?_;have:=Adjs.rev _ (aB.left b);simpa using this
 · rw[e];have l1:a.length+(bk W c).length=(bk W p).length:=by rw[ea,A5]
   have l2:b.length+(bk W c).length=(bk W q).length:=by rw[eb,A5]
   rw[A5,AA,Fb];omega
end WB
namespace L2
def SI(i j:Int):Prop:=i.natAbs<2^1000∧j.natAbs<2^1000
theorem MS:J8 X (binaryOp .Mult) (rI SI λi j=> .int (i*j)):=NX λi j _ _ _ _ _ hc q=> mul_int q (IntMulOk.of_bits (AM (intBits_le hc.1) (by decide)) (AM (intBits_le hc.2) (by decide)))
theorem Vo(K:Ae)(h:X.K=K):J8 X (BN .NotIn) (NU K true):=by subst h;exact Rc
theorem Wl(K:Ae)(h:X.K=K):Ko X (.builtin "len") (λxs H Q=>∃p ys,xs=[.ref p]∧(SqL K H p ys∨SqT K H p ys)∧Q (.int ys.length) H):=by subst h;exact JK
section
variable{K:Ae}{Q:VK}
theorem Q5:∀ns:List Int,(ns.map V.int).all L3=true
 | []=>rfl
 | n::ns=>by rw[AC,CW,Q5 ns];rfl
theorem Qy(x:Int):∀ns:List Int,Ng (.int x) (ns.map V.int)=ns.any (λy=>y==x)
 | []=>rfl
 | n::ns=>by have:=Qy x ns;unfold Ng at*;rw[AC,CC,CC,this];rfl
theorem XR{p:Addr}{x:Int}{ns:List Int}(h:SqL K H p (ns.map V.int))(q:Q (.bl (ns.any (λy=>y==x))) H):NU K false (.int x) (.ref p) H Q:=
 ⟨p,_,rfl,.inl h,rfl,Q5 ns,by rw[Qy];exact q⟩
theorem Q_{p:Addr}{x:Int}{ns:List Int}(h:SqL K H p (ns.map V.int))(q:Q (.bl (!ns.any (λy=>y==x))) H):NU K true (.int x) (.ref p) H Q:=
 ⟨p,_,rfl,.inl h,rfl,Q5 ns,by rw[Qy];exact q⟩
end
def WebAt(H:Hp)(a:Addr)(W:List Int):Prop:=H a=some (.lst (W.map V.int))∧WB.Web W
theorem WebAt.same{H':Hp}{W:List Int}(h:WebAt H a W)(s:Same H H'):WebAt H' a W:=⟨s _ _ h.1,h.2⟩
def Uq:Sp:=λvs H Q _=>∃(a:Addr)(W:List Int),vs=[.ref a]∧WebAt H a W∧∀H',Same H H'→Q (.bl true) H'
def Vc:Sp:=λvs H Q _=>∃(a:Addr)(W:List Int),vs=[.ref a]∧WebAt H a W∧∀H',Same H H'→Q .non H'
def Vd:Sp:=λvs H Q _=>∃(a:Addr)(W:List Int)(p:Int),vs=[.ref a,.int p]∧WebAt H a W∧WB.Post W p∧Q (.bl true) H
def VH:Sp:=λvs H Q _=>∃(a:Addr)(W:List Int)(p:Int),vs=[.ref a,.int p]∧WebAt H a W∧WB.Post W p∧Q .non H
def VN:Sp:=λvs H Q _=>∃(a:Addr)(W:List Int)(p:Int),vs=[.ref a,.int p]∧WebAt H a W∧WB.Post W p∧∀l H',Same H H'→H l=none→H' l=some (.lst ((WB.bk W p).map V.int))→Q (.ref l) H'
def SQ:Sp:=λvs H Q _=>∃(a:Addr)(W:List Int)(p q:Int),vs=[.ref a,.int p,.int q]∧WebAt H a W∧WB.Post W p∧WB.Post W q∧∀l H',Same H H'→H l=none→H' l=some (.lst ((WB.wayB W p q).map V.int))→Q (.ref l) H'
theorem XB(pre:List Int)(x:Int):JI ((pre++[x]).map V.int) (-1)=some (.int x):=by
 unfold JI LG;rw[if_neg (by decide),if_pos (by rw[Ab,A5,BB];omega)];show((pre++[x]).map V.int)[(-1+(((pre++[x]).map V.int).length:Int)).toNat]?=_;have:(-1+(((pre++[x]).map V.int).length:Int)).toNat=pre.length:=by rw[Ab,A5,BB];omega
 rw[this,Am,Ct (Af _),EO];rfl
theorem YM{H':Hp}{l:Addr}(s:Same H H')(h:H' l=none):H l=none:=by
 cases hz:H l with
 | none=>rfl
 | some o=>rw[s _ _ hz] at h;cases h
theorem nb{i:Int}(h0:0≤i)(h1:i<2^400):i.natAbs<2^1000:=by
 have:i.natAbs<2^400:=by omega
 exact A8 this (by decide)
def Ou(K:Ae):Sp:=λvs H Q _=>∃(a:Addr)(ns:List Int),vs=[.ref a]∧SqL K H a (ns.map V.int)∧ns.length≤63∧∀H',Q (.bl true) H'
theorem mx(i j:Int):(if j>i then j else i)=max i j:=by rw[Int.max_def];split<;>split<;>omega
def JS(H H':Hp):Prop:=∀a xs,H a=some (.tup xs)→H' a=some (.tup xs)
theorem Same.tups{H':Hp}(s:Same H H'):JS H H':=λa xs h=>s _ _ h
theorem UV{p:Addr}{ys:List V}{o:HO}(h:H p=some (.lst ys)):JS H (IU H p o):=λa xs e=>by rw[Ji (Pz e h (by intro z;cases z))];exact e
theorem Kw{H0:Hp}{p:Addr}{o:HO}(s:Same H0 H)(n:H0 p=none):Same H0 (IU H p o):=λa u e=>by rw[Ji (JJ e n)];exact s _ _ e
theorem Uw:∀{ts:List Str}{us:List Value},Vals (ts.map V.str) us→∃l:List (Str×Tok),strValues l=us∧l.map (·.1)=ts
 | [],_,h=>by cases h;exact⟨[],rfl,rfl⟩
 | x::ts,_,h=>by
  rw[AC] at h;cases h with
  | cons r h=> obtain⟨t,rfl⟩:=r;obtain⟨l,h1,h2⟩:=Uw h;exact⟨(x,t)::l,by rw[←h1];rfl,by rw[←h2];rfl⟩
theorem QU:∀{ts:List Str}{us:List Value},Vals (ts.map V.str) us→StrsAre us ts
 | [],_,h=>by cases h;exact .nil
 | x::ts,_,h=>by
  rw[AC] at h;cases h with
  | cons r h=> obtain⟨t,rfl⟩:=r;exact .cons _ _ (QU h)
theorem Rn:∀{us:List Value}{ts:List Str},StrsAre us ts→Vals (ts.map V.str) us
 | _,_,.nil=> .nil
 | _,_,.cons n t h=> .cons ⟨t,rfl⟩ (Rn h)
def Xk(K:Ae):V→List V→Hp→VK→Prop:=λx vs H Q=>∃(y:Str)(a:Addr)(ts:List Str),x= .str y∧vs=[.ref a]∧SqL K H a (ts.map V.str)∧JoinOk y ts=true∧Q (.str (Txt.join y ts)) H
theorem YL:Os X "str.join" (Xk X.K):=by intro pins s σ H x vs v us Q I rx rv h;obtain⟨y,a,ts,rfl,rfl,hq,hok,q⟩:=h;obtain⟨t,rfl⟩:=rx;obtain⟨u,rfl,ru⟩:=rv.one;cases ru;obtain⟨its,r,ht,hz⟩:=I.list hq;obtain⟨l,rfl,rfl⟩:=Uw r;unfold JoinOk at hok;rw[Dl] at hok;refine call_meets F.slot_str_join (typeIs_str _ _ _) F.entry_str_join (F.args_str_join_2 _ _) (meets_str_join_list y t a l hok) ⟨ht.isList,post_join l ⟨joinFit_length hok,λt' k=>?_⟩⟩;exact⟨.str _,H,I.kept (t':=k) λb o e=>e,⟨t',rfl⟩,q⟩
def Yd(K:Ae):List V→Hp→VK→Prop:=λxs H Q=>∃(a:Addr)(ns:List Str),xs=[.ref a]∧SqL K H a (ns.map V.str)∧ns.length<64∧
 ∀(p:Addr)(ms:List Str),ms.Perm ns→sortedS ms=true→H p=none→Q (.ref p) (IU H p (.lst (ms.map V.str)))
theorem zgO:Ko X (.builtin "sorted") (Yd X.K):=by
 intro pins s σ H xs us Q I r h;obtain⟨a,ns,rfl,hq,h64,q⟩:=h;obtain⟨u,rfl,rx⟩:=KC r;cases rx;obtain⟨its,rv,ht,hz⟩:=I.list hq;have hl:=rv.length;rw[Ab] at hl;refine sorted_strs ht.isList (QU rv) (by omega) λout ns' a1 a2 a3=>?_;obtain⟨e,he⟩:=sortedAll_at s.heap its out;have hn:H (s.heap.objs.size+1)=none:=I.hok.fresh (CD _);have hlen:ns'.length=ns.length:=a2.length_eq;refine⟨.ref (s.heap.objs.size+1),IU H (s.heap.objs.size+1) (.lst (ns'.map V.str)),I.laid (t':=s.toks) (λb o e=>sortedAll_old e) (CD _) ?_,rfl,q _ ns' a2 a3 hn⟩;have hz':ns.length≤Az:=by rw[Ab] at hz;exact hz
 exact⟨by rw[Ab];omega,out.toList,e,Rn a1,by simpa [BD] using he⟩
theorem Yp(t:A0)(n:Nat):(t.orStandIn n).led=t.led:=by unfold SetTable.orStandIn;split<;>rfl
theorem Z9(t:A0)(n:Nat)(h:t.plain=false):(t.orStandIn n).plain=false:=by
 unfold SetTable.orStandIn
 split
 · exact h
 · rfl
theorem XU(t:A0)(es:Array (Int×Value))(h:Int)(x:Value):(layNew t es h x).2.1.led=t.led:=by
 unfold layNew
 split
 · exact(Yp _ _).trans rfl
 · rfl
theorem ZP(t:A0)(es:Array (Int×Value))(h:Int)(x:Value):t.plain=false→(layNew t es h x).2.1.plain=false:=by
 intro hp;unfold layNew
 split
 · exact Z9 _ _ hp
 · rfl
theorem TU{mask finger moves:Nat}{led plain:Bool}{hs:Array Int}{t:A0}{o:Array Nat}(h:Fv mask finger moves led plain hs=some (t,o)):t.led=led∧t.plain=plain:=by
 unfold Fv at h;cases h1:SetTable.layClean mask hs with
 | none=>rw[h1] at h;cases h
 | some ow=> rw[h1] at h;simp only[Option.bind_eq_bind,Option.bind_some,Option.pure_def,Option.some.injEq,Prod.mk.injEq] at h;rw[←h.1];exact⟨rfl,rfl⟩
theorem zjN(t:A0)(es:Array (Int×Value))(n:Nat):(relayAll t es n).2.1.led=t.led:=by
 unfold relayAll
 split
 · rename_i t' o h;dsimp only
   split
   · exact(TU h).1
   · rfl
 · rfl
theorem zhc(t:A0)(es:Array (Int×Value))(n:Nat)(hp:t.plain=false):(relayAll t es n).2.1.plain=false:=by
 unfold relayAll
 split
 · rename_i t' o h;dsimp only
   split
   · rw[←hp];exact(TU h).2
   · rfl
 · rfl
def Jc(w:World):Bool:=w.params.followText "set-order"
structure TxSet(prog:Bw)(w:World)(h:Heap)(a:Addr)(ks:List Str):Prop where
 at':∃(es:Array (Int×Value))(ep:Nat)(t:A0),h.get? a=some {cls:= .type "set",dict:=none,data:= .set es ep t}∧ElemsOf (strKind prog w) es.toList∧
  StrsAre (es.toList.map (·.2)) ks∧t.fits es.size=true∧t.led=!Jc w∧(es.size=0∨t.plain=false)
 nodup:ks.Nodup
 few:ks.length<Eo
theorem NH:∀{vs:List Value}{ks:List Str},StrsAre vs ks→vs.length=ks.length
 | _,_,.nil=>rfl
 | _,_,.cons _ _ h=>by rw[AA,AA,NH h]
theorem Wx:∀{vs us:List Value}{ks js:List Str},StrsAre vs ks→StrsAre us js→StrsAre (vs++us) (ks++js)
 | _,_,_,_,.nil,h=>h
 | _,_,_,_,.cons _ _ h',h=> .cons _ _ (Wx h' h)
theorem Rm{vs:List Value}(p:us.Perm vs):∀{ks:List Str},StrsAre vs ks→∃js,StrsAre us js∧js.Perm ks:=by
 induction p with
 | nil=>intro ks h;exact⟨ks,h,.refl _⟩
 | cons x p ih=>
  intro ks h;cases h with
  | cons y t h=> obtain⟨js,h1,h2⟩:=ih h;exact⟨y::js,.cons y t h1,h2.cons _⟩
 | swap x y l=>
  intro ks h;cases h with
  | cons y t h=>
   cases h with
   | cons y2 t2 h=>exact⟨y2::y::_,.cons _ _ (.cons _ _ h),.swap _ _ _⟩
 | trans p1 p2 ih1 ih2=> intro ks h;obtain⟨js,h1,h2⟩:=ih2 h;obtain⟨is,h3,h4⟩:=ih1 h1;exact⟨is,h3,h4.trans h2⟩
theorem Ru:∀{vs:List Value}{ks:List Str},StrsAre vs ks→∀k,k∈ks↔∃t,Value.str k t∈vs
 | _,_,.nil,k=>by simp
 | _,_,.cons y t h,k=>by
  rw[Ar,Ru h k];constructor
  · rintro(rfl | ⟨u,hu⟩)
    · exact⟨t,.head _⟩
    · exact⟨u,.tail _ hu⟩
  · rintro⟨u,hu⟩;cases hu with
    | head=>exact .inl rfl
    | tail _ hu=>exact .inr ⟨u,hu⟩
theorem OD(k:Str)(t:Tok):(strKind prog w).is k (.str k t)=true:=by show EB k (.str k t)=true;simp[EB]
theorem MV(h:Heap)(a:Addr)(es es':Array (Int×Value))(ep:Nat)(t t':A0)(ho:h.get? a=some {cls:= .type "set",dict:=none,data:= .set es ep t}):
 (h.update a (FH es' t')).get? a=some {cls:= .type "set",dict:=none,data:= .set es' (ep+1) t'}:=by
 have:=Bz (FH es' t') ho (by rw[putSet_of es' t' (o:={cls:= .type "set",dict:=none,data:= .set es ep t}) rfl];rfl);rw[putSet_of es' t' (o:={cls:= .type "set",dict:=none,data:= .set es ep t}) rfl] at this;exact this
theorem Zm{ks:List Str}{k:Str}{tk:Tok}{Q:Bool→Shared→Prop}(hS:TxSet prog w s.heap a ks)(hroom:ks.length+1<Eo)
 (h:∀h' ks',BO a s.heap h'→TxSet prog w h' a ks'→ks'.length≤ks.length+1→(∀x,x∈ks'↔x∈ks∨x=k)→∀b,Q b {s with heap:=h'}):
 wpAny (model prog w) A (setAddHashed a (.str k tk) ((strKind prog w).hash k)) Q E s:=by
 obtain⟨⟨es,ep,t,ho,hel,hks,hf,hled,hpl⟩,hnd,hfew⟩:=hS;have hsz:es.size=ks.length:=by rw[←NH hks,Ab,Ah]
 have hb:es.size<Eo:=by rw[hsz];exact hfew
 have hkey:(strKind prog w).is k (.str k tk)=true:=OD k tk;unfold setAddHashed setAddHashedIn;refine AF (Aa (AN ho rfl hf ?_));dsimp only;rw[byScan_of (knd:=strKind prog w) rfl hb hel];simp only[↓reduceIte];unfold setAddByScan;refine Aa ?_;refine Aa (Cm ?_);refine Aa (wpAny_setScan_of (knd:=strKind prog w) hkey ho rfl hf hel ?_);have isk:∀e∈es.toList,(strKind prog w).is k e.2=true→k∈ks:=λe he q=>by obtain⟨t',q'⟩:=EW q;exact(Ru hks k).mpr ⟨t',by rw[←q'];exact Bs he⟩
 cases hr:List.findIdx? (λe=>(strKind prog w).is k e.2) es.toList with
 | some j=> dsimp only;obtain⟨hj,hpj,_⟩:=List.findIdx?_eq_some_iff_getElem.mp hr;have hk:k∈ks:=isk _ (FQ hj) hpj;refine Ac (Ac ?_);exact h s.heap ks (FE a s.heap) ⟨⟨es,ep,t,ho,hel,hks,hf,hled,hpl⟩,hnd,hfew⟩ (CD _) (λx=>⟨.inl,λq=>q.elim id λe=>e ▸ hk⟩) _
 | none=>
  dsimp only;have hk:k ∉ ks:=λhm=>by obtain⟨t',ht⟩:=(Ru hks k).mp hm;obtain⟨e,he,q⟩:=Ax.mp ht;have:=List.findIdx?_eq_none_iff.mp hr e he;rw[q,OD] at this;cases this
  have hgw:∀(b:Bool){s₁:Shared}{Q':Unit→Shared→Prop},Q' () s₁→wpAny (model prog w) A (match b with | true=>rule "set.scan.the-table-gave-way" | false=>pure ()) Q' E s₁:=
   λb s₁ Q' hq=>by cases b<;>first | exact Ac hq | exact Cm hq
  have hperm:=layNew_perm t es ((strKind prog w).hash k) (.str k tk);have hfits:=layNew_fits t es ((strKind prog w).hash k) (.str k tk);have hl1:=XU t es ((strKind prog w).hash k) (.str k tk);have hp1:=ZP t es ((strKind prog w).hash k) (.str k tk);generalize hL:layNew t es ((strKind prog w).hash k) (.str k tk)=L at hperm hfits hl1 hp1 ⊢;obtain⟨es1,t1,wasDummy,gave⟩:=L;dsimp only at hperm hfits hl1 hp1 ⊢;rw[Dm] at hperm;have hel1:ElemsOf (strKind prog w) es1.toList:=(hel.push hkey rfl).perm hperm;have h0:StrsAre ((es.toList++[((strKind prog w).hash k,Value.str k tk)]).map (·.2)) (ks++[k]):=by rw[Aq];exact Wx hks (.cons k tk .nil)
  obtain⟨k1,hk1,hkp1⟩:=Rm (hperm.map (·.2)) h0;have hsz1:es1.size=ks.length+1:=by rw[←Ah,hperm.length_eq,A5,Ah,hsz];rfl
  have nd0:(ks++[k]).Nodup:=by rw[Bf];exact⟨hnd,by simp,λx hx y hy=>by rw[Ak] at hy;subst hy;exact λe=>hk (e ▸ hx)⟩
  have fin:∀(h':Heap)(es2:Array (Int×Value))(ep2:Nat)(t2:A0),BO a s.heap h'→h'.get? a=some {cls:= .type "set",dict:=none,data:= .set es2 ep2 t2}→es2.toList.Perm es1.toList→t2.fits es2.size=true→
   t2.led=t.led→t2.plain=false→∀b,Q b {s with heap:=h'}:=λh' es2 ep2 t2 sb ho2 p2 f2 l2 pl2 b=>by
   obtain⟨k2,hk2,hkp2⟩:=Rm (p2.map (·.2)) hk1;have hp:k2.Perm (ks++[k]):=hkp2.trans hkp1;have hlen:k2.length=ks.length+1:=by rw[hp.length_eq,A5];rfl
   refine h h' k2 sb ⟨⟨es2,ep2,t2,ho2,hel1.perm p2,hk2,f2,l2.trans hled,.inr pl2⟩,hp.nodup_iff.mpr nd0,by omega⟩ (by omega) (λx=>?_) b;rw[hp.mem_iff,As,Ak]
  refine Aa (hgw _ ?_);have tail:∀(t2:A0),t2.fits es1.size=true→t2.led=t.led→t2.plain=false→∀{R:Option Bool→Shared→Prop},(∀h',(∀b,Q b {s with heap:=h'})→R (some true) {s with heap:=h'})→
   wpAny (model prog w) A (do
    storeSet a es1 t2
    if(!wasDummy && t2.tooFull)=true then do
        (match(relayAll t2 es1 (Cd es1.size)).2.2 with | true=>rule "set.scan.the-table-gave-way" | false=>pure ())
        storeSet a (relayAll t2 es1 (Cd es1.size)).1 (relayAll t2 es1 (Cd es1.size)).2.1
        pure (some true)
     else pure (some true)) R E s:=by
   intro t2 f2 l2 pl2 R hR;refine Aa (Dn ho rfl ?_ (fits_of_scanBound (by omega)));have ho1:=MV s.heap a es es1 ep t t2 ho;have sb1:=AJ s.heap a (FH es1 t2)
   split
   · have hp:=relayAll_perm t2 es1 (Cd es1.size);have hfr:=relayAll_fits t2 es1 (Cd es1.size);have hl2:=zjN t2 es1 (Cd es1.size);have hp2:=zhc t2 es1 (Cd es1.size) pl2;generalize hRl:relayAll t2 es1 (Cd es1.size)=Rl at hp hfr hl2 hp2 ⊢;obtain⟨es2,t3,gave2⟩:=Rl;dsimp only at hp hfr hl2 hp2 ⊢;have hs2:es2.size=es1.size:=by rw[←Ah,hp.length_eq,Ah]
     refine Aa (hgw _ ?_);refine Aa (Dn ho1 rfl ?_ (fits_of_scanBound (by omega)));exact Ac (hR _ (fin _ es2 _ t3 (sb1.trans (AJ _ a _)) (MV _ a es1 es2 (ep+1) t2 t3 ho1) hp hfr (hl2.trans l2) hp2))
   · exact Ac (hR _ (fin _ es1 _ t2 sb1 ho1 (.refl _) f2 l2 pl2))
  split
  · refine Aa ?_;rw[hashByValue_scannable 8 (x:= .str k tk) rfl];refine Ac ?_;exact tail {t1 with plain:=false} (SetTable.fits_plain_off hfits) hl1 rfl λh' q=>Ac (q _)
  · rename_i hnp;refine Aa (Ac ?_);simp only[↓reduceIte];exact tail t1 hfits hl1 (by simpa using hnp) λh' q=>Ac (q _)
theorem TxSet.kept{h':Heap}{ks:List Str}(T:TxSet prog w h a ks)(k:∀o,h.get? a=some o→h'.get? a=some o):TxSet prog w h' a ks:=by obtain⟨⟨es,ep,t,ho,r⟩,b,c⟩:=T;exact⟨⟨es,ep,t,k _ ho,r⟩,b,c⟩
theorem Uv:∀{vs:List Value}{ts:List Str},StrsAre vs ts→∀(i:Nat)(v:Value),vs[i]?=some v→∃x t,v= .str x t∧ts[i]?=some x
 | _,_,.nil,i,v,h=>by simp at h
 | _,_,.cons y t hr,0,v,h=>by simp at h;exact⟨y,t,h.symm,rfl⟩
 | _,_,.cons y t hr,i+1,v,h=>by rw[Dy] at h;obtain⟨x,t',e,e2⟩:=Uv hr i v h;exact⟨x,t',e,by rw[Dy];exact e2⟩
section
variable{R:Result→Shared→Prop}{I:Addr}{fp wr:List Addr}{G:Array GenState→Array GenState→Prop}{P:Nat→Value→Prop}{St:Nat→Shared→Prop}
theorem zjh(ts:List Str)(W:WalksS prog w A.in1 I fp wr G ts.length P St)(S:Addr)(hSf:S ∉ fp)
 (hval:∀i v,P i v→∃x t,v= .str x t∧ts[i]?=some x) (hb:ts.length+1<Eo):
 ∀(k i:Nat)(s:Shared)(ks:List Str),ts.length - i=k→i≤ts.length→St i s→TxSet prog w s.heap S ks→ks.length≤i→(∀x,x∈ks↔x∈ts.take i)→
  (∀s' ks',Moved (S::wr) G s s'→TxSet prog w s'.heap S ks'→ks'.length≤ts.length→(∀x,x∈ks'↔x∈ts)→R (.ok (.ret .none)) s')→
  codeAny (model prog w) A (.builtin "set.update.loop" ⟨[.ref S,.ref I],[]⟩) R s:=by
 have hSw:S ∉ wr:=λh=>hSf (W.sub _ h);have hsub:∀b∈wr,b∈S::wr:=λb hb=>Aj _ hb;intro k
 induction k with
 | zero=>
  intro i s ks hk hi hst hS hl hm0 hR;have hin:i=ts.length:=by omega
  subst hin;refine Br CA ?_;rw[AY BH _];show wpAny _ A.in1 (pyNext (.ref I)>>=_) _ _ s;refine Aa (W.done s _ _ hst λs' hm=>?_);show wpAny _ A.in1 (ret Value.none) _ _ s';exact Ac (hR s' ks (hm.mono hsub) (hS.kept λo e=>hm.heap S _ hSw e) hl (λx=>by rw[hm0,Bx]))
 | succ k ih=>
  intro i s ks hk hi hst hS hl hm0 hR;have hlt:i<ts.length:=by omega
  refine Br CA ?_;rw[AY BH _];show wpAny _ A.in1 (pyNext (.ref I)>>=_) _ _ s;refine Aa (W.item i s _ _ hlt hst λv s' hP hst' hm=>?_);obtain⟨x,t,rfl,hx⟩:=hval i v hP;have hS':TxSet prog w s'.heap S ks:=hS.kept λo e=>hm.heap S _ hSw e;show wpAny _ A.in1 (holding [Value.str x t] (setAdd S (.str x t))>>=_) _ _ s';refine Aa (AF ?_);unfold setAdd;refine AF ?_;refine Aa ((strKind prog w).pyHash (k:=x) (OD x t) ?_);refine Zm (s:={s' with toks:=s'.toks+1}) hS' (by omega) λh' ks' hsb hS2 hl2 hm2 b=>?_
  refine Ac ⟨BW BH _,ih (i+1) _ ks' (by omega) hlt (W.frame _ s' _ _ hst' (CD _) λb hb o e=>?_) hS2 (by omega) (λy=>?_) λs'' k2 hm'' hS''=>?_⟩
  · rw[hsb.2 b (λh:b=S=>hSf (by rw[←h];exact hb))];exact e
  · rw[hm2,hm0,CM,hx];simp
  · refine hR s'' k2 (Moved.trans W.gtrans ((hm.mono hsub).then_heap (CD _) λb o hb e=>?_) hm'') hS'';rw[hsb.2 b (λh:b=S=>hb (by rw[h];exact Ai))];exact e
end
theorem VP(a:Value){Q₁:Value→Shared→Prop}
 (h:Q₁ (.ref s.heap.objs.size) {s with heap:=s.heap.push {cls:= .type "set",dict:=none,data:= .set #[] 0 (.fresh 0 0 (!Jc w))}}):
 codeAny (model prog w) A (.call (.builtin "set.__new__") ⟨[.type "set",a],[]⟩) (wants Q₁ E) s:=by
 refine D5 ?_;show wpAny _ A.in1 (do checkBuiltinCall "set.__new__" ⟨[.type "set",a],[]⟩;again (.builtin "set.__new__" ⟨[.type "set",a],[]⟩)) _ _ s
 refine Aa (G2 (PySem.F.newCall_set_1 a) (Ac ⟨BW GD _,Br PySem.F.entry_set_new ?_⟩));rw[AY GD _];unfold Builtin.«set.__new__» Builtin.Frozenset.newClass;have hsub:=sub_set_self;obtain⟨hp,g,d,tk,os⟩:=s;dsimp only
 wp_walk
 refine Dd (Ac ?_);dsimp only;simp only[newObj];refine Aa (wpAny_alloc (Ac ?_));exact Ac h
theorem ziB(e:h.get? a=some {cls:= .type "set",dict:=none,data:= .set #[] 0 (.fresh 0 0 (!Jc w))}):TxSet prog w h a []:=
 ⟨⟨#[],0,_,e,λe he=>by simp at he,.nil,rfl,rfl,.inl rfl⟩,Fe,by decide⟩
set_option maxHeartbeats 3200000 in
theorem zfQ{l:Addr}{items:Array Value}{ts:List Str}{Q:Value→Shared→Prop}
 (hh:A.handled=none) (hl:s.heap.IsList l items) (hi:StrsAre items.toList ts) (hb:ts.length+1<Eo)
 (h:∀(h':Heap)(tk:Nat)(ks:List Str),TxSet prog w h' s.heap.objs.size ks→ks.length≤ts.length→(∀x,x∈ks↔x∈ts)→
  (∀b o,b<s.heap.objs.size→s.heap.get? b=some o→h'.get? b=some o)→Q (.ref s.heap.objs.size) {s with heap:=h',toks:=tk}):
 wpAny (model prog w) A (call (.type "set") [.ref l]) Q E s:=by
 have hsz:items.size=ts.length:=by rw[←Ah];exact NH hi
 obtain⟨c,tl,hmro⟩:=Bh.mro;have hmade:=Bh.made;have hsub:=Bh.sub;refine wpAny_call (D5 ?_);show wpAny _ _ (callAny (.type "set") _) _ _ _;refine Ac ⟨Code.quiet_builtin _ (by decide+kernel),Br Gg ?_⟩;rw[Around.under_plain (weight_type_call_type "set" [.ref l] []) rfl];have h1:=Bh.notType;have h2:=Bh.canCreate;have hct:=G5 (.ref l)
 repeat (any_goals (first | assumption | wp_step))
 refine Cn (VP (.ref l) (E:=E) (Q₁:=λobj s₁=>obj= .ref s.heap.objs.size∧s₁={s with heap:=s.heap.push {cls:= .type "set",dict:=none,data:= .set #[] 0 (.fresh 0 0 (!Jc w))}}) ⟨rfl,rfl⟩) λr s₁ hr=>?_
 cases r with
 | error e=>exact hr
 | ok fl=>
  cases fl with
  | ret obj=>
   obtain⟨rfl,rfl⟩:=hr;have hS:(s.heap.push {cls:= .type "set",dict:=none,data:= .set #[] 0 (.fresh 0 0 (!Jc w))}).get? s.heap.objs.size=some {cls:= .type "set",dict:=none,data:= .set #[] 0 (.fresh 0 0 (!Jc w))}:=Al _ rfl;have hT:EC {s with heap:=s.heap.push {cls:= .type "set",dict:=none,data:= .set #[] 0 (.fresh 0 0 (!Jc w))}} (.ref s.heap.objs.size) "set":=⟨_,hS,rfl⟩;have hli:=Bh.init.lookup;have hbi:=Bh.init.bind (.ref s.heap.objs.size)
   repeat (any_goals (first | assumption | wp_step))
   refine Cn (EQ (R:=wants (λr s₂=>r= .none∧∃h' tk ks,s₂={s with heap:=h',toks:=tk}∧TxSet prog w h' s.heap.objs.size ks∧ks.length≤ts.length∧(∀x,x∈ks↔x∈ts)∧
    (∀b o,b<s.heap.objs.size→s.heap.get? b=some o→h'.get? b=some o)) E) Bh.init.plain G6 (check_set_init_1 hT ?_)) λr₂ s₂ hr₂=>?_
   · obtain⟨ol,hol,hcl,nl,hdl⟩:=hl;obtain⟨ocls,odict,odata,oslots⟩:=ol;simp only at hcl hdl;subst hcl;subst hdl;have hol':(s.heap.push {cls:= .type "set",dict:=none,data:= .set #[] 0 (.fresh 0 0 (!Jc w))}).get? l=some {cls:= .type "list",dict:=odict,data:= .seq items nl,slots:=oslots}:=Ad _ hol;have hsls:=GO;have hslf:=Fw;have hne:(Value.type "list"==Value.type "dict")=false:=by decide
     have hl1:(s.heap.push {cls:= .type "set",dict:=none,data:= .set #[] 0 (.fresh 0 0 (!Jc w))}).IsList l items:=⟨_,hol',rfl,nl,rfl⟩;unfold Builtin.«set.__init__» noKeywords Ff;generalize hPI:pyIter=PI
     wp_walk
     subst hPI;refine D9 hl1 ?_;refine Aa (Fg ?_);have hlS:l<s.heap.objs.size:=Ag hol;have hh3:A.in1.in1.in1.handled=none:=by simp[hh]
     have hneI:l≠(s.heap.push {cls:= .type "set",dict:=none,data:= .set #[] 0 (.fresh 0 0 (!Jc w))}).objs.size:=by rw[AS];exact An (Ca hlS)
     have hSf:s.heap.objs.size ∉ [(s.heap.push {cls:= .type "set",dict:=none,data:= .set #[] 0 (.fresh 0 0 (!Jc w))}).objs.size,l]:=by rw[AS];simp only[Ar,Ak,A6,or_false,not_or];exact⟨An (BX _),AV hlS⟩
     have hval:∀(i:Nat)(v:Value),items[i]?=some v→∃x t,v= .str x t∧ts[i]?=some x:=λi v hv=> Uv hi i v (by rw[A7];exact hv);have W:=(Walks.list (prog:=prog) (w:=w) hh3 (s.heap.push {cls:= .type "set",dict:=none,data:= .set #[] 0 (.fresh 0 0 (!Jc w))}).objs.size l hneI items).toS;rw[hsz] at W;refine zjh ts W s.heap.objs.size hSf hval hb (ts.length - 0) 0 _ [] (by omega) (Bc _)
      ⟨⟨_,Al _ rfl,rfl,rfl⟩,(hl1.push _)⟩ (ziB (Ad _ hS)) (Af _) (λx=>by simp) ?hR
     case hR=>
      intro s' ks hm hS' hlk hmk;obtain⟨h',g',d',tk',os'⟩:=s';have eg:g'=s.gens:=hm.gens;have ed:d'=s.drawn:=hm.drawn;have eo:os'=s.os:=hm.os;subst eg;subst ed;subst eo;show wpAny _ _ _ _ _ _;refine Ac ?_;show wpAny _ _ (ret Value.none) _ _ _;refine Ac ⟨rfl,h',tk',ks,rfl,hS',hlk,hmk,λb o hb e=>?_⟩;have hb1:b≠s.heap.objs.size:=An hb;have hb2:b≠(s.heap.push {cls:= .type "set",dict:=none,data:= .set #[] 0 (.fresh 0 0 (!Jc w))}).objs.size:=by rw[AS];exact An (Ca hb)
      exact hm.heap b o (by simp only[Ar,Ak,A6,or_false,not_or];exact⟨hb1,hb2⟩) (Ad _ (Ad _ e))
   · cases r₂ with
     | error e=>exact hr₂
     | ok fl₂=>
      cases fl₂ with
      | ret r=>
       obtain⟨rfl,h',tk,ks,rfl,hS',hlk,hmk,hk'⟩:=hr₂
       repeat (any_goals (first | assumption | wp_step))
       exact h _ _ ks hS' hlk hmk hk'
      | _=>exact hr₂.elim
  | _=>exact hr.elim
theorem zix{M:Model}{A:Cw}{E:Value→Shared→Prop}{src:Source}{Q:Nat→Shared→Prop}(hn:0<n)(h:∀i d',i<n→Q i {s with drawn:=d'}):
 wpAny M A (choose src n) Q E s:=λΓ p hΓ=>by
 show Sem.wp M Γ (.choose src n .pure) _ _ p s;rw[Sem.wp_choose];exact⟨by omega,h _ _ (CI _ hn)⟩
theorem QY{α:Type}:∀{l:List α}{i:Nat}{x:α},l[i]?=some x→(x::l.eraseIdx i).Perm l
 | [],i,x,h=>by simp at h
 | y::l,0,x,h=>by simp at h;subst h;exact .refl _
 | y::l,i+1,x,h=>by rw[Dy] at h;rw[Ge];exact(List.Perm.swap _ _ _).trans ((QY h).cons _)
theorem QI{M:Model}{A:Cw}{E:Value→Shared→Prop}{α:Type}:∀(n:Nat)(xs:List α)(s:Shared){Q:List α→Shared→Prop},xs.length≤n→(∀ys d',ys.Perm xs→Q ys {s with drawn:=d'})→
 wpAny M A (drawOrder n xs) Q E s
 | 0,xs,s,Q,hn,h=>by have:xs=[]:=Dx.mp (Nat.le_zero.mp hn);subst this;exact Ac (h [] s.drawn (.refl _))
 | n+1,[],s,Q,hn,h=>Ac (h [] s.drawn (.refl _))
 | n+1,x::xs,s,Q,hn,h=>by
  show wpAny M A (choose .order (x::xs).length>>=_) Q E s;refine Aa (zix (by simp) λi d1 hi=>?_);have hx:(x::xs)[i]?=some (x::xs)[i]:=AK hi;rw[hx];show wpAny M A (drawOrder n ((x::xs).eraseIdx i)>>=_) Q E _;have hl:((x::xs).eraseIdx i).length≤n:=by rw[DO,if_pos hi];simp at hn ⊢;omega
  refine Aa (QI n _ _ hl λys d2 hp=>Ac ?_);exact h _ d2 ((hp.cons _).trans (QY hx))
theorem Uz{α:Type}(next:Nat→Nat):∀(n k:Nat)(left:List α)(out:Array α),left.length≤n→((pickOrder.go next n k left out).toList).Perm (out.toList++left)
 | 0,k,left,out,h=>by have:left=[]:=Dx.mp (Nat.le_zero.mp h);subst this;simp[pickOrder.go]
 | n+1,k,left,out,h=>by
  unfold pickOrder.go
  split
  · rename_i x hx;have hlt:next k%left.length<left.length:=(Au.mp hx).1
    refine(Uz next n (k+1) _ _ ?_).trans ?_
    · rw[DO,if_pos hlt];omega
    · rw[Dm,BE];exact GE _ (QY hx)
  · rename_i hx;cases left with
    | nil=>simp
    | cons y l=>
     have:next k%(y::l).length<(y::l).length:=CI _ (by simp)
     rw[AK this] at hx;cases hx
theorem Vq{α:Type}(next:Nat→Nat)(xs:Array α):((pickOrder next xs).toList).Perm xs.toList:=by
 have:=Uz next xs.size 0 xs.toList #[] (by simp)
 simpa [pickOrder] using this
theorem VT(a:Addr):setDrawn a=(do
 let(es,_,t) ←setState a
 let byText ←setsByText
 return !byText && (!t.plain && decide (es.size>1))):=rfl
theorem M_(a:Addr)(slot given epochThen:Nat):setNext a slot given epochThen=(do
 let(es,epoch,t) ←setState a
 if ←setsByText then
  if epoch !=epochThen then unsupported "set_iterator.__next__:elements-changed"
  return ((←setWalk a)[given]?).map λe=>(e.2,slot)
 if(!t.plain && decide (es.size>1)) then unsupported "set_iterator.__next__:the-table-is-plain-no-more"
 (do if !t.led && !es.isEmpty then unsupported "set:maker-not-led":Sem Unit)
 let i:=AI t.place slot
 return match es[i]?,t.place[i]? with
  | some (_,x),some j=>some (x,j+1)
  | _,_=>none):=rfl
namespace FS
theorem entry_set_iter:entryFor table "set.__iter__"=some Builtin.«frozenset.__iter__»:=entryFor_alias (id':="frozenset.__iter__") (by kernel_rfl) rfl (by decide+kernel) (by kernel_rfl)
theorem slot_si_next:Slot "set_iterator" "__next__" "set_iterator.__next__":=
 .of (owner:="set_iterator") (n:="__next__") (by rw[typeLookup_type,builtinLookup_eq_fast];kernel_rfl) (by decide+kernel) (by decide+kernel) (by decide+kernel)
  (by first | exact .inl (by decide+kernel) | exact .inr (by decide+kernel)) (by rw[isSubtype_type];kernel_rfl)
theorem entry_si_next:entryFor table "set_iterator.__next__"=some Builtin.«set_iterator.__next__»:=FT (by kernel_rfl)
theorem args_si_next(a:Value):argsOk "set_iterator.__next__" ⟨[a],[]⟩:=by unfold argsOk;kernel_rfl
theorem slot_si_iter:Slot "set_iterator" "__iter__" "set_iterator.__iter__":=
 .of (owner:="set_iterator") (n:="__iter__") (by rw[typeLookup_type,builtinLookup_eq_fast];kernel_rfl) (by decide+kernel) (by decide+kernel) (by decide+kernel)
  (by first | exact .inl (by decide+kernel) | exact .inr (by decide+kernel)) (by rw[isSubtype_type];kernel_rfl)
theorem entry_si_iter:entryFor table "set_iterator.__iter__"=some Builtin.«dict_keyiterator.__iter__»:=
 entryFor_alias (id':="dict_keyiterator.__iter__") (by kernel_rfl) rfl (by decide+kernel) (by kernel_rfl)
theorem args_si_iter(a:Value):argsOk "set_iterator.__iter__" ⟨[a],[]⟩:=by unfold argsOk;kernel_rfl
end FS
abbrev Na(h:Heap)(I a:Addr)(first:Value)(i n ep:Nat):Prop:=
 h.get? I=some {cls:= .type "set_iterator",dict:=none,data:= .fields #[first,.int i 0,.ref a,.int n 0,.int ep 0]}
inductive SOrd(w:World)(a:Addr)(es:Array (Int×Value))(ep:Nat)(t:A0):(Nat→Value)→List Value→List (Addr×Obj)→Prop
 | drawn (T:Addr) (places:List Nat) (h0:Jc w=false) (hp:places.Perm (AG es.size)) (h2:1<es.size):
  SOrd w a es ep t (λ_=> .ref T) (places.filterMap λp=>(es[p]?).map (·.2)) [(T,{cls:= .type "tuple",data:= .seq (places.map λ(i:Nat)=>rawInt i).toArray})]
 | text (h0:Jc w=true):SOrd w a es ep t (λ_=>rawInt 0) ((pickOrder (w.params.setOrder a ep) es).toList.map (·.2)) []
 | few (h0:Jc w=false) (h2:es.size≤1):SOrd w a es ep t (λi=>rawInt (if i=0 then 0 else t.place.getD 0 0+1)) (es.toList.map (·.2)) []
theorem Z3(es:Array (Int×Value)):((AG es.size).filterMap λp=>(es[p]?).map (·.2))=es.toList.map (·.2):=by have:=filterMap_getElem?_range es;rw[←this,D6]
theorem SOrd.perm{es:Array (Int×Value)}{ep:Nat}{t:A0}{f:Nat→Value}{vs:List Value}{ob:List (Addr×Obj)}(h:SOrd w a es ep t f vs ob):vs.Perm (es.toList.map (·.2)):=by
 cases h with
 | drawn T places h0 hp h2=>rw[←Z3];exact hp.filterMap _
 | text h0=>exact(Vq _ _).map _
 | few h0 h2=>exact .refl _
theorem LD{Q:Bool→Shared→Prop}(h:Q (Jc w) s):wpAny (model prog w) A setsByText Q E s:=by unfold setsByText;exact Aa (Dd (Ac h))
theorem ZO{es:Array (Int×Value)}{ep:Nat}{t:A0}{Q:Value→Shared→Prop}(ho:s.heap.get? a=some {cls:= .type "set",dict:=none,data:= .set es ep t})
 (hf:t.fits es.size=true) (hp:es.size=0∨t.plain=false) (hz:es.size≤Az)
 (hQ:∀h' d' I f vs ob,SOrd w a es ep t f vs ob→s.heap.objs.size≤I→Na h' I a (f 0) 0 es.size ep→(∀p∈ob,h'.get? p.1=some p.2∧s.heap.objs.size≤p.1∧p.1≠I)→(∀b o,s.heap.get? b=some o→h'.get? b=some o)→
  I<h'.objs.size→(∀p∈ob,p.1<h'.objs.size)→Q (.ref I) {s with heap:=h',drawn:=d'}):
 wpAny (model prog w) A (pyIter (.ref a)) Q E s:=by
 have hT:s.TypeIs (.ref a) "set":=⟨_,ho,rfl⟩;refine FF hT DE (AT DE hT FS.entry_set_iter ?_ (Gh _));unfold Builtin.«frozenset.__iter__» Gi FU;refine Aa (Aa (m:=slotArgs _ _ _) (Ac (Ac ?_)));refine Aa (Aa (CZ ho rfl hf (Ac ?_)));dsimp only;rw[VT];refine Aa (Aa (AN ho rfl hf (Aa (LD (Ac ?_)))));by_cases hd:(!Jc w && (!t.plain && decide (es.size>1)))=true
 · rw[if_pos hd];have hd':Jc w=false∧1<es.size:=by
    simp only[AX,Dl,decide_eq_true_eq] at hd;exact⟨hd.1,hd.2.2⟩
   refine Aa (QI _ _ _ (by simp) λys d' hy=>?_);refine Aa (Eu ?_ (by rw[Ab,hy.length_eq,BF];exact hz));have ho2:(s.heap.push {cls:= .type "tuple",data:= .seq (ys.map λ(i:Nat)=>rawInt i).toArray}).get? a=some {cls:= .type "set",dict:=none,data:= .set es ep t}:=Ad _ ho;refine Aa (E2 (s:={s with drawn:=d',heap:=s.heap.push {cls:= .type "tuple",data:= .seq (ys.map λ(i:Nat)=>rawInt i).toArray}}) ho2 rfl hf ?_)
   refine Aa (Bo (Ac ⟨_,rfl,"set_iterator",_,⟨_,Al _ rfl,rfl⟩,FS.slot_si_next.lookup,?_⟩));refine hQ _ d' _ _ _ _ (.drawn s.heap.objs.size ys hd'.1 hy hd'.2) ?_ (Al _ rfl) (λp hp=>?_) (λb o e=>Ad _ (Ad _ e)) ?_ (λp hp=>?_)
   · rw[AS];exact CD _
   · rw[Ak] at hp;subst hp;exact⟨Ad _ (Al _ rfl),Af _,by rw[AS];exact An (BX _)⟩
   · simp only[AS];omega
   · rw[Ak] at hp;subst hp;show s.heap.objs.size<_;simp only[AS];omega
 · rw[if_neg hd];refine Aa (Ac ?_);refine Aa (E2 ho rfl hf ?_);refine Aa (Bo (Ac ⟨_,rfl,"set_iterator",_,⟨_,Al _ rfl,rfl⟩,FS.slot_si_next.lookup,?_⟩));cases hb:Jc w with
   | true=> exact hQ _ s.drawn _ _ _ _ (.text hb) (Af _) (Al _ rfl) (λp hp=>nomatch hp) (λb o e=>Ad _ e) (by rw[AS];exact BX _) (λp hp=>nomatch hp)
   | false=>
    refine hQ _ s.drawn _ _ _ _ (.few hb ?_) (Af _) (Al _ rfl) (λp hp=>nomatch hp) (λb o e=>Ad _ e) (by rw[AS];exact BX _) (λp hp=>nomatch hp);rcases hp with h | h
    · omega
    · simp[hb,h] at hd;exact hd
def Pp(w:World)(I a:Addr)(es:Array (Int×Value))(ep:Nat)(t:A0)(f:Nat→Value)(ob:List (Addr×Obj))(i:Nat)(h:Heap):Prop:=
 Na h I a (f i) i es.size ep∧h.get? a=some {cls:= .type "set",dict:=none,data:= .set es ep t}∧∀p∈ob,h.get? p.1=some p.2
theorem Vy(p:Nat):AI #[p] 0=0∧AI #[p] (p+1)=1:=by
 constructor
 · simp[AI,E3]
 · simp[AI,E3]
theorem Mh{I:Addr}{first x:Value}{ep k:Nat}(hi:Na h I a first i n ep)(f:Array Value→Array Value):
 (h.update I (DU f)).get? I=some {cls:= .type "set_iterator",dict:=none,data:= .fields (f #[first,.int i 0,.ref a,.int n 0,.int ep 0])}:=by
 have:=Bz (DU f) hi rfl;exact this
set_option maxHeartbeats 1000000 in
theorem zj7{I a:Addr}{es:Array (Int×Value)}{ep:Nat}{t:A0}{f:Nat→Value}{vs:List Value}{ob:List (Addr×Obj)}{i:Nat}{v:Value}{Q:Option Value→Shared→Prop}
 (hO:SOrd w a es ep t f vs ob) (hf:t.fits es.size=true) (hl:t.led=!Jc w) (hne:a≠I) (hob:∀p∈ob,p.1≠I) (hS:Pp w I a es ep t f ob i s.heap) (hv:vs[i]?=some v)
 (hQ:∀h',Pp w I a es ep t f ob (i+1) h'→BO I s.heap h'→Q (some v) {s with heap:=h'}):
 wpAny (model prog w) A (pyNext (.ref I)) Q E s:=by
 obtain⟨hi,ha,hbs⟩:=hS;have hT:s.TypeIs (.ref I) "set_iterator":=⟨_,hi,rfl⟩;unfold pyNext;refine Aa (Dj (Bn (name:=C6 "__next__") hT FS.slot_si_next
  (AT FS.slot_si_next hT FS.entry_si_next ?_ (FS.args_si_next _))))
 unfold Builtin.«set_iterator.__next__»;refine Aa (m:=slotArgs _ _ _) (Ac ?_);dsimp only;refine Aa (Fh hi rfl ?_);dsimp only;refine Aa (CZ ha rfl hf ?_);rw[if_neg (by simp)];have hil:i<vs.length:=(Au.mp hv).1;have fin:∀(first:Value)(h':Heap),BO I s.heap h'→Na h' I a (f (i+1)) (i+1) es.size ep→Q (some v) {s with heap:=h'}:=λfirst h' sb hi'=> hQ h' ⟨hi',by rw[sb.2 a hne];exact ha,λp hp=>by rw[sb.2 p.1 (hob p hp)];exact hbs p hp⟩ sb
 cases hO with
 | drawn T places h0 hp h2=>
  dsimp only;have hTt:=hbs _ (Ak.mpr rfl);refine Aa (Ba hTt rfl ?_);have hpl:places.length=es.size:=by rw[hp.length_eq,BF]
  have hall:∀p∈places,p<es.size:=λp hm=>by simpa using hp.mem_iff.mp hm
  have hfm:∀(l:List Nat),(∀p∈l,p<es.size)→(l.filterMap λp=>(es[p]?).map (·.2))=l.map λp=>(es.getD p (0,.none)).2:=by
   intro l
   induction l with
   | nil=>intro _;rfl
   | cons q l ih=> intro hq;have hq0:q<es.size:=hq q (by simp);have h1:es[q]?=some es[q]:=AL hq0;rw[DV,h1,AC,←ih λp hm=>hq p (by simp[hm])];simp[FI,hq0]
  rw[hfm places hall,Am] at hv;cases hpi:places[i]? with
  | none=>rw[hpi] at hv;cases hv
  | some pl=>
   rw[hpi] at hv;have hlt:pl<es.size:=hall pl (Av hpi);have hvv:v=es[pl].2:=by have:(es.getD pl (0,.none)).2=v:=AD hv;rw[←this];simp[FI,hlt]
   have hpi':(places.map λ(i:Nat)=>rawInt i).toArray[i]?=some (.int pl 0):=by rw[GF,Am,hpi];rfl
   show wpAny _ _ (match(places.map λ(i:Nat)=>rawInt i).toArray[(i:Int).toNat]? with | some (.int place _)=>_ | some _=>_ | none=>_) _ _ _
   rw[AU,hpi'];dsimp only;unfold setNextDrawn;refine Aa (Aa (AN ha rfl hf ?_));dsimp only;rw[if_neg (by simp)];rw[AU,AL hlt];dsimp only;refine Ac ?_;refine Aa (BU hi rfl (by simp) ?_);refine Ac ⟨_,rfl,Ac ?_⟩;rw[←hvv];exact fin v _ (AJ ..) (Mh (x:=v) (k:=0) hi _)
 | text h0=>
  show wpAny _ _ (setNext a 0 (i:Int).toNat (ep:Int).toNat>>=_) _ _ _;rw[M_,AU,AU];refine Aa (Aa (AN ha rfl hf (Aa (LD ?_))));rw[if_pos h0];dsimp only;rw[if_neg (by simp)];unfold setWalk;refine Aa (Aa (AN ha rfl hf (Aa (LD ?_))));rw[if_pos h0];refine Aa (Dd (Ac (Ac ?_)));rw[Am,A7] at hv;cases hpk:(pickOrder (w.params.setOrder a ep) es)[i]? with
  | none=>rw[hpk] at hv;cases hv
  | some e=>
   rw[hpk] at hv;show wpAny _ _ (match((pickOrder (w.params.setOrder a ep) es)[i]?).map λe=>(e.2,0) with | some (x,next)=>_ | none=>_) _ _ _
   rw[hpk];have hvv:e.2=v:=AD hv;dsimp only[Option.map];refine Aa (BU hi rfl (by simp) ?_);have hi1:=Mh (x:=v) (k:=0) hi (·.setIfInBounds 0 (rawInt (0:Nat)));refine Aa (BU (s:={s with heap:=s.heap.update I (DU (·.setIfInBounds 0 (rawInt (0:Nat))))}) hi1 rfl (by simp) ?_)
   refine Ac ⟨_,rfl,Ac ?_⟩;rw[hvv];refine fin v _ ((AJ ..).trans (AJ ..)) ?_;exact Mh (x:=v) (k:=0) (i:=i) (first:=rawInt 0) (n:=es.size) (ep:=ep) (a:=a) (by exact hi1) _
 | few h0 h2=>
  have hi0:i=0:=by rw[Ab,Ah] at hil;omega
  subst hi0;have hsz:es.size=1:=by rw[Ab,Ah] at hil;omega
  show wpAny _ _ (setNext a 0 (0:Int).toNat (ep:Int).toNat>>=_) _ _ _;rw[M_,AU];refine Aa (Aa (AN ha rfl hf (Aa (LD ?_))));rw[if_neg (by rw[h0];simp)];dsimp only;rw[if_neg (by simp[hsz])];rw[hl,h0];refine Aa (m:=ite _ _ _) ?_;rw[if_neg (by simp)];refine Ac ?_;obtain⟨p,hpp⟩:∃p,t.place=#[p]:=by
   have h1:t.place.size=1:=by simp only[ED,AX,beq_iff_eq] at hf;rw[hf.1,hsz]
   generalize t.place=tp at h1;obtain⟨pl⟩:=tp;cases pl with
   | nil=>simp at h1
   | cons p r=>cases r with
    | nil=>exact⟨p,rfl⟩
    | cons q r=>simp at h1
  obtain⟨⟨eh,ev⟩,hes⟩:∃e,es=#[e]:=by
   obtain⟨el⟩:=es;cases el with
   | nil=>simp at hsz
   | cons p r=>cases r with
    | nil=>exact⟨p,rfl⟩
    | cons q r=>simp at hsz
  subst hes;have hvv:ev=v:=by simpa using hv
  subst hvv;rw[hpp,(Vy p).1];refine Ac ?_;show wpAny _ _ (setField (.ref I) 0 (rawInt ((p+1:Nat):Int))>>=_) _ _ _;refine Aa (BU hi rfl (by simp) ?_);have hi1:=Mh (x:=ev) (k:=0) hi (·.setIfInBounds 0 (rawInt ((p+1:Nat):Int)));refine Aa (BU (s:={s with heap:=s.heap.update I (DU (·.setIfInBounds 0 (rawInt ((p+1:Nat):Int))))}) hi1 rfl (by simp) ?_)
  refine Ac ⟨_,rfl,Ac ?_⟩;refine fin ev _ ((AJ ..).trans (AJ ..)) ?_;have:=Mh (x:=ev) (k:=0) (i:=0) (first:=rawInt ((p+1:Nat):Int)) (n:=1) (ep:=ep) (a:=a) (by exact hi1) (·.setIfInBounds 1 (rawInt ((0:Nat)+1:Int)))
  rw[hpp];exact this
theorem OJ{h1:Heap}{I:Addr}{P:Fin→Shared→Prop}{Q:Option Value→Shared→Prop}(hh:A.handled=none)(sb:BO I s.heap h1)(hQ:∀h',G1 I s.heap h'→Q none {s with heap:=h'}):
 wpAny (model prog w) A.in1 (newExc (.type "StopIteration") []>>=λx=>raiseNew x) P
  (λe s'=>wpAny (model prog w) A (do if ←isInstance e (.type "StopIteration") then pure none else throw e) Q E s') {s with heap:=h1}:=by
 refine Aa ?_;simp only[newExc,newTuple];refine Aa (Bo ?_ (by size_fits));refine Aa (m:=firstArgMember _ _) (G2 (a:=Value.none) (by first | rfl | (simp only[firstArgMember];rfl)) ?_)
 refine Bo ?_ (by size_fits);simp only[raiseNew];refine Aa (wpAny_handled ?_);rw[show A.in1.handled=none from hh];refine Aa (Ac (wpAny_throw ?_));refine Aa (Da (T:="StopIteration") (b:=true) ⟨_,Al _ rfl,rfl⟩ isSubtype_stop ?_);exact Ac (hQ _ ((sb.extBut.push _).push _))
set_option maxHeartbeats 1000000 in
theorem Z2{I a:Addr}{es:Array (Int×Value)}{ep:Nat}{t:A0}{f:Nat→Value}{vs:List Value}{ob:List (Addr×Obj)}{Q:Option Value→Shared→Prop}(hh:A.handled=none)
 (hO:SOrd w a es ep t f vs ob) (hf:t.fits es.size=true) (hl:t.led=!Jc w) (hne:a≠I) (hob:∀p∈ob,p.1≠I) (hS:Pp w I a es ep t f ob es.size s.heap)
 (hQ:∀h',G1 I s.heap h'→Q none {s with heap:=h'}):
 wpAny (model prog w) A (pyNext (.ref I)) Q E s:=by
 obtain⟨hi,ha,hbs⟩:=hS;have hT:s.TypeIs (.ref I) "set_iterator":=⟨_,hi,rfl⟩;unfold pyNext;refine Aa (Dj (Bn (name:=C6 "__next__") hT FS.slot_si_next
  (AT FS.slot_si_next hT FS.entry_si_next ?_ (FS.args_si_next _))))
 unfold Builtin.«set_iterator.__next__»;refine Aa (m:=slotArgs _ _ _) (Ac ?_);dsimp only;refine Aa (Fh hi rfl ?_);dsimp only;refine Aa (CZ ha rfl hf ?_);rw[if_neg (by simp)];cases hO with
 | drawn T places h0 hp h2=>
  dsimp only;have hTt:=hbs _ (Ak.mpr rfl);refine Aa (Ba hTt rfl ?_);have hpl:places.length=es.size:=by rw[hp.length_eq,BF]
  have hpi':(places.map λ(i:Nat)=>rawInt i).toArray[es.size]?=none:=by rw[GF,Am,C5 (by omega)];rfl
  show wpAny _ _ (match(places.map λ(i:Nat)=>rawInt i).toArray[(es.size:Int).toNat]? with | some (.int place _)=>_ | some _=>_ | none=>_) _ _ _
  rw[AU,hpi'];dsimp only;refine Aa (BU hi rfl (by simp) ?_);have hi1:=Mh (x:= .none) (k:=0) hi (·.setIfInBounds 0 (rawInt 0));refine Aa (BU (s:={s with heap:=s.heap.update I (DU (·.setIfInBounds 0 (rawInt 0)))}) hi1 rfl (by simp) ?_)
  exact OJ (s:=s) (I:=I) hh ((AJ ..).trans (AJ ..)) hQ
 | text h0=>
  show wpAny _ _ (setNext a 0 (es.size:Int).toNat (ep:Int).toNat>>=_) _ _ _;rw[M_,AU,AU];refine Aa (Aa (AN ha rfl hf (Aa (LD ?_))));rw[if_pos h0];dsimp only;rw[if_neg (by simp)];unfold setWalk;refine Aa (Aa (AN ha rfl hf (Aa (LD ?_))));rw[if_pos h0];refine Aa (Dd (Ac (Ac ?_)));have hpk:(pickOrder (w.params.setOrder a ep) es)[es.size]?=none:=by have h1:=(Vq (w.params.setOrder a ep) es).length_eq;rw[Ah,Ah] at h1;exact CH (by omega)
  show wpAny _ _ (match((pickOrder (w.params.setOrder a ep) es)[es.size]?).map λe=>(e.2,0) with | some (x,next)=>_ | none=>_) _ _ _
  rw[hpk];dsimp only[Option.map];refine Aa (BU hi rfl (by simp) ?_);exact OJ (s:=s) (I:=I) hh (AJ ..) hQ
 | few h0 h2=>
  show wpAny _ _ (setNext a (if es.size=0 then(0:Int) else(t.place.getD 0 0:Int)+1).toNat (es.size:Int).toNat (ep:Int).toNat>>=_) _ _ _
  rw[M_,AU];refine Aa (Aa (AN ha rfl hf (Aa (LD ?_))));rw[if_neg (by rw[h0];simp)];dsimp only;rw[if_neg (by simp;intro _;omega)];rw[hl,h0];refine Aa (m:=ite _ _ _) ?_;rw[if_neg (by simp)];refine Ac ?_;have hps:t.place.size=es.size:=by simp only[ED,AX,beq_iff_eq] at hf;exact hf.1
  have hnone:es[AI t.place (if es.size=0 then(0:Int) else(t.place.getD 0 0:Int)+1).toNat]?=none:=by
   generalize t.place=tp at hps;obtain⟨pl⟩:=tp;cases pl with
   | nil=>
    have:es.size=0:=by simpa using hps.symm
    exact CH (by omega)
   | cons p r=>
    cases r with
    | nil=>
     have h1:es.size=1:=by simpa using hps.symm
     rw[if_neg (by omega)];have:((([p].toArray).getD 0 0:Nat):Int)+1=((p+1:Nat):Int):=rfl;rw[this,AU,(Vy p).2];exact CH (by omega)
    | cons q r=>
     have:es.size=r.length+2:=by simpa using hps.symm
     omega
  rw[hnone];refine Ac ?_;show wpAny _ _ (setField (.ref I) 2 .none>>=_) _ _ _;refine Aa (BU hi rfl (by simp) ?_);exact OJ (s:=s) (I:=I) hh (AJ ..) hQ
theorem Vv{I:Addr}{first:Value}{ep:Nat}{Q:Value→Shared→Prop}(hi:Na s.heap I a first i n ep)(h:Q (.ref I) s):wpAny (model prog w) A (pyIter (.ref I)) Q E s:=by have hT:s.TypeIs (.ref I) "set_iterator":=⟨_,hi,rfl⟩;refine FF hT FS.slot_si_iter (AT FS.slot_si_iter hT FS.entry_si_iter ?_ (FS.args_si_iter _));show wpAny _ _ (ret (.ref I)) _ _ s;exact Ac ⟨_,rfl,"set_iterator",_,hT,FS.slot_si_next.lookup,h⟩
theorem OO{prog:Bw}{w:World}{I a:Addr}{es:Array (Int×Value)}{ep:Nat}{t:A0}{f:Nat→Value}{vs:List Value}{ob:List (Addr×Obj)}(hh:A.handled=none)
 (hO:SOrd w a es ep t f vs ob) (hf:t.fits es.size=true) (hl:t.led=!Jc w) (hne:a≠I) (hob:∀p∈ob,p.1≠I):
 Walks prog w A I (I::a::ob.map (·.1)) [I] es.size (λi v=>vs[i]?=some v) (Pp w I a es ep t f ob) where
 sub:=λb hb=>by simp at hb;simp[hb]
 frame:=λi h h' st hk=>⟨hk I (by simp) _ st.1,hk a (by simp) _ st.2.1,λp hp=>hk p.1 (by simp;exact .inr (.inr ⟨p.2,hp⟩)) _ (st.2.2 p hp)⟩
 item:=λi s Q E hi st hQ=>by
  have hlen:vs.length=es.size:=by rw[hO.perm.length_eq,Ab,Ah]
  refine zj7 hO hf hl hne hob st (v:=vs[i]'(by omega)) (AK (by omega)) λh' st' sb=>?_;exact hQ _ h' s.toks (AK (by omega)) st' λb o hb e=>sb.extBut b o (λh=>hb (by simp[h])) e
 done:=λs Q E st hQ=>Z2 hh hO hf hl hne hob st λh' he'=>hQ h' s.toks λb o hb e=>he' b o (λh=>hb (by simp[h])) e
 self:=λ_ _ _ _ st hQ=>Vv st.1 hQ
namespace FS
theorem set_len:typeLookup (.type "set") "__len__"=pure (some (.builtin "set.__len__")):=by rw[typeLookup_type,builtinLookup_eq_fast];kernel_rfl
theorem split_set_len:splitId "set.__len__"=some ("set","__len__"):=by decide+kernel
end FS
theorem V8{Q:Bool→Shared→Prop}(hT:s.TypeIs (.ref a) "set")(h:Q false s):wpAny (model prog w) A (Dh (.ref a)) Q E s:=by
 unfold Dh;refine Aa (BV hT FS.set_len ?_);dsimp only;generalize So:("set.__len__":String)=id0;rw[show splitId id0=some ("set","__len__") from by subst So;exact FS.split_set_len]
 subst So;dsimp only;refine Aa (Da (b:=true) hT sub_set_self ?_);simp only[Ce,Ay,if_false];refine Aa (C7 hT (Ac h))
set_option maxHeartbeats 1000000 in
theorem zgK{ks:List Str}{Q:List Value→Shared→Prop}(hh:A.handled=none)(T:TxSet prog w s.heap a ks)
 (hQ:∀h' d' tk vs js,StrsAre vs js→js.Perm ks→s.heap.objs.size<h'.objs.size→(∀b o,s.heap.get? b=some o→h'.get? b=some o)→Q vs {s with heap:=h',drawn:=d',toks:=tk}):
 wpAny (model prog w) A (collect (.ref a)) Q E s:=by
 obtain⟨⟨es,ep,t,ho,hel,hks,hf,hled,hpl⟩,hnd,hfew⟩:=T;have hsz:es.size=ks.length:=by rw[←NH hks,Ab,Ah]
 have haS:a<s.heap.objs.size:=Ag ho;unfold collect;refine Aa (Fg (Br Fl ?_));rw[AY Fm _];show wpAny _ A.in1 (newList []>>=λl=>again (.builtin "list.__iadd__" ⟨[l,.ref a],[]⟩)) _ _ s;refine Aa (Bo ?_);refine Ac ⟨BW Dz _,Br Gj ?_⟩;rw[AY Dz _];generalize hh1:s.heap.push {cls:= .type "list",data:= .seq ([]:List Value).toArray}=h1;have hk1:∀b o,s.heap.get? b=some o→h1.get? b=some o:=λb o e=>by rw[←hh1];exact Ad _ e
 have hS1:h1.get? s.heap.objs.size=some {cls:= .type "list",data:= .seq ([]:List Value).toArray}:=by rw[←hh1];exact Al _ rfl
 have hz1:s.heap.objs.size<h1.objs.size:=Ag hS1;show wpAny _ A.in1 (BI (.ref s.heap.objs.size) (.ref a) (.ref s.heap.objs.size)) _ _ {s with heap:=h1}
 unfold BI;have hT1:EC {s with heap:=h1} (.ref a) "set":=⟨_,hk1 _ _ ho,rfl⟩
 refine Aa (C7 hT1 ?_);have e1:CB (.ref s.heap.objs.size) (.ref a)=false:=by unfold CB;exact beq_eq_false_iff_ne.mpr (Bi (An haS))
 rw[if_neg (by rw[e1];decide)];refine Aa (ZO (s:={s with heap:=h1}) (hk1 _ _ ho) hf hpl (by rw[hsz];exact fits_of_scanBound hfew) λh2 d2 I f vs ob hO hI hi hob hk2 hI2 hob2=>?_)
 refine Aa (AF (V8 (s:={s with heap:=h2,drawn:=d2}) ⟨_,hk2 _ _ (hk1 _ _ ho),rfl⟩ ?_))
 rw[if_pos (by decide)];refine Aa (Cm ?_);have hS2:h2.get? s.heap.objs.size=some {cls:= .type "list",data:= .seq ([]:List Value).toArray}:=hk2 _ _ hS1;refine Aa ?_;show wpAny _ A.in1 (updateSeq s.heap.objs.size (·.push .none)>>=λ_=>updateSeq s.heap.objs.size (·.pop)) _ _ {s with heap:=h2,drawn:=d2}
 refine Aa (CT hS2 rfl ?_);have hS3:=Bz (A_ (·.push Value.none)) hS2 rfl;refine CT hS3 rfl ?_;have hS4:=Bz (A_ (·.pop)) hS3 rfl;have oth:∀b o,b≠s.heap.objs.size→h2.get? b=some o→((h2.update s.heap.objs.size (A_ (·.push Value.none))).update s.heap.objs.size (A_ (·.pop))).get? b=some o:=
  λb o hb e=>(BG _ _ (Bi hb)).trans ((BG _ _ (Bi hb)).trans e)
 have hIne:I≠s.heap.objs.size:=Bi (An (A8 hz1 hI));have hane:a≠I:=An (A8 haS (AM (AZ hz1) hI));have hobne:∀p∈ob,p.1≠s.heap.objs.size:=λp hp=>Bi (An (A8 hz1 (hob p hp).2.1));have W:=(OO (prog:=prog) (A:=A.in1) (by simpa using hh) hO hf hled hane (λp hp=>(hob p hp).2.2)).toS;have hlen:vs.length=es.size:=by rw[hO.perm.length_eq,Ab,Ah]
 obtain⟨js,hjs,hjp⟩:=Rm hO.perm hks;refine Ac ⟨BW Cj _,codeAny_extend_loopS W (by rw[hsz];exact fits_of_scanBound hfew) s.heap.objs.size ?_ _ es.size 0 _ _ _ rfl (Bc _)
  ⟨oth _ _ hIne hi,oth _ _ (An haS) (hk2 _ _ (hk1 _ _ ho)),λp hp=>oth _ _ (hobne p hp) (hob p hp).1⟩ hS4 (ItemsOf.nil _) λs' acc' c' hm hS' hacc=>?_⟩
 · intro hmem;rw[Ar,Ar,Ax] at hmem;rcases hmem with h | h | ⟨p,hp,h⟩
   · exact hIne h.symm
   · exact An haS h.symm
   · exact hobne p hp h
 · show wpAny _ A (load s.heap.objs.size>>=_) _ _ s';refine Aa (wpAny_load hS' ?_);have hav:acc'.toList=vs:=by
    apply List.ext_getElem?;intro j;by_cases hj:j<es.size
    · have hj':j<acc'.size:=by rw[hacc.1];exact hj
      have h1:acc'.toList[j]?=some acc'[j]:=by rw[A7];exact AL hj'
      rw[h1];exact(hacc.2 j _ (AL hj')).symm
    · rw[C5 (by rw[Ah,hacc.1];omega),C5 (by omega)]
   obtain⟨h',g',d',tk',os'⟩:=s';have eg:g'=s.gens:=hm.gens;have ed:d'=d2:=hm.drawn;have eo:os'=s.os:=hm.os;subst eg;subst ed;subst eo;refine Ac ?_;rw[hav];refine hQ h' d' tk' vs js hjs hjp (Ag hS') λb o e=>?_;have hb:b<s.heap.objs.size:=Ag e;refine hm.heap b o ?_ (oth b o (An hb) (hk2 _ _ (hk1 _ _ e)));have h0:h1.objs.size≤I:=hI;simp only[Ar,A6,or_false,not_or];exact⟨An hb,An (A8 hb (AM (AZ hz1) hI))⟩
theorem zg5{ks:List Str}{Q:Value→Shared→Prop}(hh:A.handled=none)(T:TxSet prog w s.heap a ks)(h64:ks.length<64)
 (h:∀(p:Addr)(h':Heap)(d':Drawn)(tk:Nat)(out:Array Value)(ms:List Str)(e:Nat),StrsAre out.toList ms→ms.Perm ks→sortedS ms=true→s.heap.objs.size≤p→h'.get? p=some (BD "list" out e)→
  (∀b o,s.heap.get? b=some o→h'.get? b=some o)→Q (.ref p) {s with heap:=h',drawn:=d',toks:=tk}):
 wpAny (model prog w) A (call (.builtin "sorted") [.ref a]) Q E s:=by
 refine Eb kind_sorted plain_sorted entry_sorted (args_sorted1 _) ?_;unfold FV;refine Aa (m:=checkCount "sorted" 1 1 _) (Ac ?_);refine Aa (zgK (by simpa using hh) T λh1 d1 tk1 vs js hv hp hz hk=>?_);have hvl:vs.length=ks.length:=by rw[NH hv,hp.length_eq]
 refine Aa (Fx ?_ (by rw[sizeLine_eq];omega));have hoL:(h1.push (BD "list" vs.toArray 0)).get? h1.objs.size=some (BD "list" vs.toArray 0):=Al _ rfl;show wpAny _ _ (holding _ _>>=_) _ _ {s with heap:=h1.push (BD "list" vs.toArray 0),drawn:=d1,toks:=tk1}
 refine Aa (AF (AT GG ⟨_,hoL,rfl⟩ Gu (list_sort_treeK strKind_oneLt hoL hv.keysOf (λv₁ v₂ rest e=>keyKind_strs (by rw[←e];exact hv)) (by omega) λst' a1 a2=>⟨_,rfl,?_⟩) (args_list_sort _)));obtain⟨ms,m1,m2,m3⟩:=sorted_out_str hv a1 a2;obtain⟨e,he⟩:=sortedHeap_at (out:=(arrOf st').map (·.2)) hoL;refine Ac ⟨_,rfl,h h1.objs.size _ d1 tk1 _ ms e m1 (m2.trans hp) m3 (AZ hz) he λb o eb=>?_⟩
 · have hb:b<h1.objs.size:=Ag (hk b o eb);rw[sortedHeap_old (An hb) (by rw[size_push'];exact Ca hb)];exact Ad _ (hk b o eb)
section
variable{te:TE}{pos p2 p3 p4:Pos}
def Zl(K:Ae)(te:TE):TE:=λσ H Q=>te σ H λx H1=>∃(a:Addr)(ts:List Str),[x]=[V.ref a]∧SqL K H1 a (ts.map V.str)∧ts.length<64∧
 ∀(p:Addr)(ms:List Str),ms.Nodup→(∀x,x∈ms↔x∈ts)→ms.length≤ts.length→sortedS ms=true→H1 p=none→Q (.ref p) (IU H1 p (.lst (ms.map V.str)))
theorem ziO(hc:X.calm=true)(he:PE X e te)(hg:Gl X "sorted")(hm:X.mg "sorted"=none)(hg2:Gl X "set")(hm2:X.mg "set"=none)
 (h1:A9 [e] X.env=(false,eval e X.env)::A9 [] X.env:=by rfl)
 (h2:A9 [.Call (.Name "set" p2) [e] [] p3] X.env=(false,eval (.Call (.Name "set" p2) [e] [] p3) X.env)::A9 [] X.env:=by rfl)
 (h3:(backTo p3 (A9 [] X.env)).any (·.1)=false:=by rfl) (h4:(backTo pos (A9 [] X.env)).any (·.1)=false:=by rfl):
 PE X (.Call (.Name "sorted" p4) [.Call (.Name "set" p2) [e] [] p3] [] pos) (Zl X.K te):=by
 intro pins s σ H Q I h;refine Bq (K2 I hg hm OE ?_ (by decide) (by decide));refine Cy ?_ h2 h4;rw[h2];show wpAny _ _ (spliced ((false,eval (.Call (.Name "set" p2) [e] [] p3) X.env)::backTo pos (A9 [] X.env))) _ _ s;refine CK ?_;refine Bq (K2 I hg2 hm2 Tc ?_ (by decide) (by decide));refine Bp (I_ (IS he IT h1 p3 pins s σ H (λvs H1=>∃(a:Addr)(ts:List Str),vs=[.ref a]∧SqL X.K H1 a (ts.map V.str)∧ts.length<64∧
  ∀(p:Addr)(ms:List Str),ms.Nodup→(∀x,x∈ms↔x∈ts)→ms.length≤ts.length→sortedS ms=true→H1 p=none→Q (.ref p) (IU H1 p (.lst (ms.map V.str)))) I ?_) λus s1 ⟨vs,H1,I1,r1,a,ts,hv,hq,hn,q⟩=>?_) h1 h3
 · exact h
 subst hv;obtain⟨u1,rfl,v1⟩:=KC r1;cases v1;obtain⟨its,rv,ht,hz⟩:=I1.list hq;refine zfQ (I1.ok.hd hc) ht.isList (ts:=ts) (by simpa using QU rv) (by unfold Eo;omega) λh' tk ks hT hl hmem kp=>?_;have I2:Inv X pins σ H1 {s1 with heap:=h',toks:=tk}:=I1.kept λb o e=>kp b o (Ag e) e
 refine CV ?_;refine zg5 (s:={s1 with heap:=h',toks:=tk}) (I1.ok.hd hc) hT (by omega) λp h2 d2 tk2 out ms ee a1 a2 a3 a4 a5 a6=>?_
 have hn1:H1 p=none:=I2.hok.fresh a4;have I3:Inv X pins σ H1 {s1 with heap:=h',drawn:=d2,toks:=tk}:=⟨I2.ok,I2.os,I2.bare,I2.base,I2.loc,I2.cell,I2.free,I2.freeC,I2.pin,I2.hok,I2.len⟩
 refine⟨.ref p,IU H1 p (.lst (ms.map V.str)),I3.laid (t':=tk2) a6 a4 ?_,rfl,q p ms (a2.nodup_iff.mpr hT.nodup) (λx=>(a2.mem_iff).trans (hmem x)) (by rw[a2.length_eq];exact hl) a3 hn1⟩;have hlen:ms.length≤ts.length:=by rw[a2.length_eq];exact hl
 exact⟨by rw[Ab,sizeLine_eq];omega,out.toList,ee,Rn a1,by simpa [BD] using a5⟩
end
theorem zfK:typeLookup (.type "tuple") "keys"=pure none:=by rw[typeLookup_type,builtinLookup_eq_fast];kernel_rfl
set_option maxHeartbeats 4000000 in
theorem zg2{prog:Bw}{w:World}{A:Cw}{E:Value→Shared→Prop}{a:Addr}{its:Array Value}{n:Nat}{sl:Array (Option Value)}{h:Heap}{g d t os}{Q:Option Value→Shared→Prop}
 (hh:A.handled=none) (hx:h.get? a=some {cls:= .type "tuple",dict:=none,data:= .seq its n,slots:=sl})
 (q:∀h' tk,(∀b o,h.get? b=some o→h'.get? b=some o)→Q none ⟨h',g,d,tk,os⟩):wpAny (model prog w) A (getAttr? (.ref a) "keys") Q E ⟨h,g,d,t,os⟩:=by
 have y0:∀tk',(⟨h,g,d,tk',os⟩:Shared).TypeIs (.ref a) "tuple":=λ_=>⟨_,hx,rfl⟩;have y1:=sub_AttributeError;have y2:=F.slot_tuple_getattribute.lookup;have y3:=F.slot_tuple_getattribute.bind (.ref a);have y4:=am_tuple_getattr_none;unfold getAttr? getAttrBy? getAttrBy
 repeat (any_goals (first
  | assumption
  | exact y0 _
  | ((with_reducible show wpAny _ _ (call (Value.builtin "tuple.__getattribute__") _ _) _ _ _)
     refine call_meets F.slot_tuple_getattribute (y0 _) am_entry_tuple_getattribute (F.args_tuple_getattribute_2 _ _) (meets_getattribute_miss_tuple a its n sl "keys" _ zfK (by decide+kernel)) ⟨hx,hh,λh' tk' e hx'=>?_⟩)
  | wp_step))
 obtain⟨t',u',he⟩:=hx'.there;show wpAny _ _ (getattributeRaised _ _ _ _ _ _ _) _ _ _;unfold getattributeRaised
 repeat (any_goals (first | assumption | wp_step))
 exact q _ _ hx'.keeps
theorem Q7:mroOf (.type "dict")=pure [.type "dict",.type "object"]:=by rw[mroOf_type];kernel_rfl
theorem zhC:typeLookup (.type "dict") "__new__"=pure (some (.builtin "dict.__new__")):=by rw[typeLookup_type,builtinLookup_eq_fast];kernel_rfl
theorem zjk:isSubtype (.type "dict") (.type "dict")=pure true:=by rw[isSubtype_type];kernel_rfl
theorem zgN:TypeCalled "dict" "dict.__new__" "dict.__init__":=
 ⟨by decide+kernel,by decide+kernel,⟨_,_,Q7⟩,madeBy_type Q7 zhC (by decide+kernel),by decide+kernel,by rw[isSubtype_type];kernel_rfl,PySem.F.slot_dict_init⟩
theorem zg3(a:Value):checkTypeCall "dict" ⟨[a],[]⟩=pure ():=by kernel_rfl
theorem zhz(a:Value):checkBuiltinCall "dict.__new__" ⟨[.type "dict",a],[]⟩=pure ():=by kernel_rfl
theorem zgF:entryFor table "dict.__new__"=some Builtin.«dict.__new__»:=FT (by kernel_rfl)
theorem VS:plainId "dict.__new__"=true:=by decide+kernel
theorem Wn:entryFor table "dict.update.loop"=some Builtin.«dict.update.loop»:=FT (by kernel_rfl)
theorem Pb:plainId "dict.update.loop"=true:=by decide+kernel
theorem ZT(a:Value){Q₁:Value→Shared→Prop}(h:Q₁ (.ref s.heap.objs.size) {s with heap:=s.heap.push {cls:= .type "dict",data:= .dict #[]}}):
 codeAny (model prog w) A (.call (.builtin "dict.__new__") ⟨[.type "dict",a],[]⟩) (wants Q₁ E) s:=by
 refine D5 ?_;show wpAny _ A.in1 (checkBuiltinCall "dict.__new__" ⟨[.type "dict",a],[]⟩>>=λ_=>again (.builtin "dict.__new__" ⟨[.type "dict",a],[]⟩)) _ _ s;refine Aa (G2 (zhz a) (Ac ⟨BW VS _,Br zgF ?_⟩));rw[AY VS _];have y1:=zjk;have y2:=Q7;obtain⟨hp,g,d,tk,os⟩:=s
 wp_walk
 exact h
structure Pr(P:Bw)(w:World)where
 k:Jq
 key:Value
 v:Value
 p:Addr
 is:(K5 P w).is k key=true
theorem SE{d it t:Addr}{vs:Array Value}{R:Result→Shared→Prop}(hh:A.handled=none)(dt:d≠t)(di:d≠it)(ti:t≠it):∀(rest:List (Pr prog w))(i:Nat)(kvs:List (Jq×Value))(s:Shared),
 s.heap.IsTupleIter it t i→s.heap.IsTuple t vs→vs.toList.drop i=rest.map (λr=> .ref r.p)→(∀r∈rest,s.heap.IsTuple r.p #[r.key,r.v]∧r.p≠d∧r.p≠it)→s.heap.DictOf (K5 prog w) d kvs→kvs.length+rest.length≤Az→
 (∀h' tk,h'.DictOf (K5 prog w) d (rest.foldl (λacc r=>stored acc r.k r.v) kvs)→(∀b o,b≠d→b≠it→s.heap.get? b=some o→h'.get? b=some o)→R (.ok (.ret .none)) {s with heap:=h',toks:=tk})→
 codeAny (model prog w) A (.builtin "dict.update.loop" ⟨[.ref d,.ref it,rawInt i,.none],[]⟩) R s
 | [],i,kvs,s,h1,h2,h3,h4,h5,h6,q=>by
  refine Br Wn ?_;rw[AY Pb _];show wpAny _ _ (pyNext (.ref it)>>=_) _ _ _;have hv:vs[i]?=none:=by have:vs.toList.length≤i:=List.drop_eq_nil_iff.mp h3;rw[Array.getElem?_eq_none_iff];simpa using this
  refine Aa (Gy (A:=A.in1) hh h1 h2 hv λh' eb=>?_);show wpAny _ _ (Builtin.Dict.addKeywords d []>>=λ_=>ret .none) _ _ _;refine Aa (Ac (Ac ?_));exact q h' _ (h5.extBut eb di) (λb o hb hb2 e=>eb b o hb2 e)
 | r::rest,i,kvs,s,h1,h2,h3,h4,h5,h6,q=>by
  refine Br Wn ?_;rw[AY Pb _];show wpAny _ _ (pyNext (.ref it)>>=_) _ _ _;have hl:i<vs.toList.length:=by
   rcases Nat.lt_or_ge i vs.toList.length with z | z
   · exact z
   · rw[G7 z] at h3;cases h3
  have hv:vs[i]?=some (.ref r.p):=by
   rw[FJ hl,AC] at h3;injection h3 with e1 e2
   rw[←e1];simp at hl ⊢
  have h3':vs.toList.drop (i+1)=rest.map (λr=> .ref r.p):=by rw[FJ hl,AC] at h3;injection h3
  obtain⟨hp,pd,pi⟩:=h4 r (Ai ..);refine Aa (Gc h1 h2 hv λh' st' sb=>?_);have hp':h'.IsTuple r.p #[r.key,r.v]:=hp.extBut sb.extBut pi;show wpAny _ _ (holding [.ref r.p] _>>=_) _ _ _;refine Aa (AF (Aa (wpAny_tryCatch ?_)));obtain⟨ob,e1,e2,nn,e3⟩:=hp';unfold Builtin.Dict.pairItems;refine Aa (C7 (s:={s with heap:=h'}) ⟨ob,e1,e2⟩ ?_);rw[if_pos (by decide)];refine Aa (Ba (s:={s with heap:=h'}) e1 e3 (Ac ?_));show wpAny _ _ (holding [r.key,r.v] (dictSet d r.key r.v)) _ _ _;refine AF (wpAny_dictSet_pairs (s:={s with heap:=h'}) (knd:=K5 prog w) r.is (h5.extBut sb.extBut di) (λh2' hd2 sb2=>?_) (by rw[AA] at h6;omega));refine Ac ⟨BW Pb _,?_⟩;have ks:(stored kvs r.k r.v).length≤kvs.length+1:=by
   unfold stored
   split
   · rw[Ab];omega
   · rw[A5,BB];omega
  have:=SE (R:=R) hh dt di ti rest (i+1) (stored kvs r.k r.v) {s with heap:=h2',toks:=s.toks+1} (st'.extBut sb2.extBut di.symm) ((h2.extBut sb.extBut ti).extBut sb2.extBut dt.symm) h3'
   (λr' hr'=>by obtain⟨a1,a2,a3⟩:=h4 r' (Aj _ hr');exact⟨(a1.extBut sb.extBut a3).extBut sb2.extBut a2,a2,a3⟩) hd2 (by rw[AA] at h6;omega)
   (λh3 tk a1 a2=>q h3 tk a1 (λb o hb hb2 e=>a2 b o hb hb2 (sb2.extBut b o hb (sb.extBut b o hb2 e))))
  exact this
def Ya:List V→Hp→VK→Prop:=λxs H Q=>∃(a:Addr)(prs:List (Addr×Jq×V)),xs=[.ref a]∧H a=some (.tup (prs.map λp=>V.ref p.1))∧(∀p∈prs,H p.1=some (.tup [kV p.2.1,p.2.2]))∧
 ∀d,H d=none→Q (.ref d) (IU H d (.dK (prs.foldl (λacc p=>Jv acc p.2.1 p.2.2) [])))
theorem SK(ok:HOk P w H h):∀prs:List (Addr×Jq×V),(∀p∈prs,H p.1=some (.tup [kV p.2.1,p.2.2]))→
 ∃rs:List (Pr P w),rs.map (λr=>r.p)=prs.map (·.1)∧(∀r∈rs,h.IsTuple r.p #[r.key,r.v])∧∀(kvs:List (Jq×V))(vs:List (Jq×Value)),KV kvs vs→KV (prs.foldl (λacc p=>Jv acc p.2.1 p.2.2) kvs) (rs.foldl (λacc r=>stored acc r.k r.v) vs)
 | [],_=>⟨[],rfl,λr hr=>by simp at hr,λkvs vs r=>r⟩
 | p::prs,hp=>by
  obtain⟨rs,e1,e2,e3⟩:=SK ok prs (λq hq=>hp q (Aj _ hq));obtain⟨_,its,r,tp⟩:=(show ObjOk P w H h p.1 (.tup [kV p.2.1,p.2.2]) from ok p.1 _ (hp p (Ai ..)));obtain⟨u1,u2,rfl,r1,r2⟩:=M2 r;refine⟨⟨p.2.1,u1,u2,p.1,Nn r1⟩::rs,by rw[AC,AC,e1],λq hq=>?_,λkvs vs rv=>?_⟩
  · rcases Ar.mp hq with rfl | hq
    · exact tp.tup
    · exact e2 q hq
  · rw[Ec,Ec];exact e3 _ _ (rv.put p.2.1 r2)
theorem zi7(hc:X.calm=true):Ko X (.type "dict") Ya:=by
 intro pins s σ H xs us Q I r h;obtain⟨a,prs,rfl,ha,hp,q⟩:=h;obtain⟨u,rfl,rx⟩:=KC r;cases rx;obtain⟨zl,its,rv,o,e1,e2,e3,n,e4⟩:=(show ObjOk X.prog X.w H s.heap a (.tup (prs.map λp=>V.ref p.1)) from I.hok a _ ha);obtain⟨oc,od,odat,osl⟩:=o;cases e2;cases e3;cases e4;have hh:=I.ok.hd hc;have sz:s.heap.objs.size≠a:=AV (Ag e1);refine callType_codes (Q₁:=λobj s₁=>obj= .ref s.heap.objs.size∧s₁={s with heap:=s.heap.push {cls:= .type "dict",data:= .dict #[]}}) zgN (zg3 _) PySem.F.entry_dict_init (ZT _ ⟨rfl,rfl⟩) λobj s₁ h₁=>?_
 obtain⟨rfl,rfl⟩:=h₁;have I1:=I.laid (a:=s.heap.objs.size) (o:= .dK []) (h':=s.heap.push {cls:= .type "dict",data:= .dict #[]}) (t':=s.toks) (λ_ _ q=>Ad _ q) (Af _) (UG s.heap I.big);have hD:(s.heap.push {cls:= .type "dict",data:= .dict #[]}).get? s.heap.objs.size=some {cls:= .type "dict",data:= .dict #[]}:=Al _ rfl;refine⟨⟨_,hD,rfl⟩,PySem.F.args_dict_init_2 _ _,?_⟩;have hT:EC {s with heap:=s.heap.push {cls:= .type "dict",data:= .dict #[]}} (.ref s.heap.objs.size) "dict":=⟨_,hD,rfl⟩;have hA:(s.heap.push {cls:= .type "dict",data:= .dict #[]}).get? a=some {cls:= .type "tuple",dict:=none,data:= .seq its.toArray n,slots:=osl}:=Ad _ e1;unfold Builtin.«dict.__init__» Builtin.Dict.selfAndRest;refine Aa (Aa (wpAny_notOrdered_dict hT (Ac ?_)));show wpAny _ _ (Gk "dict.__init__" s.heap.objs.size (.ref a) [] .none) _ _ _;unfold Gk;refine Aa (C7 (s:={s with heap:=s.heap.push {cls:= .type "dict",data:= .dict #[]}}) ⟨_,hA,rfl⟩ ?_);rw[if_pos (by decide)];obtain⟨rs,r1,r2,r3⟩:=SK I.hok prs hp;have hits:its=rs.map (λr=>Value.ref r.p):=by
  have e:∀(l:List (Addr×Jq×V))(m:List Value),Vals (l.map λp=>V.ref p.1) m→m=(l.map (·.1)).map Value.ref:=by
   intro l
   induction l with
   | nil=>intro m q;cases q;rfl
   | cons p l ih=>
    intro m q;cases q with
    | cons q1 q2=>cases q1;rw[ih _ q2];rfl
  rw[e prs its rv,←r1,BY];rfl
 have hlen:rs.length=prs.length:=by have:=congrArg CP r1;simpa using this
 rw[Ab] at zl;have hsys:=I.big;obtain⟨hp0,g,dr,tk0,os⟩:=s;refine Aa (zg2 (A:=X.A.in1.in1) hh hA λh' tk kp=>?_);simp only[Option.isNone_none,if_true];have kp0:∀b o,hp0.get? b=some o→h'.get? b=some o:=λb o e=>kp b o (Ad _ e);have I2:Inv X pins σ (IU H hp0.objs.size (.dK [])) ⟨h',g,dr,tk,os⟩:=I1.kept (t':=tk) kp;have hA':h'.IsTuple a its.toArray:=⟨_,kp _ _ hA,rfl,_,rfl⟩;have dlt:hp0.objs.size<h'.objs.size:=Ag (kp _ _ hD);have alt:a<h'.objs.size:=Ag (kp _ _ hA);refine Aa (Cm (Aa (Ek (s:=⟨h',g,dr,tk,os⟩) hA' (Ac ⟨BW Pb _,?_⟩))));obtain⟨zd,hd,vs0,rk0,dd⟩:=SD I2.hok (show(IU H hp0.objs.size (.dK [])) hp0.objs.size=some (.dK []) from IX);cases rk0;refine SE (A:=X.A.in1) hh sz (An dlt) (An alt) rs 0 [] _ ⟨_,Al _ rfl,rfl,rfl⟩ (FD hA' _) ?_ ?_ (dd.push _) ?_ ?_
 · rw[Fi,←hits]
 · intro r hr;have t0:=r2 r hr;have plt:r.p<hp0.objs.size:=by
    obtain⟨o,e,_⟩:=t0;exact Ag e
   exact⟨FD (t0.at λo e=>kp0 _ o e) _,An plt,An (Cu plt dlt)⟩
 · rw[hlen];simpa using zl
 · intro h2 tk2 hd2 k2;have k3:∀b u,b≠hp0.objs.size→h'.get? b=some u→h2.get? b=some u:=λb u hb e=>k2 b u hb (An (Ag e)) (Ad _ e);have he:∃q,h2.get? hp0.objs.size=some q:=let⟨q,_,_,hq,_⟩:=hd2;⟨q,hq⟩;have hz:(prs.foldl (λacc p=>Jv acc p.2.1 p.2.2) []).length≤Az:=by
    have len:∀(l:List (Addr×Jq×V))(acc:List (Jq×V)),(l.foldl (λacc p=>Jv acc p.2.1 p.2.2) acc).length≤acc.length+l.length:=by
     intro l
     induction l with
     | nil=>intro acc;exact Af _
     | cons p l ih=> intro acc;rw[Ec,AA];have h1:=ih (Jv acc p.2.1 p.2.2);have h2:=Rq acc p.2.1 p.2.2;omega
    have:=len prs [];simp at this;omega
   have I3:=I2.write (x:=hp0.objs.size) (e:=hp0.objs.size) (o:= .dK (prs.foldl (λacc p=>Jv acc p.2.1 p.2.2) [])) (t':=tk2) (by rw[IX];exact True.intro) (.inl rfl) k3 he (Tf hz hd (r3 [] [] .nil) hd2);rw[YF] at I3;exact⟨rfl,.ref hp0.objs.size,_,I3,rfl,q _ (I.hok.fresh (Af _))⟩
namespace FS
end FS
section
variable{κ:Type}[DecidableEq κ]{knd:PySem.KeyKind prog w κ}
end
open PySem.W PyProof.Rows
namespace KS
def JW{α:Type}(lt:Nat→Nat→Bool)(n:Nat):KasT α→(α→Prop)→Prop
 | .ret a,Q=>Q a
 | .ask i j k,Q=>i<n∧j<n∧JW lt n (k (lt i j)) Q
variable{lt:Nat→Nat→Bool}{N:Nat}
theorem MX{α β:Type}{f:α→KasT β}{Q:β→Prop}:∀(t:KasT α),JW lt N t (λa=>JW lt N (f a) Q)→JW lt N (t.bind f) Q
 | .ret _,h=>h
 | .ask _ _ k,⟨h1,h2,h⟩=>⟨h1,h2,MX (k _) h⟩
theorem Lk{α:Type}{Q Q':α→Prop}(hq:∀a,Q a→Q' a):∀(t:KasT α),JW lt N t Q→JW lt N t Q'
 | .ret a,h=>hq a h
 | .ask _ _ k,⟨h1,h2,h⟩=>⟨h1,h2,Lk hq (k _) h⟩
structure Ord(lt:Nat→Nat→Bool):Prop where
 as:∀a b,lt a b=true→lt b a=false
 tr:∀a b c,lt b a=false→lt c b=false→lt c a=false
theorem Ord.rfl'(O:Ord lt)(a:Nat):lt a a=false:=by
 cases h:lt a a with
 | false=>rfl
 | true=>exact(O.as a a h).symm.trans h ▸ rfl
abbrev K(p:Array Nat)(i:Nat):Nat:=p.getD i 0
structure Ok(N:Nat)(p:Array Nat):Prop where
 perm:p.toList.Perm (AG N)
theorem Ok.size{p:Array Nat}(h:Ok N p):p.size=N:=by have:=h.perm.length_eq;simpa using this
theorem Ok.below{p:Array Nat}(h:Ok N p)(hi:i<N):K p i<N:=by
 have hs:i<p.size:=by rw[h.size];exact hi
 have:p.getD i 0=p[i]:=by simp[FI,hs]
 show p.getD i 0<N;rw[this];have m:p[i]∈p.toList:=by simp
 exact Be.mp (h.perm.mem_iff.mp m)
theorem Ok.of_perm{p q:Array Nat}(h:Ok N p)(e:q.Perm p):Ok N q:=⟨(Array.perm_iff_toList_perm.mp e).trans h.perm⟩
theorem Ok.rev{p:Array Nat}(h:Ok N p)(i j:Nat):Ok N (kas_rev p i j):=h.of_perm (mirror_perm _ _ _ _)
theorem Ok.bub{p:Array Nat}(h:Ok N p)(i j:Nat):Ok N (bubble p i j):=h.of_perm (bubble_perm _ _ _)
theorem Ly{p q:Array Nat}{j:Nat}(h:p[i]?=q[j]?):K p i=K q j:=by show p.getD i 0=q.getD j 0;rw[AW,AW,h]
theorem Pw{p:Array Nat}(h:Ok N p){j:Nat}(hj:j≤N)(k:Nat):K (kas_rev p i j) k=if i≤k∧k<j then K p (i+j - 1 - k) else K p k:=by
 have e:=getElem?_mirror_all (xs:=p) (i:=i) (j:=j) (by rw[h.size];exact hj) k
 split
 · rename_i c;rw[if_pos c] at e;exact Ly e
 · rename_i c;rw[if_neg c] at e;exact Ly e
theorem SJ{p:Array Nat}(h:Ok N p){k l:Nat}(hk:k<N)(hl:l≤k)(i:Nat):K (bubble p k (k - l)) i=if i=l then K p k else if l<i∧i≤k then K p (i - 1) else K p i:=by
 have e:=getElem?_bubble (xs:=p) (src:=k) (by rw[h.size];exact hk) (k - l) (by omega) i;have e1:k - (k - l)=l:=by omega
 rw[e1] at e
 split
 · rename_i c;rw[if_pos c] at e;exact Ly e
 · rename_i c;rw[if_neg c] at e
   split
   · rename_i d;rw[if_pos d] at e;exact Ly e
   · rename_i d;rw[if_neg d] at e;exact Ly e
def Srt(lt:Nat→Nat→Bool)(p:Array Nat)(m:Nat):Prop:=∀i j,i<j→j<m→lt (K p j) (K p i)=false
def Dsc(lt:Nat→Nat→Bool)(p:Array Nat)(m:Nat):Prop:=∀i j,i<j→j<m→lt (K p i) (K p j)=false
def Eqv(lt:Nat→Nat→Bool)(a b:Nat):Prop:=lt a b=false∧lt b a=false
theorem Eqv.symm{a b:Nat}(h:Eqv lt a b):Eqv lt b a:=⟨h.2,h.1⟩
theorem Ord.refl(O:Ord lt)(a:Nat):Eqv lt a a:=⟨O.rfl' a,O.rfl' a⟩
theorem Ord.eqv_trans(O:Ord lt){a b c:Nat}(h:Eqv lt a b)(h':Eqv lt b c):Eqv lt a c:=⟨O.tr c b a h'.1 h.1,O.tr a b c h.2 h'.2⟩
theorem Ord.via(O:Ord lt){a b a' b':Nat}(h1:Eqv lt a a')(h2:Eqv lt b b')(h:lt a' b'=false):lt a b=false:=
 O.tr b b' a h2.symm.1 (O.tr b' a' a h h1.1)
theorem PM(O:Ord lt){p:Array Nat}(h:Ok N p):∀(f n:Nat),1≤n→n+f≤N→Srt lt p n→
 JW lt N (kas_asc p f n) (λm=>n≤m∧m≤n+f∧Srt lt p m∧(m<n+f→lt (K p m) (K p (m - 1))=true))
 | 0,n,_,_,s=>⟨Af _,Af _,s,λz=>absurd z (by omega)⟩
 | f+1,n,h1,h2,s=>by
  refine⟨h.below (by omega),h.below (by omega),?_⟩;cases c:lt (p.getD n 0) (p.getD (n - 1) 0) with
  | true=>exact⟨Af _,by omega,s,λ_=>c⟩
  | false=>
   show JW lt N (kas_asc p f (n+1)) _;refine Lk (λm hm=>?_) _ (PM O h f (n+1) (by omega) (by omega) ?_)
   · obtain⟨a1,a2,a3,a4⟩:=hm;exact⟨by omega,by omega,a3,λz=>a4 (by omega)⟩
   · intro i j hij hj;by_cases hjn:j<n
     · exact s i j hij hjn
     · obtain rfl:j=n:=by omega
       by_cases hi:i=j - 1
       · subst hi;exact c
       · exact O.tr _ (K p (j - 1)) _ (s i (j - 1) (by omega) (by omega)) c
theorem Qa(O:Ord lt){p:Array Nat}(h:Ok N p){j:Nat}(hj:j≤N)(he:∀k,i≤k→k<j→Eqv lt (K p k) (K p (j - 1)))(k:Nat):Eqv lt (K (kas_rev p i j) k) (K p k):=by
 rw[Pw h hj]
 split
 · rename_i c;exact O.eqv_trans (he _ (by omega) (by omega)) (he k c.1 c.2).symm
 · exact O.refl _
theorem Dsc.eqv(O:Ord lt){p q:Array Nat}{m:Nat}(h:Dsc lt p m)(e:∀k,Eqv lt (K q k) (K p k)):Dsc lt q m:=λi j hij hj=>O.via (e i) (e j) (h i j hij hj)
def SA(lt:Nat→Nat→Bool)(p:Array Nat)(m q:Nat):Prop:=∀i,m - (q+1)≤i→i<m→Eqv lt (K p i) (K p (m - 1))
theorem Dsc.snoc(O:Ord lt){p:Array Nat}(h1:1≤n)(s:Dsc lt p n)(c:lt (K p (n - 1)) (K p n)=false):Dsc lt p (n+1):=by
 intro i j hij hj;by_cases hjn:j<n
 · exact s i j hij hjn
 · obtain rfl:j=n:=by omega
   by_cases hi:i=j - 1
   · subst hi;exact c
   · exact O.tr _ (K p (j - 1)) _ c (s i (j - 1) (by omega) (by omega))
theorem O9(O:Ord lt):∀(f:Nat)(p:Array Nat)(n q:Nat),Ok N p→q+1≤n→n+f≤N→Dsc lt p n→SA lt p n q→
 JW lt N (kas_desc f p n q) (λr=>Ok N r.1∧n≤r.2.1∧r.2.1≤n+f∧Dsc lt r.1 r.2.1∧SA lt r.1 r.2.1 r.2.2∧r.2.2+1≤r.2.1)
 | 0,p,n,q,h,h1,h2,s,e=>⟨h,Af _,Af _,s,e,h1⟩
 | f+1,p,n,q,h,h1,h2,s,e=>by
  refine⟨h.below (by omega),h.below (by omega),?_⟩;cases c:lt (p.getD n 0) (p.getD (n - 1) 0) with
  | true=>
   have c':lt (K p (n - 1)) (K p n)=false:=O.as _ _ c;have s':=s.snoc O (by omega) c';show JW lt N (if q>0 then kas_desc f (kas_rev p (n - (q+1)) n) (n+1) 0 else kas_desc f p (n+1) 0) _
   have t1:∀p',SA lt p' (n+1) 0:=λp' i hi1 hi2=>by
    obtain rfl:i=n:=by omega
    exact O.refl _
   split
   · refine Lk (λm hm=>?_) _ (O9 O f (kas_rev p (n - (q+1)) n) (n+1) 0 (h.rev _ _) (by omega) (by omega) (s'.eqv O (Qa O h (by omega) e)) (t1 _));obtain⟨a1,a2,a3,a4⟩:=hm;exact⟨a1,by omega,by omega,a4⟩
   · refine Lk (λm hm=>?_) _ (O9 O f p (n+1) 0 h (by omega) (by omega) s' (t1 _));obtain⟨a1,a2,a3,a4⟩:=hm;exact⟨a1,by omega,by omega,a4⟩
  | false=>
   show JW lt N (KasT.ask (p.getD (n - 1) 0) (p.getD n 0) λd=>if d=true then KasT.ret (p,n,q) else kas_desc f p (n+1) (q+1)) _
   refine⟨h.below (by omega),h.below (by omega),?_⟩;cases d:lt (p.getD (n - 1) 0) (p.getD n 0) with
   | true=>exact⟨h,Af _,by show n≤n+(f+1);omega,s,e,h1⟩
   | false=>
    show JW lt N (kas_desc f p (n+1) (q+1)) _;refine Lk (λm hm=>?_) _ (O9 O f p (n+1) (q+1) h (by omega) (by omega) (s.snoc O (by omega) d) ?_)
    · obtain⟨a1,a2,a3,a4⟩:=hm;exact⟨a1,by omega,by omega,a4⟩
    · intro i hi1 hi2;have en:Eqv lt (K p (n - 1)) (K p n):=⟨d,c⟩;by_cases hin:i=n
      · subst hin;exact O.refl _
      · exact O.eqv_trans (e i (by omega) (by omega)) en
theorem Uy(O:Ord lt){p:Array Nat}{nrem:Nat}(h:Ok N p)(h1:1≤n)(h2:n≤nrem)(h3:nrem≤N)(s:Dsc lt p n):
 JW lt N (kas_tail3 n nrem p) (λr=>Ok N r.2∧1≤r.1∧r.1≤nrem∧Srt lt r.2 r.1):=by
 unfold kas_tail3;refine MX _ (Lk (λm hm=>?_) _ (PM O (h.rev 0 n) (nrem - n) n h1 (by omega) ?_))
 · obtain⟨a1,a2,a3,_⟩:=hm;exact⟨h.rev 0 n,by show 1≤m;omega,by show m≤nrem;omega,a3⟩
 · intro i j hij hj;rw[Pw h (by omega),Pw h (by omega),if_pos (by omega),if_pos (by omega)];exact s _ _ (by omega) (by omega)
theorem VR(O:Ord lt){p:Array Nat}{nrem:Nat}(h:Ok N p)(h1:1≤n)(h2:n+1≤nrem)(h3:nrem≤N)(s:Dsc lt p (n+1)):
 JW lt N (kas_descPart n nrem p) (λr=>Ok N r.2∧1≤r.1∧r.1≤nrem∧Srt lt r.2 r.1):=by
 unfold kas_descPart;refine MX _ (Lk (λr hr=>?_) _ (O9 O (nrem - (n+1)) p (n+1) 0 h (by omega) (by omega) s λi i1 i2=>?_))
 · obtain⟨a1,a2,a3,a4,a5,a6⟩:=hr
   split
   · exact Uy O (a1.rev _ _) (by omega) (by omega) h3 (a4.eqv O (Qa O a1 (by omega) a5))
   · exact Uy O a1 (by omega) (by omega) h3 a4
 · obtain rfl:i=n:=by omega
   exact O.refl _
theorem Zs(O:Ord lt){p:Array Nat}{nrem:Nat}(h:Ok N p)(h1:1≤nrem)(h3:nrem≤N):
 JW lt N (kas_count nrem p) (λr=>Ok N r.2∧1≤r.1∧r.1≤nrem∧Srt lt r.2 r.1):=by
 unfold kas_count;refine MX _ (Lk (λn hn=>?_) _ (PM O h (nrem - 1) 1 (Af _) (by omega) λi j hij hj=>absurd hj (by omega)));obtain⟨a1,a2,a3,a4⟩:=hn
 split
 · exact⟨h,a1,by show n≤nrem;omega,a3⟩
 · rename_i ne;have hlt:n<nrem:=by
    have:n≠nrem:=λz=>ne (by rw[z];simp);omega
   have c:=a4 (by omega);have c':=O.as _ _ c
   split
   · refine⟨h.below (by omega),h.below (by omega),?_⟩;cases d:lt (p.getD 0 0) (p.getD (n - 1) 0) with
     | true=>exact⟨h,a1,by show n≤nrem;omega,a3⟩
     | false=>
      show JW lt N (kas_descPart n nrem (kas_rev p 0 n)) _;have al:∀k,0≤k→k<n→Eqv lt (K p k) (K p (n - 1)):=by
       intro k _ hk;have u1:lt (K p (n - 1)) (K p k)=false:=by
        by_cases z:k=n - 1
        · subst z;exact O.rfl' _
        · exact a3 k (n - 1) (by omega) (by omega)
       have u0:lt (K p k) (K p 0)=false:=by
        by_cases z:k=0
        · subst z;exact O.rfl' _
        · exact a3 0 k (by omega) hk
       exact⟨O.tr _ (K p 0) _ d u0,u1⟩
      refine VR O (h.rev 0 n) a1 (by omega) h3 ?_;have dn:Dsc lt p n:=λi j hij hj=>O.via (al i (by omega) (by omega)) (al j (by omega) hj) (O.rfl' _);exact(dn.snoc O a1 c').eqv O (Qa O h (by omega) al)
   · refine VR O h a1 (by omega) h3 ?_;refine Dsc.snoc O a1 (λi j hij hj=>absurd hj (by omega)) c'
theorem Qp(O:Ord lt){p:Array Nat}(h:Ok N p){k:Nat}(hk:k<N)(s:Srt lt p k):∀(f l r:Nat),l≤r→r≤k→r - l≤f→(∀i,i<l→lt (K p k) (K p i)=false)→(∀i,r≤i→i<k→lt (K p k) (K p i)=true)→
 JW lt N (kas_place p k f l r) (λL=>L≤k∧(∀i,i<L→lt (K p k) (K p i)=false)∧∀i,L≤i→i<k→lt (K p k) (K p i)=true)
 | 0,l,r,h1,h2,h3,a,b=>by
  obtain rfl:l=r:=by omega
  exact⟨h2,a,b⟩
 | f+1,l,r,h1,h2,h3,a,b=>by
  unfold kas_place
  split
  · obtain rfl:l=r:=by omega
    exact⟨h2,a,b⟩
  · refine⟨h.below hk,h.below (by omega),?_⟩;cases c:lt (p.getD k 0) (p.getD ((l+r) / 2) 0) with
    | true=>
     show JW lt N (kas_place p k f l ((l+r) / 2)) _;refine Qp O h hk s f l _ (by omega) (by omega) (by omega) a λi i1 i2=>?_;cases d:lt (K p k) (K p i) with
     | true=>rfl
     | false=>
      have:lt (K p k) (K p ((l+r) / 2))=false:=by
       by_cases z:i=(l+r) / 2
       · rw[←z];exact d
       · exact O.tr _ (K p i) _ (s _ _ (by omega) i2) d
      rw[show lt (K p k) (K p ((l+r) / 2))=true from c] at this;cases this
    | false=>
     show JW lt N (kas_place p k f ((l+r) / 2+1) r) _;refine Qp O h hk s f _ r (by omega) h2 (by omega) (λi hi=>?_) b;by_cases z:i=(l+r) / 2
     · rw[z];exact c
     · exact O.tr _ (K p ((l+r) / 2)) _ (s _ _ (by omega) (by omega)) c
theorem S_(O:Ord lt):∀(f:Nat)(p:Array Nat)(k:Nat),Ok N p→k+f≤N→1≤k→Srt lt p k→JW lt N (kas_bin f p k) (λq=>Ok N q∧Srt lt q (k+f))
 | 0,p,k,h,_,_,s=>⟨h,s⟩
 | f+1,p,k,h,h1,h2,s=>by
  unfold kas_bin;refine MX _ (Lk (λl hl=>?_) _ (Qp O h (by omega) s k 0 k (by omega) (Af _) (by omega) (λi hi=>absurd hi (by omega)) λi i1 i2=>absurd i2 (by omega)));obtain⟨l1,a,b⟩:=hl;have e:k+1+f=k+(f+1):=by omega
  rw[←e];refine S_ O f _ (k+1) (h.bub k (k - l)) (by omega) (by omega) λi j hij hj=>?_;rw[SJ h (by omega) l1,SJ h (by omega) l1];by_cases jl:j=l
  · rw[if_pos jl,if_neg (by omega),if_neg (by omega)];exact a i (by omega)
  · rw[if_neg jl];by_cases jm:l<j∧j≤k
    · rw[if_pos jm];by_cases il:i=l
      · rw[if_pos il];exact O.as _ _ (b (j - 1) (by omega) (by omega))
      · rw[if_neg il];by_cases im:l<i∧i≤k
        · rw[if_pos im];exact s _ _ (by omega) (by omega)
        · rw[if_neg im];exact s _ _ (by omega) (by omega)
    · rw[if_neg jm,if_neg (by omega),if_neg (by omega)];exact s _ _ hij (by omega)
theorem sort_ok(O:Ord lt)(h1:1≤N):JW lt N (kas_sort N) (λq=>Ok N q∧Srt lt q N):=by
 unfold kas_sort;refine MX _ (Lk (λr hr=>?_) _ (Zs O (p:=(AG N).toArray) ⟨by simp⟩ h1 (Af _)));obtain⟨a1,a2,a3,a4⟩:=hr
 split
 · have e:max r.1 1=r.1:=by omega
   rw[e];refine Lk (λq hq=>?_) _ (S_ O (N - r.1) r.2 r.1 a1 (by omega) a2 a4);rw[show r.1+(N - r.1)=N by omega] at hq;exact hq
 · have e:r.1=N:=by omega
   rw[e] at a4;exact⟨a1,a4⟩
open PySem in
theorem sat_wp{α:Type}{cmp:Nat→Nat→(Bool→Shared→Prop)→Shared→Prop}{Q:α→Prop}{G:α→Shared→Prop}(hc:∀i j C,i<N→j<N→C (lt i j) s→cmp i j C s)(hq:∀a,Q a→G a s):
 ∀t:KasT α,JW lt N t Q→t.kasWp cmp G s
 | .ret a,h=>hq a h
 | .ask i j k,⟨h1,h2,h⟩=>hc i j _ h1 h2 (sat_wp hc hq (k _) h)
end KS
end L2
set_option maxHeartbeats 1000000
namespace L2
open PySem PySem.Spec PyProof.Rows PySem.W
def M1(vs:List Value)(p:Array Nat):Array Value:=(p.toList.map λi=>vs.getD i Value.none).toArray
theorem Wq{vs:List Value}{P:PySem.Fin→Shared→Prop}{κ:SortKind}{lt:Nat→Nat→Bool}(O:KS.Ord lt)(ho:s.heap.get? a=some (BD "list" vs.toArray n))(h64:vs.length<64)
 (hk:2≤vs.length→∀h':Heap,(∀b o,b≠a→s.heap.get? b=some o→h'.get? b=some o)→∀Q:SortKind→Shared→Prop,Q κ {s with heap:=h'}→wpAny (model prog w) A (keyKind' vs.toArray) Q E {s with heap:=h'})
 (hc:∀h':Heap,(∀b o,b≠a→s.heap.get? b=some o→h'.get? b=some o)→∀i j,i<vs.length→j<vs.length→∀C:Bool→Shared→Prop,C (lt i j) {s with heap:=h'}→
  wpAny (model prog w) A (keyLt' κ (vs.getD i Value.none) (vs.getD j Value.none)) C (λ_ _=>False) {s with heap:=h'})
 (h:∀p:Array Nat,KS.Ok vs.length p→KS.Srt lt p vs.length→P (.done (.ret .none)) {s with heap:=sortedHeap s.heap a vs (M1 vs p)}):
 wpAny (model prog w) A (Builtin.«list.sort» ⟨[.ref a],[]⟩) P E s:=by
 rw[list_sort_plain];have ha:a<s.heap.objs.size:=Ag ho;refine Aa (listItems_at ho rfl ?_);refine Aa (listUpdate_at ho rfl ?_ (by rw[Aw,sizeLine_eq];omega) (Bc _));obtain⟨e1,ho1⟩:∃e1,(s.heap.update a (A_ λ_=>#[])).get? a=some (BD "list" #[] e1):=⟨_,get?_update_seq ho (λ_=>#[])⟩;refine Aa (seqEpoch_at ho1 rfl ?_);refine Aa (Eu ?_ (by show vs.length≤_;rw[sizeLine_eq];omega));refine Aa (Fx ?_ (Bc _));refine AF ?_;have ho6:(((s.heap.update a (A_ λ_=>#[])).push (BD "tuple" vs.toArray 0)).push (BD "list" #[] 0)).get? a=some (BD "list" #[] e1):=by rw[Do _ _ _ (by rw[size_push',DP];exact An (Ca ha)),Do _ _ _ (by rw[DP];exact An ha)];exact ho1
 have kept:∀b o,b≠a→s.heap.get? b=some o→(((s.heap.update a (A_ λ_=>#[])).push (BD "tuple" vs.toArray 0)).push (BD "list" #[] 0)).get? b=some o:=λb o hb q=>by have hlt:=Ag q;rw[Do _ _ _ (by rw[size_push',DP];exact An (Ca hlt)),Do _ _ _ (by rw[DP];exact An hlt),GZ _ _ _ _ hb];exact q
 show wpAny (model prog w) A _ P E {s with heap:=((s.heap.update a (A_ λ_=>#[])).push (BD "tuple" vs.toArray 0)).push (BD "list" #[] 0)}
 dsimp only;have hsz:vs.toArray.size=vs.length:=by simp
 by_cases h2:vs.toArray.size<2
 · rw[if_pos h2,if_pos h2];refine Aa (Ac ?_);rw[StateT.run_pure];refine Aa (Ac ?_);dsimp only;refine Aa (seqEpoch_at ho6 rfl ?_);refine Aa (listUpdate_at ho6 rfl ?_ (hsz2:=by rw[DF];show(pairsOf vs).size≤_;rw[pairsOf_size,sizeLine_eq];omega));simp only[bne_self_eq_false,Ay,if_false];have hp:=h (AG vs.length).toArray ⟨by simp⟩ (λi j hij hj=>absurd hj (by rw[hsz] at h2;omega));have e:(arrOf (SortSt.mk' general' (vs.toArray.zip vs.toArray) #[] 7 none)).map (·.2)=M1 vs (AG vs.length).toArray:=by
    have e1:=kas_range (vs.toArray.zip vs.toArray);have e2:(vs.toArray.zip vs.toArray).size=vs.length:=by simp
    rw[e2] at e1;exact kat_snds (ks:=vs) rfl (st:=SortSt.mk' general' (vs.toArray.zip vs.toArray) #[] 7 none) (p:=(AG vs.length).toArray) e1.symm
   refine Ac ?_;show P _ {s with heap:=sortedHeap s.heap a vs ((arrOf (SortSt.mk' general' (vs.toArray.zip vs.toArray) #[] 7 none)).map (·.2))}
   rw[e];exact hp
 · rw[if_neg h2,if_neg h2];rw[hsz] at h2;refine Aa (hk (by omega) _ kept _ ?_);have tree:(kas_sort vs.length).kasWp (kas_ask prog w A κ vs) (λp s'=>s'={s with heap:=((s.heap.update a (A_ λ_=>#[])).push (BD "tuple" vs.toArray 0)).push (BD "list" #[] 0)}∧KS.Ok vs.length p∧KS.Srt lt p vs.length)
    {s with heap:=((s.heap.update a (A_ λ_=>#[])).push (BD "tuple" vs.toArray 0)).push (BD "list" #[] 0)}:=
    KS.sat_wp (λi j C hi hj hC=>hc _ kept i j hi hj C hC) (λp hp=>⟨rfl,hp⟩) _ (KS.sort_ok O (by omega))
   refine Aa (AB (kat_run (Q:=λst' s'=>∃p:Array Nat,p.size=vs.length∧arrOf st'=p.map (kas_item (vs.toArray.zip vs.toArray))∧failedOf st'=none∧s'={s with heap:=((s.heap.update a (A_ λ_=>#[])).push (BD "tuple" vs.toArray 0)).push (BD "list" #[] 0)}∧KS.Ok vs.length p∧KS.Srt lt p vs.length)
    rfl (by omega) h64 (λp' st' s' a1 a2 a3 a4=>⟨p',a1,a2,a3,a4⟩) tree) ?_ λ_ _ e=>e)
   rintro⟨⟨⟩,st'⟩ s' ⟨p,hp,har,hf,rfl,ok,srt⟩;dsimp only;have hout:=kat_snds rfl har;refine Aa (seqEpoch_at ho6 rfl ?_);refine Aa (listUpdate_at ho6 rfl ?_ (hsz2:=by rw[hout];show(p.toList.map λi=>vs.getD i Value.none).length≤_;rw[Ab,Ah,hp,sizeLine_eq];omega));rw[hf];simp only[bne_self_eq_false,Ay,if_false];rw[hout];exact Ac (h p ok srt)
theorem zjz{l:Addr}{vs:List Value}{Q:Value→Shared→Prop}{κ:SortKind}{lt:Nat→Nat→Bool}(O:KS.Ord lt)(hl:s.heap.IsList l vs.toArray)(h64:vs.length<64)
 (hk:2≤vs.length→∀h':Heap,(∀b o,s.heap.get? b=some o→h'.get? b=some o)→∀(A:Cw)(E:Value→Shared→Prop)(Q:SortKind→Shared→Prop),Q κ {s with heap:=h'}→wpAny (model prog w) A (keyKind' vs.toArray) Q E {s with heap:=h'})
 (hc:∀h':Heap,(∀b o,s.heap.get? b=some o→h'.get? b=some o)→∀i j,i<vs.length→j<vs.length→∀C:Bool→Shared→Prop,C (lt i j) {s with heap:=h'}→
  wpAny (model prog w) A.in1.in1 (keyLt' κ (vs.getD i Value.none) (vs.getD j Value.none)) C (λ_ _=>False) {s with heap:=h'})
 (h:∀p:Array Nat,KS.Ok vs.length p→KS.Srt lt p vs.length→Q (.ref (s.heap.objs.size+1)) {s with heap:=sortedAll s.heap vs (M1 vs p)}):
 wpAny (model prog w) A (call (.builtin "sorted") [.ref l]) Q E s:=by
 refine Eb kind_sorted plain_sorted entry_sorted (args_sorted1 _) ?_;unfold FV;refine Aa (m:=checkCount "sorted" 1 1 _) (Ac ?_);refine Aa (collect_list hl ?_ (by rw[sizeLine_eq];omega));refine Aa (Fx ?_ (by rw[sizeLine_eq];omega));have hsz:((s.heap.push (BD "list" #[] 0)).update s.heap.objs.size (A_ (· ++vs.toArray))).objs.size=s.heap.objs.size+1:=by rw[DP,size_push']
 have hoL:(((s.heap.push (BD "list" #[] 0)).update s.heap.objs.size (A_ (· ++vs.toArray))).push (BD "list" vs.toArray 0)).get? (s.heap.objs.size+1)=some (BD "list" vs.toArray 0):=by rw[←hsz];exact Al _ rfl
 have keep:∀b o,s.heap.get? b=some o→(((s.heap.push (BD "list" #[] 0)).update s.heap.objs.size (A_ (· ++vs.toArray))).push (BD "list" vs.toArray 0)).get? b=some o:=λb o q=>by have hlt:b<s.heap.objs.size:=Ag q;rw[Do _ _ _ (by rw[hsz];exact An (Ca hlt)),GZ _ _ _ _ (An hlt),Do _ _ _ (An hlt)];exact q
 have ne:∀b o,s.heap.get? b=some o→b≠s.heap.objs.size+1:=λb o q=>An (Ca (Ag q));show wpAny _ _ _ _ _ {s with heap:=((s.heap.push (BD "list" #[] 0)).update s.heap.objs.size (A_ (· ++vs.toArray))).push (BD "list" vs.toArray 0)}
 rw[hsz];refine Aa (AF (AT GG ⟨_,hoL,rfl⟩ Gu (Wq (s:={s with heap:=((s.heap.push (BD "list" #[] 0)).update s.heap.objs.size (A_ (· ++vs.toArray))).push (BD "list" vs.toArray 0)}) O hoL h64
  (λh2 h' kp Q' q=>hk h2 h' (λb o e=>kp b o (ne b o e) (keep b o e)) _ _ Q' q) (λh' kp i j hi hj C q=>hc h' (λb o e=>kp b o (ne b o e) (keep b o e)) i j hi hj C q) λp ok srt=>⟨_,rfl,?_⟩) (args_list_sort _)))
 exact Ac ⟨_,rfl,h p ok srt⟩
def Kx:V→Bool
 | .non=>true
 | .int _=>true
 | _=>false
def Sj:V→V→Bool
 | .int i,.int j=>decide (i≤j)
 | _,_=>true
def La(H:Hp):V→Bool
 | .ref a=>match H a with
  | some (.tup [x,y])=>Kx x && Kx y && Sj x y
  | _=>false
 | _=>false
def SpanAt(H:Hp)(v:V)(lo hi:Option Int):Prop:=∃a,v= .ref a∧H a=some (.tup [eV lo,eV hi])
def LY:Option Int→Option Int→Bool
 | some i,some j=>decide (i≤j)
 | _,_=>true
theorem ZK{v:V}{lo hi:Option Int}(h:SpanAt H v lo hi):La H v=LY lo hi:=by obtain⟨a,rfl,e⟩:=h;unfold La;simp only[e];cases lo<;>cases hi<;>simp[eV,Kx,Sj,LY]
theorem SV{K:Ae}(o:Option Int):∃t,TyOf K H (eV o) (.type t):=by
 cases o with
 | none=>exact⟨_,.non⟩
 | some i=>exact⟨_,.int i⟩
def Ut(K:Ae):Sp:=λvs H Q _=>∃(v:V)(t:String),vs=[v]∧TyOf K H v (.type t)∧Q (.bl (t=="int")) H
def SO(K:Ae):Sp:=λvs H Q _=>∃(v:V)(t:String),vs=[v]∧TyOf K H v (.type t)∧Q (.bl (Kx v)) H
def SZ(K:Ae)(H:Hp)(v:V):Prop:=∀a x y,v= .ref a→H a=some (.tup [x,y])→∃t1 t2,TyOf K H x (.type t1)∧TyOf K H y (.type t2)
def Ve(K:Ae):Sp:=λvs H Q _=>∃(v:V)(t:String),vs=[v]∧TyOf K H v (.type t)∧SZ K H v∧Q (.bl (La H v)) H
theorem SpanAt.ty{K:Ae}{v:V}{lo hi:Option Int}(h:SpanAt H v lo hi):TyOf K H v (.type "tuple")∧SZ K H v:=by obtain⟨a,rfl,q⟩:=h;refine⟨.tup q,λa' x y e q'=>?_⟩;cases e;rw[q] at q';injection q' with q';injection q' with q';injection q' with e1 e2;injection e2 with e2 _;subst e1 e2;obtain⟨t1,h1⟩:=SV (K:=K) (H:=H) lo;obtain⟨t2,h2⟩:=SV (K:=K) (H:=H) hi;exact⟨t1,t2,h1,h2⟩
def W6:Option Int→Option Int→Option Int
 | none,o=>o
 | some l,none=>some l
 | some l,some o=>some (if l<o then o else l)
def W7:Option Int→Option Int→Option Int
 | none,o=>o
 | some h,none=>some h
 | some h,some o=>some (if o<h then o else h)
def Lx:Option Int→Option Int→Bool
 | some l,some h=>decide (h<l)
 | _,_=>false
def Mp:Option Int→Int→Bool
 | none,_=>true
 | some l,k=>decide (l≤k)
def Mq:Option Int→Int→Bool
 | none,_=>true
 | some h,k=>decide (k≤h)
def JY(lo hi:Option Int)(k:Int):Bool:=Mp lo k && Mq hi k
def NM:Sp:=λvs H Q _=>∃(v:V)(lo hi:Option Int)(k:Int),vs=[v,.int k]∧SpanAt H v lo hi∧Q (.bl (JY lo hi k)) H
abbrev T15:Int:=1000000000000000
theorem Pl:(10:Int)^(15:Int).toNat=T15:=by decide
theorem Kj{j:Int}(h0:0≤j)(h1:j≤1000):Pu 10 j:=⟨h0,h1,by decide⟩
def NZ:Option Int→List Int
 | none=>[]
 | some e=>[e - 1,e,e+1]
def RZ:List Int:=[0,10^(17:Int).toNat,0 - 10^(17:Int).toNat]
def Xi(ss:List (Option Int×Option Int)):List Int:=RZ++ss.flatMap λs=>NZ s.1++NZ s.2
def spPoints(K:Ae):Sp:=λvs H Q _=>∃(a:Addr)(ss:List (Addr×Option Int×Option Int)),vs=[.ref a]∧SqL K H a (ss.map λs=>V.ref s.1)∧(∀s∈ss,H s.1=some (.tup [eV s.2.1,eV s.2.2]))∧ss.length≤8∧
 ∀r H',Same H H'→H' r=some (.lst ((Xi (ss.map (·.2))).map V.int))→Q (.ref r) H'
def dE:Option Int→PD
 | none=> .non
 | some i=> .int i
theorem Tz{K:Ae}(o:Option Int):Ja K H (dE o) (eV o):=by
 cases o with
 | none=>show Ja K H .non .non;rw[Ja]
 | some i=>show Ja K H (.int i) (.int i);rw[Ja]
def Mk(c:Nat):Bool:=decide (97≤c) && decide (c≤122)
structure FieldOk(x:Str):Prop where
 one:1≤x.length
 eight:x.length≤8
 all:∀c∈x.cps.toList,Mk c=true
theorem X2:("a":Str).cps.toList=[97]:=by decide+kernel
theorem X3:("z":Str).cps.toList=[122]:=by decide+kernel
theorem Sq{c:Nat}(h:Mk c=true):(!decide ((⟨#[c]⟩:Str).cps.toList<("a":Str).cps.toList))=true:=by
 rw[X2];have h1:97≤c:=of_decide_eq_true ((AX _ _).mp h).1;have:¬([c]:List Nat)<[97]:=by
  intro z;cases z with
  | rel z=>exact absurd z (by omega)
  | cons z=>cases z
 show(!decide (([c]:List Nat)<[97]))=true;rw[decide_eq_false this];rfl
theorem Si{c:Nat}(h:Mk c=true):(!decide (("z":Str).cps.toList<(⟨#[c]⟩:Str).cps.toList))=true:=by
 rw[X3];have h1:c≤122:=of_decide_eq_true ((AX _ _).mp h).2;have:¬([122]:List Nat)<[c]:=by
  intro z;cases z with
  | rel z=>exact absurd z (by omega)
  | cons z=>cases z
 show(!decide (([122]:List Nat)<[c]))=true;rw[decide_eq_false this];rfl
def O8:Sp:=λvs H Q _=>∃x:Str,vs=[.str x]∧FieldOk x∧∀H',Same H H'→Q (.bl true) H'
def Xz(H:Hp)(p:Addr)(f:Str)(lo hi:Option Int):Prop:=H p=some (.tup [.str f,eV lo,eV hi])
def Xy(H:Hp)(p:Addr)(f:Str)(n:Int):Prop:=H p=some (.tup [.str f,.int n])
def We:Sp:=λvs H Q _=>∃(p:Addr)(f:Str)(lo hi:Option Int),vs=[.ref p]∧Xz H p f lo hi∧FieldOk f∧LY lo hi=true∧∀H',Same H H'→Q (.bl true) H'
def Wv:Sp:=λvs H Q _=>∃(p:Addr)(f:Str)(n:Int),vs=[.ref p]∧Xy H p f n∧FieldOk f∧∀H',Same H H'→Q (.bl true) H'
def Kr(f g:Str):Prop:=f.cps.toList<g.cps.toList
def Vb:Sp:=λvs H Q _=>∃(a:Addr)(ps:List (Addr×Str×List V)),vs=[.ref a]∧H a=some (.tup (ps.map λp=>V.ref p.1))∧ps.length≤100∧(∀p∈ps,H p.1=some (.tup (V.str p.2.1::p.2.2)))∧
 (∀(i:Nat)p q,ps[i]?=some p→ps[i+1]?=some q→Kr p.2.1 q.2.1)∧∀H',Same H H'→Q (.bl true) H'
abbrev WP:=Str×Option Int×Option Int
def WishAt(H:Hp)(a:Addr)(w:List WP):Prop:=∃ps:List (Addr×WP),ps.map (·.2)=w∧H a=some (.tup (ps.map λp=>V.ref p.1))∧∀p∈ps,H p.1=some (.tup [.str p.2.1,eV p.2.2.1,eV p.2.2.2])
theorem WishAt.keep{H':Hp}{w:List WP}(h:WishAt H a w)(s:JS H H'):WishAt H' a w:=by obtain⟨ps,e,h1,h2⟩:=h;exact⟨ps,e,s _ _ h1,λp hp=>s _ _ (h2 p hp)⟩
theorem WishAt.same{H':Hp}{w:List WP}(h:WishAt H a w)(s:Same H H'):WishAt H' a w:=h.keep s.tups
structure WOk(w:List WP):Prop where
 len:w.length≤100
 ok:∀p∈w,FieldOk p.1∧LY p.2.1 p.2.2=true
 asc:(w.map (·.1)).Pairwise Kr
def O0(w:List WP)(f:Str):Option (Option Int×Option Int):=(w.find? (λp=>decide (p.1=f))).map (·.2)
theorem To{f g:Str}(h:Kr f g):f≠g:=λe=>by subst e;exact List.lt_irrefl _ h
def Vf:Sp:=λvs H Q _=>∃(a:Addr)(w:List WP),vs=[.ref a]∧WishAt H a w∧WOk w∧∀H',Same H H'→Q (.bl true) H'
def Xf:Option Int→Option Int→Int
 | some l,_=>l
 | none,some h=>h
 | none,none=>0
abbrev PP:=Str×Int
def PieceAt(H:Hp)(a:Addr)(w:List PP):Prop:=∃ps:List (Addr×PP),ps.map (·.2)=w∧H a=some (.tup (ps.map λp=>V.ref p.1))∧∀p∈ps,H p.1=some (.tup [.str p.2.1,.int p.2.2])
theorem WM{K:Ae}{a p:Addr}{xs:List V}{g:TG}{tc:TT}{tk tv:TE}{Q:VK}{js:JF}(Pv:Nat→St→List (Jq×V)→Hp→Prop)(h0:Pv 0 (Kh js σ) [] (IU H p (.dK [])))
 (hl:∀i σ kvs H,i≤xs.length→Pv i σ kvs H→SqT K H a xs∧H p=some (.dK kvs)∧kvs.length<Az)
 (hs:∀(i:Nat)x σ kvs H(N:St→List (Jq×V)→Hp→Prop),xs[i]?=some x→Pv i σ kvs H→(∀σ' kvs' H',Pv (i+1) σ' kvs' H'→N σ' kvs' H')→g x σ H λσ2 H2=>tc σ2 H2 λb H3=> if b=true then tk σ2 H3 λk H4=>tv σ2 H4 λy H5=>∃ky,k=kV ky∧H5 p=some (.dK kvs)∧N σ2 (Jv kvs ky y) (IU H5 p (.dK (Jv kvs ky y))) else N σ2 kvs H3)
 (hd:∀σ kvs H,Pv xs.length σ kvs H→Q (.ref p) H):PJ (Mu K a) p js g tc tk tv σ H Q:=by
 refine⟨λi m σ kvs H=>m=xs.length - i∧i≤xs.length∧Pv i σ kvs H,⟨xs.length,by simp,Bc _,h0⟩,?_⟩;rintro i m σ kvs H ⟨rfl,hi,pv⟩;obtain⟨q0,q1,q2⟩:=hl i σ kvs H hi pv;refine⟨q1,?_⟩;by_cases lt:i<xs.length
 · refine .inr ⟨⟨xs,xs[i],q0,by simp[lt]⟩,q2,λx H' y=>?_⟩;obtain⟨e,y⟩:=y;subst e;exact hs i x σ kvs H' (λσ2 kvs2 H2=>∃m',m'<xs.length - i∧m'=xs.length - (i+1)∧i+1≤xs.length∧Pv (i+1) σ2 kvs2 H2) (y xs q0) pv λσ' ys' H' p'=>⟨xs.length - (i+1),by omega,rfl,lt,p'⟩
 · have e:i=xs.length:=by omega
   subst e;exact .inl ⟨⟨xs,q0,Af _⟩,hd σ kvs H pv⟩
theorem YB{y:Str}(h:x.cps.toList=y.cps.toList):x=y:=by obtain⟨a⟩:=x;obtain⟨b⟩:=y;congr;exact Array.toList_inj.mp h
theorem XX{y:Str}(h:¬Kr x y)(n:x≠y):Kr y x:=by
 unfold Kr at*;rcases Std.lt_trichotomy (α:=List Nat) x.cps.toList y.cps.toList with h1 | h1 | h1
 · exact absurd h1 h
 · exact absurd (YB h1) n
 · exact h1
theorem ZR{y z:Str}(h:Kr x y)(h2:Kr y z):Kr x z:=List.lt_trans h h2
theorem Vu:∀(r:List Str)(p:Str),risingS p r=true→(p::r).Nodup→(p::r).Pairwise Kr
 | [],p,_,_=>Gm _ _
 | x::r,p,h,n=>by
  unfold risingS at h;rw[AX,Dl,ltCps_eq,decide_eq_false_iff_not] at h;rw[Cg] at n;have px:Kr p x:=XX (x:=x) (y:=p) h.1 (λe=>n.1 (by rw[←e];exact Ai));have ih:=Vu r x h.2 n.2;rw[En];refine⟨λy hy=>?_,ih⟩;rcases Ar.mp hy with rfl | hy
  · exact px
  · exact ZR px ((List.pairwise_cons.mp ih).1 y hy)
theorem VF{ms:List Str}(h:sortedS ms=true)(n:ms.Nodup):ms.Pairwise Kr:=by
 cases ms with
 | nil=>exact .nil
 | cons x r=>exact Vu r x h n
theorem PieceAt.keep{H':Hp}{w:List PP}(h:PieceAt H a w)(s:JS H H'):PieceAt H' a w:=by obtain⟨ps,e,h1,h2⟩:=h;exact⟨ps,e,s _ _ h1,λp hp=>s _ _ (h2 p hp)⟩
theorem PieceAt.same{H':Hp}{w:List PP}(h:PieceAt H a w)(s:Same H H'):PieceAt H' a w:=h.keep s.tups
structure POk(p:List PP):Prop where
 len:p.length≤100
 ok:∀x∈p,FieldOk x.1
 asc:(p.map (·.1)).Pairwise Kr
def K0(p:List PP)(f:Str):Option Int:=(p.find? (λx=>decide (x.1=f))).map (·.2)
theorem ziX{w:List PP}{f:Str}(h:∀p∈w,p.1≠f):K0 w f=none:=by unfold K0;rw[List.find?_eq_none.mpr λp hp z=>h p hp (of_decide_eq_true z)];rfl
theorem Wj(w:List PP)(p:PP)(f:Str)(hn:K0 w p.1=none):K0 (w++[p]) f=if f=p.1 then some p.2 else K0 w f:=by
 unfold K0 at*;rw[List.find?_append];by_cases h:f=p.1
 · subst h;rw[if_pos rfl];cases e:w.find? (λq=>decide (q.1=p.1)) with
   | some q=>rw[e] at hn;cases hn
   | none=>simp
 · rw[if_neg h];cases e:w.find? (λq=>decide (q.1=f)) with
   | some q=>rfl
   | none=>simp;exact λz=>h z.symm
theorem POk.fresh{w:List PP}(h:POk w){p:PP}(hp:w[i]?=some p):K0 (w.take i) p.1=none:=by
 refine ziX λq hq e=>?_;obtain⟨j,hj⟩:=CF hq;rw[D7] at hj
 split at hj
 · rename_i lt;have hi:i<w.length:=(Au.mp hp).1;have:=Cz.mp h.asc j i (by rw[Ab];omega) (by rw[Ab];exact hi) lt;rw[DQ,DQ] at this;have e1:w[j]'(by omega)=q:=(Au.mp hj).2;have e2:w[i]=p:=(Au.mp hp).2;rw[e1,e2] at this;exact To this e
 · cases hj
def Mg(p:List PP)(x:WP):Bool:=match K0 p x.1 with
 | none=>false
 | some n=>JY x.2.1 x.2.2 n
theorem Wy{p:List PP}{x:WP}(h:K0 p x.1=none):Mg p x=false:=by unfold Mg;rw[h]
theorem Rv{p:List PP}{x:WP}{n:Int}(h:K0 p x.1=some n):Mg p x=JY x.2.1 x.2.2 n:=by unfold Mg;rw[h]
def Kg(w:List WP)(p:List PP):Bool:=w.all (Mg p)
theorem Wf{w:List WP}{p:List PP}{x:WP}(hx:x∈w)(h:Mg p x=false):Kg w p=false:=by unfold Kg;rw[List.all_eq_false];exact⟨x,hx,by rw[h];exact A3⟩
def VJ:Sp:=λvs H Q _=>∃(a:Addr)(w:List PP),vs=[.ref a]∧PieceAt H a w∧POk w∧∀H',Same H H'→Q (.bl true) H'
def Wb:Sp:=λvs H Q _=>∃(a:Addr)(w:List PP),vs=[.ref a]∧PieceAt H a w∧POk w∧∀H',Same H H'→Q .non H'
def OC:Sp:=λvs H Q _=>∃(a b:Addr)(w:List WP)(p:List PP),vs=[.ref a,.ref b]∧WishAt H a w∧PieceAt H b p∧POk p∧∀H',Same H H'→Q (.bl (Kg w p)) H'
theorem az:("abcdefghijklmnopqrstuvwxyz":Str).cps.toList=(AG 26).map (· +97):=by decide+kernel
theorem SC{r:Int}(h0:0≤r)(h1:r<26):∃c,JI ("abcdefghijklmnopqrstuvwxyz":Str).cps.toList r=some c∧Mk c=true:=by
 rw[az];obtain⟨k,rfl⟩:∃k:Nat,r=k:=⟨r.toNat,by omega⟩;have hk:k<26:=by omega
 refine⟨k+97,?_,?_⟩
 · refine K7 ?_;rw[Am,DW hk];rfl
 · unfold Mk;rw[AX];exact⟨decide_eq_true (by omega),decide_eq_true (by omega)⟩
theorem Wi:∀(cs:List Nat),(Txt.join ("":Str) (cs.map λc=>(⟨#[c]⟩:Str))).cps.toList=cs
 | []=>rfl
 | [c]=>rfl
 | c::d::r=>by
  have ih:=Wi (d::r);have e:∀(ts:List Str),Txt.join ("":Str) ts=Str.join ("":Str) ts:=λts=>StrLaws.glued_eq_join _ _;rw[e] at ih ⊢;show((⟨#[c]⟩:Str)++("":Str)++Str.join ("":Str) ((d::r).map λc=>(⟨#[c]⟩:Str))).cps.toList=_;have:((⟨#[c]⟩:Str)++("":Str)++Str.join ("":Str) ((d::r).map λc=>(⟨#[c]⟩:Str))).cps.toList=c::(Str.join ("":Str) ((d::r).map λc=>(⟨#[c]⟩:Str))).cps.toList:=by show(#[c]++#[]++_:Array Nat).toList=_;simp
  rw[this,ih]
theorem XS(cs:List Nat)(h:cs.length≤1000):JoinOk ("":Str) (cs.map λc=>(⟨#[c]⟩:Str))=true:=by
 unfold JoinOk;rw[Dl];refine StrLaws.joinFits (B:=1) (λy hy=>?_) ?_
 · obtain⟨c,_,rfl⟩:=Ax.mp hy;exact Af 1
 · rw[Ab];show cs.length*1+cs.length*0≤_;omega
theorem zi1{cs:List Nat}(h1:1≤cs.length)(h8:cs.length≤8)(ok:∀c∈cs,Mk c=true):FieldOk (Txt.join ("":Str) (cs.map λc=>(⟨#[c]⟩:Str))):=by
 have e:=Wi cs;have hl:(Txt.join ("":Str) (cs.map λc=>(⟨#[c]⟩:Str))).length=cs.length:=by show Array.size _=_;rw[←Ah,e]
 exact⟨by rw[hl];exact h1,by rw[hl];exact h8,by rw[e];exact ok⟩
theorem SameB.off{g p:Addr}{H':Hp}{o:HO}(s:SameB b g H H')(hp:H p=none):SameB b g H (IU H' p o):=λa x h n1 n2=>by
 have:a≠p:=λe=>by rw[e,hp] at h;cases h
 rw[Ji this];exact s a x h n1 n2
open PySem PySem.Spec PyProof.Rows PySem.W
theorem Rb{α:Type}{f:α→Addr}:∀{ps:List α}{us:List Value},Vals (ps.map λp=>V.ref (f p)) us→us=ps.map λp=>Value.ref (f p)
 | [],_,h=>by cases h;rfl
 | p::ps,_,h=>by
  rw[AC] at h;cases h with
  | cons r h=> obtain rfl:_=Value.ref (f p):=r;rw[Rb h];rfl
theorem UO{α:Type}(d:α){ps:List α}{p:Array Nat}(h:KS.Ok ps.length p):(p.toList.map λi=>ps.getD i d).Perm ps:=by
 have e:(AG ps.length).map (λi=>ps.getD i d)=ps:=by
  apply List.ext_getElem
  · simp
  · intro i h1 h2;simp[h2]
 have:=h.perm.map (λi=>ps.getD i d);rw[e] at this;exact this
theorem N6{α β:Type}(f:α→β)(d:α)(e:β)(ps:List α)(h:i<ps.length):(ps.map f).getD i e=f (ps.getD i d):=by simp[h]
open PySem.AutoSeq1 (wpAny_loadPart')
open PySem.MeetsSeq PySem.MeetsSeq2 PySem.MeetsSeq3 PySem.SeqRoads2
open PySem PySem.Spec PyProof.Rows PySem.W
section
variable{o:HO}
theorem Inv.track7(I:Inv X pins σ H s)(hn:Je X pins H a)(h0:X.s₀.heap.get? a=none)(new:ObjOk X.prog X.w (IU H a o) s.heap a o):Inv X pins σ (IU H a o) s:=by
 obtain⟨hn,hl,_,_,hc,hp⟩:=hn;refine⟨I.ok,I.os,I.bare,⟨I.base.keep,I.base.slot,λb ob q n hx=>?_,I.base.there,λb xs q=>?_,λb ob u q=>?_,λb ps q=>?_⟩,I.loc,I.cell,?_,λx c e=>?_,λp hp'=>?_,λb u q=>?_,I.len⟩
 · have:b≠a:=λz=>by rw[z,h0] at q;cases q
   rw[Ji this];exact I.base.free b ob q n hx
 · have:=I.base.tups b xs q;rw[Ji (JJ this hn)];exact this
 · have:=I.base.frzs b ob u q;rw[Ji (JJ this hn)];exact this
 · obtain⟨m,this⟩:=I.base.tbls b ps q;exact⟨m,by rw[Ji (JJ this hn)];exact this⟩
 · rw[Ji hl.symm];exact I.free
 · rw[Ji (hc x c e)];exact I.freeC x c e
 · obtain⟨e,n,r⟩:=I.pin p hp';exact⟨e,by rw[Ji (hp p hp')];exact n,r⟩
 · by_cases hb:b=a
   · subst hb;rw[IX] at q;cases q;exact new
   · rw[Ji hb] at q;exact(I.hok b u q).stay (λc v _ r=>r) (λc r=>by rw[Ji (JJ r hn)];exact r) λc xs r=>by rw[Ji (JJ r hn)];exact r
end
open PySem PySem.Spec PyProof.Rows PySem.W
def Pk(ps:List (Addr×PD))(d:PD):Value→Bool
 | .ref a=>(ps.find? λp=>decide (p.1=a)).any λp=>Jo p.2 d
 | _=>false
section
variable{o:Obj}{kvs:List (Jq×V)}
end
section
variable{tg:Expr}
end
section
variable{p:Addr}{g:TG}{tc:TT}{te:TE}{Q:VK}{o:Obj}{kvs:List (Jq×V)}{fs:List Str}
end
end L2
set_option maxHeartbeats 2000000
namespace L2
open PySem PySem.Spec PyProof.Rows PySem.W
section
variable{κ:Type}[DecidableEq κ]{knd:PySem.KeyKind prog w κ}
end
theorem UB(hc:X.calm=true):Ko X (.builtin "any") (λxs H Q=>∃(a:Addr)(bs:List Bool),xs=[.ref a]∧SqL X.K H a (bs.map V.bl)∧Q (.bl (bs.any id)) H):=by
 intro pins s σ H xs us Q I r h;obtain⟨a,bs,rfl,hq,q⟩:=h;obtain⟨u,rfl,ru⟩:=KC r;cases ru;obtain⟨its,rv,p,hzz⟩:=I.list hq;have ll:=rv.length;rw[Ab] at ll;refine call_any_walk (D9 p.isList ?_);obtain⟨o,ho,_⟩:=id p.isList;have lt:=Ag ho;refine⟨s.heap.objs.size,_,_,_,_,_,λi=>bs.getD i false,rfl,Walks.list (A:=X.A.in1) (I.ok.hd hc) s.heap.objs.size a (An lt) its.toArray,⟨⟨_,Al _ rfl,rfl,rfl⟩,p.isList.at λo' e=>Ad _ e⟩,?_,λg t' k=>?_⟩
 · intro i v s' Q' E' hv q';have hi:its[i]?=some v:=by simpa using hv
   have hl:i<its.length:=(Au.mp hi).1;have e:(bs.map V.bl)[i]?=some (.bl (bs.getD i false)):=by rw[Am,AK (by omega),Cv,AK (by omega)];rfl
   obtain⟨u,h1,h2⟩:=Vals.get rv e;rw[hi] at h1;cases h1;cases h2;exact BP q'
 · refine⟨.bl (bs.any id),H,I.kept (λb o' e=>k b o' ?_ (Ad _ e)),?_,q⟩
   · intro z;exact absurd (Ak.mp z) (An (Ag e))
   · show Value.bool _=Value.bool _;congr 1;rw[Aw,←ll];clear rv ll hq q p ho lt hzz
     induction bs with
     | nil=>rfl
     | cons b r ih=> rw[AA,E7,CC,Ep,CC,←ih];rfl
theorem YV{tg:Expr}(K:Ae)(h:X.K=K){l:Expr}{tl:TE}(hl:PE X l tl)(hc:X.calm=true:=by rfl):PI X tg l (SG K tl):=by subst h;exact JV hl
theorem Zw(o:Option Int):K1 (dE o)=0:=by cases o<;>rfl
def Lj(ps:List (Addr×PP)):List (Addr×Jq×V):=ps.map λp=>(p.1,(Sum.inr p.2.1:Jq),V.int p.2.2)
theorem zi3(ps:List (Addr×PP))(pok:POk (ps.map (·.2)))(f:Str):∀(n:Nat),n≤ps.length→Ju ((Lj (ps.take n)).foldl (λacc p=>Jv acc p.2.1 p.2.2) []) (.inr f:Jq)=(K0 ((ps.map (·.2)).take n) f).map V.int:=by
 intro n
 induction n with
 | zero=>intro _;rfl
 | succ n ih=>
  intro hn;have e1:ps[n]?=some ps[n]:=by simp
  have ew:(ps.map (·.2))[n]?=some ps[n].2:=by rw[Am,e1];rfl
  have fr:=pok.fresh ew;rw[KJ e1,KJ ew,Wj _ _ _ fr];unfold Lj at ih ⊢;rw[Aq,List.foldl_append];show Ju (Jv _ (Sum.inr ps[n].2.1:Jq) (V.int ps[n].2.2)) (.inr f)=_;rw[UX];by_cases hf:f=ps[n].2.1
  · rw[if_pos hf,if_pos (by rw[hf])];rfl
  · rw[if_neg hf,if_neg (λz=>hf (by injection z))];exact ih (by omega)
theorem zhH(ps:List (Addr×PP))(pok:POk (ps.map (·.2)))(f:Str):Ju ((Lj ps).foldl (λacc p=>Jv acc p.2.1 p.2.2) []) (.inr f:Jq)=(K0 (ps.map (·.2)) f).map V.int:=by have:=zi3 ps pok f ps.length (Af _);rw[Bx,Bt (by simp)] at this;exact this
def dP(p:List PP):PD:= .tup (p.map λx=> .tup [.str x.1,.int x.2])
abbrev Mc:=Option Int×Option Int
def Sg:Option Mc→Option Mc→Option Mc
 | none,o=>o
 | some s,none=>some s
 | some s,some t=>some (W6 s.1 t.1,W7 s.2 t.2)
structure IsMet(w1 w2 m:List WP):Prop where
 len:m.length≤w1.length+w2.length
 asc:(m.map (·.1)).Pairwise Kr
 sp:∀f,O0 m f=Sg (O0 w1 f) (O0 w2 f)
def WG(w1:List WP)(p:WP):Bool:=match O0 w1 p.1 with
 | none=>false
 | some s=>Lx (W6 s.1 p.2.1) (W7 s.2 p.2.2)
def WH(w1 w2:List WP):Bool:=w2.any (WG w1)
def Li(p:WP):PD:= .tup [.str p.1,dE p.2.1,dE p.2.2]
def dW(w:List WP):PD:= .tup (w.map Li)
theorem TB{K:Ae}:∀ps:List (Addr×WP),(∀p∈ps,H p.1=some (.tup [.str p.2.1,eV p.2.2.1,eV p.2.2.2]))→Reps K H ((ps.map (·.2)).map Li) (ps.map λp=>V.ref p.1)
 | [],_=>by show Reps K H [] [];rw[Reps]
 | p::ps,h=>by show Reps K H (Li p.2::_) (V.ref p.1::_);rw[Reps];refine⟨_,_,rfl,?_,TB ps λq hq=>h q (Aj _ hq)⟩;unfold Li;rw[Ja];refine⟨p.1,_,rfl,SqT.of (h p Ai),?_⟩;rw[Reps];refine⟨_,_,rfl,by rw[Ja],?_⟩;rw[Reps];refine⟨_,_,rfl,Tz _,?_⟩;rw[Reps];exact⟨_,_,rfl,Tz _,by rw[Reps]⟩
theorem SM{K:Ae}{w:List WP}(h:WishAt H a w):Ja K H (dW w) (.ref a):=by obtain⟨ps,rfl,h1,h2⟩:=h;unfold dW;rw[Ja];exact⟨a,_,rfl,SqT.of h1,TB ps h2⟩
theorem Zv(p:WP):K1 (Li p)=1:=by unfold Li;simp[K1,K8,Zw]
theorem UF:∀w:List WP,K8 (w.map Li)≤1
 | []=>by show K8 []≤1;rw[K8];omega
 | p::w=>by rw[AC,K8,Zv];have:=UF w;omega
theorem XH(w:List WP):K1 (dW w)≤2:=by unfold dW;rw[K1];have:=UF w;omega
theorem U1(a b:Option Int):Jo (dE a) (dE b)=decide (a=b):=by cases a<;>cases b<;>simp only[dE,Jo]<;>rw[Cf]<;>simp
theorem YR(p q:WP):Jo (Li p) (Li q)=decide (p=q):=by obtain⟨f,a,b⟩:=p;obtain⟨g,c,d⟩:=q;unfold Li;rw[Jo,JP,JP,JP,JP,U1,U1,Jo,Cf];simp
theorem U2:∀w w':List WP,JP (w.map Li) (w'.map Li)=decide (w=w')
 | [],[]=>by rw[DC,JP];rfl
 | [],y::r=>by rw[DC,AC,JP];rfl;all_goals simp
 | x::r,[]=>by rw[DC,AC,JP];rfl;all_goals simp
 | x::r,y::r'=>by rw[AC,AC,JP,YR,U2 r r',Cf];simp
theorem XZ(w w':List WP):Jo (dW w) (dW w')=decide (w=w'):=by unfold dW;rw[Jo,U2]
def W8(a b:Int):Bool:=decide (a<b)
def Sh{α β:Type}[DecidableEq α](l:α→α→Bool)(m:β→β→Bool)(x y:α×β):Bool:=if x.1=y.1 then m x.2 y.2 else l x.1 y.1
def lpO:Option Int→Int×Int
 | none=>(0,0)
 | some l=>(1,l)
def hpO:Option Int→Int×Int
 | none=>(1,0)
 | some h=>(0,h)
def d2(p:Int×Int):PD:= .tup [.int p.1,.int p.2]
abbrev RKy:=Str×(Int×Int)×(Int×Int)
def ky(p:WP):RKy:=(p.1,lpO p.2.1,hpO p.2.2)
def ME:Int×Int→Int×Int→Bool:=Sh W8 W8
end L2
set_option maxHeartbeats 1000000
namespace L2
open PySem PySem.Spec PyProof.Rows PySem.W
def Xj:R2:=λx y H Q=>∃a b xs ys,x= .ref a∧y= .ref b∧H a=some (.tup xs)∧H b=some (.tup ys)∧xs.length+ys.length≤Az∧∀p H',Same H H'→H' p=some (.tup (xs++ys))→Q (.ref p) H'
theorem PZ:J8 X (binaryOp .Add) Xj:=by
 intro pins s σ H x y v u Q I rx ry h;obtain⟨a,b,xs,ys,rfl,rfl,ha,hb,hz,q⟩:=h;cases rx;cases ry;obtain⟨its,r1,p1,_⟩:=I.tuple (SqT.of ha);obtain⟨its2,r2,p2,_⟩:=I.tuple (SqT.of hb);by_cases hx:xs=[]
 · subst hx;cases r1;obtain⟨⟨cls,dd,data,sl⟩,ho,hc,n,hd⟩:=id p1;obtain⟨⟨cls2,dd2,data2,sl2⟩,ho2,hc2,n2,hd2⟩:=id p2;simp only at hc hd hc2 hd2;subst hc hd hc2 hd2;exact concat_meets ⟨_,ho,rfl⟩ ⟨_,ho2,rfl⟩ noFill_tuple_add seq_tuple_add E6 Ew (El _ _)
    (tuple_addW0 a b _ _ n n2 dd dd2 sl sl2 rfl) ⟨ho,ho2,⟨.ref b,H,I,rfl,q b H (Same.refl _) hb⟩⟩
 · refine HT.cat_tup p1 p2 (λz=>hx (r1.nil_iff.mp z)) (λz=>⟨.ref a,H,I,rfl,q a H (Same.refl _) (by rw[r2.nil_iff.mp z,CG];exact ha)⟩) (λz=>?_) (by rw[←r1.length,←r2.length];exact hz);have hn:=I.hok.fresh (Af _);refine⟨.ref s.heap.objs.size,_,I.laid (t':=s.toks) (o:= .tup (xs++ys)) (λb ob q=>Ad _ q) (Af _) ?_,rfl,q _ _ (Jf hn _) IX⟩;exact⟨by rw[A5];exact hz,_,r1.append r2,IsTupP.new _ _⟩
def RO:V→Option Int→Option Int→Hp→VK→Prop:=λx lo hi H Q=>∃a xs,x= .ref a∧H a=some (.tup xs)∧∀p H',Same H H'→H' p=some (.tup (J2 xs lo hi))→Q (.ref p) H'
theorem zi6{lo hi:Option Int}(h:HT.sIx xs.length 0 lo=0∧HT.sIx xs.length xs.length hi=xs.length):J2 xs lo hi=xs:=by unfold J2;rw[h.1,h.2,Fi,Nat.sub_zero];exact Bt (Af _)
theorem O7:Nj X RO:=by intro pins s σ H x v vl vu lo hi sl Q I rx hs pl pu h;obtain⟨a,xs,rfl,ha,q⟩:=h;exact U8 pins s σ H (.ref a) v vl vu lo hi sl Q I rx hs pl pu ⟨a,xs,rfl,SqT.of ha,λhw=>q a H (Same.refl _) (by rw[zi6 hw];exact ha),λ_ p hp=>q p _ (Jf hp _) IX⟩
theorem Q4{k:Int}(e:k=(n:Int)):J2 xs none (some k)=xs.take n:=by
 subst e;unfold J2;rw[HT.sIx_none,HT.sIx_nat,Fi,Nat.sub_zero];by_cases h:n≤xs.length
 · rw[ER h]
 · rw[FW (by omega),Bt (Af _),Bt (by omega)]
theorem V5{k:Int}(e:k=(n:Int)):J2 xs (some k) none=xs.drop n:=by
 subst e;unfold J2;rw[HT.sIx_none,HT.sIx_nat];by_cases h:n≤xs.length
 · rw[ER h];exact Bt (by simp)
 · rw[FW (by omega),EO,List.take_zero,G7 (by omega)]
open PySem PySem.Spec PyProof.Rows PySem.W
section
variable{o:HO}
end
open PySem PySem.Spec PyProof.Rows PySem.W
section
variable{base:Heap}{l:List Env}{H':Hp}{s0 s':Shared}{C t:Addr}{B h':Heap}
end
section
variable{H':Hp}{s':Shared}{C:Addr}
end
def del(H:Hp)(a:Addr):Hp:=λb=>if b=a then none else H b
section
variable{e C:Addr}
end
section
variable{g:Array GenState}{d:Drawn}{t:Nat}{os:OsState}{nm q:Str}{C N:Addr}{bs bm bmB:List Value}{hdct:Bool}{sn:List Str}{sub:List Value}
variable{ab:Bool}{col:Option Bool}{dd:Option Addr}{k0 k1 k2 k3 k5:Option Value}{B newId initId:String}{rest:List Value}
end
section
variable{g:Array GenState}{d:Drawn}{t:Nat}{os:OsState}{nm q:Str}{C N:Addr}{bs bm bmB:List Value}{hdct:Bool}{sn:List Str}{sub:List Value}
variable{ab:Bool}{col:Option Bool}{dd:Option Addr}{k0 k1 k2 k3 k5:Option Value}{B newId initId:String}{rest:List Value}
end
section
variable{K:Ae}{mg:Str→Option Value}{base:Heap}{N:List Str}{qual:Str}{f:Addr}{cd:Value}{outer:List Env}{E:XK}
end
section
variable{K:Ae}{mg:Str→Option Value}{base:Heap}{N:List Str}{qual:Str}{f:Addr}{cd:Value}{outer:List Env}{E:XK}
end
section
variable{E:XK}{C fI:Addr}{fd:Cc}{k:Nat}{e1:Expr}{t:TA}{np cpos pos:Pos}
end
section
variable{o:HO}
end
section
variable{pins':List (Addr×Obj)}{RR:St→Value→Hp→Prop}
end
section
variable{base:Heap}{l:List Env}{H':Hp}{s0 s':Shared}{C t:Addr}{B:Heap}
end
section
variable{M:Model}{g:Array GenState}{d:Drawn}{t:Nat}{os:OsState}{nm q nm0 q0:Str}{C N C0 N0 e:Addr}{bs bm bs0 bm0:List Value}{hdct hdct0:Bool}{sn sn0:List Str}{sub sub0:List Value}
variable{ab ab0:Bool}{col col0:Option Bool}{dd dd0:Option Addr}{k0 k1 k2 k3 k5 j0 j1 j2 j3 j5:Option Value}{newId newId0:String}{oe:Obj}
end
section
variable{C0:Addr}{n:Str}{body suite:List Stmt}{b₀:Stmt}{np hpos pos:Pos}{tb:(St→Value→Hp→Prop)→TS}{ts:TS}
end
open PySem.W (Looks looks_findIn looks_mroIn looks_typeIn)
section
variable{K:Ae}{g:Array GenState}{d:Drawn}{t:Nat}{os:OsState}{C:Addr}
end
def Mb:V→Value
 | .ref D=> .ref D
 | .ty n=> .type n
 | _=> .none
def P7:V→Bool
 | .ref _=>true
 | .ty _=>true
 | _=>false
theorem Zq{c:V}(h:P7 c=true)(r:RelV c u):u=Mb c:=by
 cases c with
 | ref D=>exact r
 | ty n=>exact r
 | _=>cases h
theorem V4:∀{cs:List V}{us:List Value},cs.all P7=true→Vals cs us→us=cs.map Mb
 | [],_,_,.nil=>rfl
 | c::cs,_,h,.cons r rs=>by rw[CW,AX] at h;rw[Zq h.1 r,V4 h.2 rs];rfl
section
variable{pos:Pos}
end
end L2
namespace WB
structure Path(W:List Int)(l:List Int)(p q:Int):Prop where
 first:l.head?=some p
 last:l.getLast?=some q
 nd:l.Nodup
 posts:∀x∈l,Post W x
 adj:Adjs W l
theorem LA{W:List Int}(w:Web W){p q:Int}(hp:Post W p)(hq:Post W q):Path W (wayB W p q) p q:=by have h:=Yk w hp hq;exact⟨by rw[List.head?_eq_getElem?];exact h.first,by rw[List.getLast?_eq_getElem?];exact h.last,h.nd,h.posts,h.adj⟩
theorem QF{W:List Int}(w:Web W){p x:Int}(hp:Post W p)(hx:Post W x)(h:Adj W p x):(x=par W p∧0<p)∨(p=par W x∧0<x):=by
 obtain⟨h0,h1⟩:=h;by_cases hle:x≤p
 · left
   rw[Gs hle,Int.min_eq_right hle] at h1;rw[Gs hle] at h0;rw[par_at hp h0] at h1;exact⟨(AD h1).symm,h0⟩
 · right
   rw[Int.max_eq_right (by omega),Int.min_eq_left (by omega)] at h1;rw[Int.max_eq_right (by omega)] at h0;rw[par_at hx h0] at h1;exact⟨(AD h1).symm,h0⟩
theorem VX{W:List Int}(w:Web W){q:Int}:∀(rest:List Int)(p:Int),Adjs W (p::rest)→(p::rest).Nodup→(∀x∈p::rest,Post W x)→(p::rest).getLast?=some q→
 ∃c a b,Split W p q c a b∧p::rest=a++c::b.reverse
 | [],p,_,_,hx,hl=>by
  have:p=q:=by simpa using hl
  subst this;exact⟨p,[],[],⟨hx p (Ai ..),rfl,rfl,λx h=>by simp at h,λx h=>by simp at h⟩,rfl⟩
 | p2::rest,p,ha,hn,hx,hl=>by
  have hn2:=Cg.mp hn;have hp:=hx p (Ai ..);have hp2:=hx p2 (Aj _ (Ai ..));obtain⟨c,a,b,s,e⟩:=VX w rest p2 ha.2 hn2.2 (λx h=>hx x (Aj _ h)) (by simpa using hl);have hq:q∈p::p2::rest:=GP hl;have nq:=OK w (hx q hq);rcases QF w hp hp2 ha.1 with⟨e1,h0⟩ | ⟨e1,h0⟩
  · have eb:=bk_pos w hp h0;rw[←e1] at eb;have hlt:=par_lt w hp h0;rw[←e1] at hlt;refine⟨c,p::a,b,⟨s.pc,by rw[eb,s.ea];rfl,s.eb,λx hxm=>?_,λx hxm hx2=>?_⟩,by rw[e];rfl⟩
    · rcases Ar.mp hxm with rfl | hxm
      · intro z;rw[s.eb] at z;rcases As.mp z with z | z
        · exact hn2.1 (by rw[e];exact Ao _ (Aj _ (by simpa using z)))
        · have z2:x∈bk W p2:=by rw[s.ea];exact Ao _ z
          have:=(M5 w p2 hp2 x z2).2.1;omega
      · exact s.na x hxm
    · rw[eb] at hx2;rcases Ar.mp hx2 with rfl | hx2
      · exact hn2.1 (by rw[e];exact Ao _ (Aj _ (by simpa using hxm)))
      · exact s.nb x hxm hx2
  · have eb:=bk_pos w hp2 h0;rw[←e1] at eb;have ea:=s.ea;obtain⟨tc,ec⟩:=bk_cons w s.pc;cases a with
    | nil=>
     have hc:p2=c:=by rw[ec,eb] at ea;injection ea
     subst hc;have eq:=s.eb;rw[eb] at eq;have eq':bk W q=(b++[p2])++bk W p:=by rw[eq];simp
     refine⟨p,[],b++[p2],⟨hp,rfl,eq',λx h=>by simp at h,λx h h2=>?_⟩,by rw[e];simp⟩;rw[eq',Bf] at nq;exact nq.2.2 x h x h2 rfl
    | cons y a=>
     exfalso;rw[eb,FP] at ea;injection ea with ey er
     have:p∈p2::rest:=by
      rw[e,FP];refine Aj _ ?_;have hm:p∈a++bk W c:=by rw[←er];obtain⟨t,et⟩:=bk_cons w hp;rw[et];exact Ai ..
      rw[ec] at er;obtain⟨t,et⟩:=bk_cons w hp;rw[et] at er;cases a with
      | nil=>injection er with er _;rw[er];exact Ao _ (Ai ..)
      | cons z a=>injection er with er _;rw[er];exact AO _ (Ai ..)
     exact hn2.1 this
theorem Lc{W l:List Int}{p q:Int}(w:Web W)(h:Path W l p q):l=wayB W p q:=by
 cases l with
 | nil=>have:=h.first;simp at this
 | cons x rest=>
  have:x=p:=by have:=h.first;simpa using this
  subst this;obtain⟨c,a,b,s,e⟩:=VX w rest x h.adj h.nd h.posts h.last;rw[s.way w];exact e
theorem Path.pre{W l a b:List Int}{p q x:Int}(h:Path W l p q)(e:l=a++x::b):Path W (a++[x]) p x:=by
 subst e;have nd:=h.nd;have f:=h.first
 refine⟨?_,by simp,?_,λy hy=>h.posts y ?_,h.adj.left a⟩
 · cases a with
   | nil=>simpa using f
   | cons y a=>simpa using f
 · rw[Bf] at nd ⊢;refine⟨nd.1,by simp,λy hy z hz=>?_⟩;rw[Ak] at hz;subst hz;exact nd.2.2 y hy z (Ai ..)
 · rcases As.mp hy with z | z
   · exact AO _ z
   · rw[Ak.mp z];exact Ao _ (Ai ..)
def has(l:List Int)(x:Int):Bool:=l.any (λy=>y==x)
theorem has_iff{l:List Int}{x:Int}:has l x=true↔x∈l:=by
 unfold has;rw[DN];constructor
 · rintro⟨y,hy,e⟩;rw[←eq_of_beq e];exact hy
 · intro h;exact⟨x,h,by simp⟩
theorem Rw{W:List Int}(w:Web W){p q x:Int}(hp:Post W p)(hq:Post W q):x∈wayB W q p↔x∈wayB W p q:=by rw[Qk w hp hq];simp
theorem UY{W:List Int}(w:Web W){p:Int}(hp:Post W p):wayB W p p=[p]:=
 (Lc w (l:=[p]) ⟨rfl,rfl,by simp,λx hx=>by rw[Ak.mp hx];exact hp,trivial⟩).symm
theorem Ox{W:List Int}(w:Web W){p x:Int}(hp:Post W p)(hx:Post W x)(h:Adj W p x):x≠p:=by
 rcases QF w hp hx h with⟨e,h0⟩ | ⟨e,h0⟩
 · have:=par_lt w hp h0;omega
 · have:=par_lt w hx h0;omega
theorem Qj{W:List Int}(w:Web W){p x:Int}(hp:Post W p)(hx:Post W x)(h:Adj W p x):wayB W p x=[p,x]:=by
 refine(Lc w (l:=[p,x]) ⟨rfl,rfl,?_,λy hy=>?_,⟨h,trivial⟩⟩).symm
 · have:=Ox w hp hx h;simp;exact λz=>this z.symm
 · simp at hy;rcases hy with rfl | rfl
   · exact hp
   · exact hx
theorem M8{W:List Int}(w:Web W){p q x:Int}(hp:Post W p)(hq:Post W q)(hx:Post W x)(h:Adj W p x):x∈wayB W q p↔(p≠q∧(wayB W p q).take 2=[p,x]):=by
 rw[Rw w hp hq];have ne:=Ox w hp hx h;constructor
 · intro hm;refine⟨λz=>?_,?_⟩
   · subst z;rw[UY w hp] at hm;exact ne (Ak.mp hm)
   · obtain⟨a,b,e⟩:=Er hm;have:=Lc w ((LA w hp hq).pre e);rw[Qj w hp hx h] at this;have e2:wayB W p q=[p,x]++b:=by rw[e,←this];simp
     rw[e2];rfl
 · rintro⟨_,hm⟩;have:x∈(wayB W p q).take 2:=by rw[hm];simp
   exact Dr this
def kids(W:List Int)(p:Int):List Int:=((AG W.length).filter (λi=>W.getD i 0==p)).map (λ(i:Nat)=>(i:Int)+1)
def roads(W:List Int)(p:Int):List Int:=(if 0<p then [par W p] else [])++kids W p
theorem roads_adj{W:List Int}(w:Web W){p x:Int}(hp:Post W p)(hx:x∈roads W p):Post W x∧Adj W p x:=by
 unfold roads at hx;rcases As.mp hx with z | z
 · by_cases h0:0<p
   · rw[if_pos h0,Ak] at z;subst z;exact⟨par_post w hp h0,Qc w hp h0⟩
   · rw[if_neg h0] at z;simp at z
 · unfold kids at z;rw[Ax] at z;obtain⟨i,hi,rfl⟩:=z;rw[BJ,Be] at hi;obtain⟨i1,i2⟩:=hi;have e:W.getD i 0=p:=eq_of_beq i2;have hx:Post W ((i:Int)+1):=⟨by omega,by omega⟩;have hpar:par W ((i:Int)+1)=p:=by
    unfold par;rw[show((i:Int)+1 - 1).toNat=i by omega];exact e
   have:=Qc w hx (by omega);rw[hpar] at this;exact⟨hx,this.symm⟩
theorem adj_roads{W:List Int}(w:Web W){p x:Int}(hp:Post W p)(hx:Post W x)(h:Adj W p x):x∈roads W p:=by
 unfold roads;rcases QF w hp hx h with⟨e,h0⟩ | ⟨e,h0⟩
 · rw[if_pos h0];exact AO _ (by rw[e];simp)
 · refine Ao _ ?_;unfold kids;rw[Ax];obtain⟨k,hk⟩:=Dw (show 0≤x - 1 by omega);refine⟨k,?_,by omega⟩;rw[BJ,Be];refine⟨by have:=hx.2;omega,?_⟩;rw[e];unfold par;rw[hk];simp
theorem kids_len(W:List Int)(p:Int):(kids W p).length≤W.length:=by unfold kids;rw[Ab];exact AM (BC _ _) (by simp)
def sideL(W:List Int)(p q:Int):List Int:=((AG (W.length+1)).map (λ(i:Nat)=>(i:Int))).filter (λx=>has (wayB W x p) q)
theorem side_mem{W:List Int}{p q x:Int}:x∈sideL W p q↔Post W x∧q∈wayB W x p:=by
 unfold sideL;rw[BJ,has_iff,Ax];constructor
 · rintro⟨⟨i,hi,rfl⟩,h⟩;rw[Be] at hi;exact⟨⟨by omega,by omega⟩,h⟩
 · rintro⟨hx,h⟩;exact⟨⟨x.toNat,Be.mpr (by have:=hx.1;have:=hx.2;omega),by have:=hx.1;omega⟩,h⟩
end WB
namespace WB
end WB
namespace L2
def Ur:Sp:=λvs H Q _=>∃(a:Addr)(W:List Int)(p:Int),vs=[.ref a,.int p]∧WebAt H a W∧WB.Post W p∧∀l H',Same H H'→H l=none→H' l=some (.lst ((WB.roads W p).map V.int))→Q (.ref l) H'
section
variable{te:TE}{pos p2 p3 p4:Pos}
def ziC(te:TE):TE:=λσ H Q=>te σ H λx H1=>∃j:Nat,[x]=[V.int j]∧j≤10000∧∀l,H1 l=none→Q (.ref l) (IU H1 l (.lst (((AG j).map (λ(i:Nat)=>(i:Int))).map V.int)))
theorem zgo(hc:X.calm=true)(he:PE X e te)(hg:Gl X "list")(hm:X.mg "list"=none)(hg2:Gl X "range")(hm2:X.mg "range"=none)
 (h1:A9 [e] X.env=(false,eval e X.env)::A9 [] X.env:=by rfl)
 (h2:A9 [.Call (.Name "range" p2) [e] [] p3] X.env=(false,eval (.Call (.Name "range" p2) [e] [] p3) X.env)::A9 [] X.env:=by rfl)
 (h3:(backTo p3 (A9 [] X.env)).any (·.1)=false:=by rfl) (h4:(backTo pos (A9 [] X.env)).any (·.1)=false:=by rfl):
 PE X (.Call (.Name "list" p4) [.Call (.Name "range" p2) [e] [] p3] [] pos) (ziC te):=by
 intro pins s σ H Q I h;refine Bq (K2 I hg hm KN ?_ (by decide) (by decide));refine Bp ?_ h2 h4;rw[h2];show wpAny _ _ (spliced ((false,eval (.Call (.Name "range" p2) [e] [] p3) X.env)::backTo pos (A9 [] X.env))) _ _ s;refine CK ?_;refine Bq (K2 I hg2 hm2 boot_range ?_ (by decide) (by decide));refine Bp (I_ (IS he IT h1 p3 pins s σ H (λvs H1=>∃j:Nat,vs=[V.int j]∧j≤10000∧∀l,H1 l=none→Q (.ref l) (IU H1 l (.lst (((AG j).map (λ(i:Nat)=>(i:Int))).map V.int)))) I h) λus s1 ⟨vs,H1,I1,r1,j,hv,hj,q⟩=>?_) h1 h3;subst hv;obtain⟨u1,rfl,v1⟩:=KC r1;obtain⟨t,rfl⟩:=v1;refine call_range_1 ?_;refine CV ?_;generalize hh:(s1.heap.push {cls:= .type "range",data:= .fields #[.int 0 s1.toks,.int (j:Int) t,.int 1 (s1.toks+1)]})=h2;have I2:Inv X pins σ H1 {s1 with heap:=h2,toks:=s1.toks+1+1}:=I1.kept λb o e=>by rw[←hh];exact Ad _ e
 have hr:IsRange h2 s1.heap.objs.size 0 j 1 s1.toks t (s1.toks+1):=by rw[←hh];exact IsRange.new ..
 have hsz:Gd 0 j 1=((j:Nat):Int):=by rw[rangeSize_one];split<;>omega
 refine call_list_range (s:={s1 with heap:=h2,toks:=s1.toks+1+1}) (I2.ok.hd hc) hr (small_one (by decide) (by decide) (by omega) (by omega)) hsz (by omega) λh' tk acc' c' hk hS' hacc=>?_
 have hn:H1 h2.objs.size=none:=I2.hok.fresh (Af _);refine⟨.ref h2.objs.size,IU H1 h2.objs.size (.lst (((AG j).map (λ(i:Nat)=>(i:Int))).map V.int)),I2.laid (t':=tk) hk (Af _) ?_,rfl,q _ hn⟩;refine⟨by rw[Ab,Ab,BF,sizeLine_eq];omega,acc'.toList,c',?_,by simpa using hS'⟩;have aux:∀(us:List Value)(k:Nat),(∀(i:Nat)(v:Value),us[i]?=some v→∃t,v= .int ((k+i:Nat):Int) t)→Vals (((List.range' k us.length).map (λ(i:Nat)=>(i:Int))).map V.int) us:=by
  intro us
  induction us with
  | nil=>intro k _;exact .nil
  | cons v us ih=> intro k hv;rw[AA,List.range'_succ,AC,AC];obtain⟨t,e⟩:=hv 0 v rfl;refine .cons ⟨t,by rw[e];rfl⟩ (ih (k+1) λi w hw=>?_);obtain⟨t,e⟩:=hv (i+1) w (by simpa using hw);exact⟨t,by rw[e];congr 1;omega⟩
 have:=aux acc'.toList 0 (λi v hv=>by obtain⟨t,e⟩:=hacc.2 i v (by simpa using hv);exact⟨t,by rw[e];congr 1;omega⟩);rw[Ah,hacc.1] at this;rw[List.range_eq_range'];exact this
end
end L2
namespace WB
theorem XT{W:List Int}(w:Web W){p x:Int}(h:x∈kids W p):p<x:=by
 unfold kids at h;rw[Ax] at h;obtain⟨i,hi,rfl⟩:=h;rw[BJ,Be] at hi;have e:W.getD i 0=p:=eq_of_beq hi.2;have e2:W[i]?=some p:=by rw[Cv,AK hi.1] at e;rw[AK hi.1];exact congrArg some e
 have:=w.2 i p e2;omega
theorem zhE(W:List Int)(p:Int):(kids W p).Pairwise (· < ·):=by
 unfold kids;refine List.Pairwise.map (R:=(· < ·)) _ (λa b h=>?_) ?_
 · have:a<b:=h;show(a:Int)+1<(b:Int)+1;omega
 · exact(D8).filter _
theorem roads_rise{W:List Int}(w:Web W){p:Int}(hp:Post W p):(roads W p).Pairwise (· < ·):=by
 unfold roads;rw[GQ];refine⟨?_,zhE W p,λx hx y hy=>?_⟩
 · split<;>simp
 · by_cases h:0<p
   · rw[if_pos h,Ak] at hx;have:=par_lt w hp h;have:=XT w hy;omega
   · rw[if_neg h] at hx;simp at hx
theorem rise_nodup{l:List Int}(h:l.Pairwise (· < ·)):l.Nodup:=h.imp (λh=>by omega)
theorem R0(n:Nat):((AG n).map (λ(i:Nat)=>(i:Int))).Pairwise (· < ·):=by refine List.Pairwise.map (R:=(· < ·)) _ (λa b h=>?_) D8;have:a<b:=h;show(a:Int)<(b:Int);omega
theorem Vw(W:List Int)(p q:Int):(sideL W p q).Pairwise (· < ·):=(R0 _).filter _
theorem nodup_len:∀(n:Nat)(l:List Int),l.Nodup→(∀x∈l,0≤x∧x<(n:Int))→l.length≤n
 | 0,l,_,h=>by
  cases l with
  | nil=>simp
  | cons x l=>have:=h x (Ai ..);omega
 | n+1,l,hn,h=>by
  by_cases hm:(n:Int)∈l
  · have h1:=nodup_len n (l.erase (n:Int)) (hn.erase _) (λx hx=>by
     rw[hn.mem_erase_iff] at hx;have:=h x hx.2;have h3:x≠(n:Int):=hx.1;omega)
    rw[FX hm] at h1;omega
  · have:=nodup_len n l hn (λx hx=>by
     have h2:=h x hx;have:x≠(n:Int):=λz=>hm (z ▸ hx);omega)
    omega
theorem Path.cons{W l:List Int}{p q y:Int}(h:Path W l p q)(hy:Post W y)(ha:Adj W y p)(hm:y ∉ l):Path W (y::l) y q:=by
 cases l with
 | nil=>have:=h.first;simp at this
 | cons x l=>
  have:x=p:=by have:=h.first;simpa using this
  subst this;refine⟨rfl,?_,List.nodup_cons.mpr ⟨hm,h.nd⟩,λz hz=>?_,⟨ha,h.adj⟩⟩
  · rw[Gn];exact h.last
  · rcases Ar.mp hz with rfl | hz
    · exact hy
    · exact h.posts z hz
theorem Path.tail{W l:List Int}{p q y:Int}(h:Path W (p::y::l) p q):Path W (y::l) y q:=by refine⟨rfl,?_,(Cg.mp h.nd).2,λz hz=>h.posts z (Aj _ hz),h.adj.2⟩;have:=h.last;rw[Gn] at this;exact this
theorem UZ{W:List Int}(w:Web W){x y p:Int}(hx:Post W x)(hy:Post W y)(hp:Post W p)(ha:Adj W x y):
 (y∈wayB W x p∧wayB W x p=x::wayB W y p)∨(y ∉ wayB W x p∧wayB W y p=y::wayB W x p):=by
 have P:=LA w hx hp;by_cases hm:y∈wayB W x p
 · left
   refine⟨hm,?_⟩;obtain⟨a,b,e⟩:=Er hm;have h1:=Lc w (P.pre e);rw[Qj w hx hy ha] at h1;have e2:wayB W x p=x::y::b:=by
    have:a++y::b=(a++[y])++b:=by simp
    rw[e,this,h1];rfl
   rw[e2] at P ⊢;rw[Lc w P.tail]
 · right
   exact⟨hm,(Lc w (P.cons hy ha.symm hm)).symm⟩
theorem side_closed{W:List Int}(w:Web W){p q x y:Int}(hp:Post W p)(hq:Post W q)(hpq:Adj W p q)(hx:x∈sideL W p q)(hy:y∈roads W x)(hyp:y≠p):y∈sideL W p q:=by
 obtain⟨px,mx⟩:=side_mem.mp hx;obtain⟨py,ay⟩:=roads_adj w px hy;refine side_mem.mpr ⟨py,?_⟩;rcases UZ w px py hp ay with⟨m,e⟩ | ⟨m,e⟩
 · rw[e] at mx;rcases Ar.mp mx with h | h
   · subst h;rw[Qj w hq hp hpq.symm] at m;simp at m;rcases m with m | m
     · exact absurd m (Ox w px py ay)
     · exact absurd m hyp
   · exact h
 · rw[e];exact Aj _ mx
theorem side_self{W:List Int}(w:Web W){p q:Int}(hp:Post W p)(hq:Post W q)(hpq:Adj W p q):q∈sideL W p q:=by refine side_mem.mpr ⟨hq,?_⟩;obtain⟨t,e⟩:=Nc w hq hp;rw[e];exact Ai ..
theorem side_all{W:List Int}(w:Web W){p q:Int}(hp:Post W p)(hq:Post W q)(hpq:Adj W p q){F:List Int}(h0:q∈F)(hF:∀x∈F,∀y∈roads W x,y=p∨y∈F):∀x∈sideL W p q,x∈F:=by
 intro x hx;obtain⟨px,mx⟩:=side_mem.mp hx;have st:=(M8 w hp px hq hpq).mp mx;have P:=LA w hp px;obtain⟨b,e⟩:∃b,wayB W p x=p::q::b:=by
  have:=st.2
  match hh:wayB W p x,this with
  | [],h=>simp at h
  | [a],h=>simp at h
  | a::c::b,h=>simp at h;exact⟨b,by rw[h.1,h.2]⟩
 rw[e] at P;have PT:=P.tail;have np:∀z∈q::b,z≠p:=λz hz h=>(Cg.mp P.nd).1 (h ▸ hz);have all:∀(l:List Int)(q:Int),q∈F→Adjs W (q::l)→(∀z∈q::l,Post W z)→(∀z∈q::l,z≠p)→∀z∈q::l,z∈F:=by
  intro l
  induction l with
  | nil=>intro q hq _ _ _ z hz;rw[Ak.mp hz];exact hq
  | cons y l ih=>
   intro q hq ha hposts hnp z hz;have hy:y∈F:=by
    have hyr:=adj_roads w (hposts q (Ai ..)) (hposts y (Aj _ (Ai ..))) ha.1;rcases hF q hq y hyr with h | h
    · exact absurd h (hnp y (Aj _ (Ai ..)))
    · exact h
   rcases Ar.mp hz with rfl | hz
   · exact hq
   · exact ih y hy ha.2 (λz hz=>hposts z (Aj _ hz)) (λz hz=>hnp z (Aj _ hz)) z hz
 have hl:=PT.last;exact all b q h0 PT.adj PT.posts np x (GP hl)
theorem VU{W:List Int}(w:Web W){p q:Int}(hp:Post W p)(hq:Post W q)(hpq:Adj W p q):(sideL W p q++sideL W q p).Perm ((AG (W.length+1)).map (λ(i:Nat)=>(i:Int))):=by
 have xor:∀x,Post W x→(q∈wayB W x p↔¬p∈wayB W x q):=by
  intro x hx;rw[Rw w hp hx,Rw w hq hx];rcases UZ w hp hq hx hpq with⟨m,e⟩ | ⟨m,e⟩
  · refine⟨λ_ z=>?_,λ_=>m⟩;have nd:=(LA w hp hx).nd;rw[e] at nd;exact(Cg.mp nd).1 z
  · refine⟨λz=>absurd z m,λz=>absurd ?_ z⟩;rw[e];obtain⟨t,et⟩:=Nc w hp hx;rw[et];simp
 rw[Fy]
 · intro x;rw[As,side_mem,side_mem,Ax];constructor
   · rintro(⟨hx,_⟩ | ⟨hx,_⟩)
     all_goals exact⟨x.toNat,Be.mpr (by have:=hx.1;have:=hx.2;omega),by have:=hx.1;omega⟩
   · rintro⟨i,hi,rfl⟩;rw[Be] at hi;have hx:Post W (i:Int):=⟨by omega,by omega⟩;by_cases h:q∈wayB W (i:Int) p
     · exact .inl ⟨hx,h⟩
     · refine .inr ⟨hx,?_⟩;by_cases h2:p∈wayB W (i:Int) q
       · exact h2
       · exact absurd ((xor _ hx).mpr h2) h
 · rw[Bf];refine⟨rise_nodup (Vw ..),rise_nodup (Vw ..),λx hx y hy z=>?_⟩;subst z;obtain⟨px,mx⟩:=side_mem.mp hx;exact(xor x px).mp mx (side_mem.mp hy).2
 · exact rise_nodup (R0 _)
end WB
namespace L2
inductive DX where
 | non
 | bl (b:Bool)
 | int (i:Int)
 | str (x:Str)
 | lst (ds:List DX)
 | tup (ds:List DX)
 | dic
mutual
def pd:DX→PyData
 | .non=> .none
 | .bl b=> .bool b
 | .int i=> .int i
 | .str x=> .str x
 | .lst ds=> .list (R_ ds)
 | .tup ds=> .tuple (R_ ds)
 | .dic=> .dict []
def R_:List DX→List PyData
 | []=>[]
 | d::ds=>pd d::R_ ds
end
open PySem.AutoSeq1 (wpAny_loadPart')
open PySem.MeetsSeq PySem.MeetsSeq2 PySem.MeetsSeq3 PySem.SeqRoads2
def ML(P:Bw)(w:World)(A:Cw)(s:Shared)(y x:Value):Prop:=∀(E:Value→Shared→Prop)(Q:Bool→Shared→Prop),Q true s→wpAny (model P w) A (eqBool y x) Q E s
open PySem PySem.Spec PyProof.Rows PySem.Calls
section
variable{κ:Type}[DecidableEq κ]{knd:KeyKind P w κ}
end
inductive DY where
 | non
 | bl (b:Bool)
 | int (i:Int)
 | str (x:Str)
 | lst (ds:List DY)
 | tup (ds:List DY)
 | dic
 | da (d:DY)
mutual
def RepY(H:Hp):DY→V→Prop
 | .non,v=>v= .non
 | .bl b,v=>v= .bl b
 | .int i,v=>v= .int i
 | .str x,v=>v= .str x∧x.length≤900
 | .lst ds,v=>∃a xs,v= .ref a∧H a=some (.lst xs)∧ds.length≤900∧RepYs H ds xs
 | .tup ds,v=>∃a xs,v= .ref a∧H a=some (.tup xs)∧ds.length≤900∧RepYs H ds xs
 | .dic,v=>∃a,v= .ref a∧H a=some (.dK [])
 | .da d,v=>∃a u,v= .ref a∧H a=some (.dK [(.inr "a",u)])∧RepY H d u
def RepYs(H:Hp):List DY→List V→Prop
 | [],xs=>xs=[]
 | d::ds,xs=>∃x r,xs=x::r∧RepY H d x∧RepYs H ds r
end
mutual
theorem RepY.same{H':Hp}(s:Same H H'):∀(d:DY){v:V},RepY H d v→RepY H' d v
 | .non,v,h=>by rw[RepY] at*;exact h
 | .bl b,v,h=>by rw[RepY] at*;exact h
 | .int i,v,h=>by rw[RepY] at*;exact h
 | .str x,v,h=>by rw[RepY] at*;exact h
 | .lst ds,v,h=>by rw[RepY] at*;obtain⟨a,xs,e,h1,h0,h2⟩:=h;exact⟨a,xs,e,s _ _ h1,h0,RepYs.same s ds h2⟩
 | .tup ds,v,h=>by rw[RepY] at*;obtain⟨a,xs,e,h1,h0,h2⟩:=h;exact⟨a,xs,e,s _ _ h1,h0,RepYs.same s ds h2⟩
 | .dic,v,h=>by rw[RepY] at*;obtain⟨a,e,h1⟩:=h;exact⟨a,e,s _ _ h1⟩
 | .da d,v,h=>by rw[RepY] at*;obtain⟨a,u,e,h1,h2⟩:=h;exact⟨a,u,e,s _ _ h1,RepY.same s d h2⟩
theorem RepYs.same{H':Hp}(s:Same H H'):∀(ds:List DY){xs:List V},RepYs H ds xs→RepYs H' ds xs
 | [],xs,h=>by rw[RepYs] at*;exact h
 | d::ds,xs,h=>by rw[RepYs] at*;obtain⟨x,r,e,h1,h2⟩:=h;exact⟨x,r,e,RepY.same s d h1,RepYs.same s ds h2⟩
end
theorem RepYs.length:∀{ds:List DY}{xs:List V},RepYs H ds xs→xs.length=ds.length
 | [],xs,h=>by rw[RepYs] at h;rw[h];rfl
 | d::ds,xs,h=>by rw[RepYs] at h;obtain⟨x,r,rfl,_,h⟩:=h;rw[AA,AA,RepYs.length h]
theorem RepYs.get:∀{ds:List DY}{xs:List V}{i:Nat}{x:V},RepYs H ds xs→xs[i]?=some x→∃d,ds[i]?=some d∧RepY H d x
 | [],xs,i,x,h,e=>by rw[RepYs] at h;subst h;simp at e
 | d::ds,xs,0,x,h,e=>by rw[RepYs] at h;obtain⟨y,r,rfl,h1,h2⟩:=h;simp at e;subst e;exact⟨d,rfl,h1⟩
 | d::ds,xs,i+1,x,h,e=>by rw[RepYs] at h;obtain⟨y,r,rfl,h1,h2⟩:=h;simp at e;obtain⟨d',e1,e2⟩:=RepYs.get h2 e;exact⟨d',by simpa using e1,e2⟩
mutual
def J6:DY→Nat
 | .lst ds=>Ki ds+1
 | .tup ds=>Ki ds+1
 | .da d=>J6 d+1
 | _=>0
def Ki:List DY→Nat
 | []=>0
 | d::ds=>max (J6 d) (Ki ds)
end
theorem Wo:Ko X (.builtin "isinstance") (λxs H Q=>∃x t tp cs b,xs=[x,.ref tp]∧TyOf X.K H x (.type t)∧H tp=some (.tup cs)∧cs.all P7=true∧PySem.W.kitAny X.K (.type t) (cs.map Mb)=some b∧Q (.bl b) H):=by
 intro pins s σ H xs us Q I r h;obtain⟨x,t,tp,cs,b,rfl,ty,ht,hc,e,q⟩:=h;obtain⟨u,w',rfl,ru,rw'⟩:=M2 r;cases(show w'=Value.ref tp from rw');obtain⟨_,its,rv,o,h1,h2,h3,n,h4⟩:=(show ObjOk X.prog X.w H s.heap tp (.tup cs) from I.hok tp _ ht);obtain⟨oc,od,oda,osl⟩:=o;dsimp only at h2 h3 h4;subst h2 h3 h4;have hi:its=cs.map Mb:=V4 hc rv;subst hi;have fin:∀tk,EP X pins σ Q (.bool b) {s with toks:=tk}:=λtk=>⟨.bl b,H,I.tok tk,rfl,q⟩
 generalize ht':(Value.type t)=T at ty e;cases ty with
 | non=>cases(show u=Value.none from ru);exact C2 PySem.W.kitx_none I.kIn True.intro h1 e (λz=>nomatch z) fin
 | bl y=>cases(show u=Value.bool y from ru);exact C2 PySem.W.kitx_bool I.kIn True.intro h1 e (λz=>nomatch z) fin
 | int i=>obtain⟨t,q⟩:=(show ∃t,u=Value.int i t from ru);cases q;exact C2 PySem.W.kitx_int I.kIn True.intro h1 e (λz=>nomatch z) fin
 | str y=>obtain⟨t,q⟩:=(show ∃t,u=Value.str y t from ru);cases q;exact C2 PySem.W.kitx_str I.kIn True.intro h1 e (λz=>nomatch z) fin
 | flt y=>obtain⟨t,q⟩:=(show ∃t,u=Value.float y t from ru);cases q;exact C2 PySem.W.kitx_float I.kIn True.intro h1 e (λz=>nomatch z) fin
 | @lst a xs ea=> cases(show u=Value.ref a from ru);obtain⟨_,_,n,_,g1⟩:=(show ObjOk X.prog X.w H s.heap a (.lst xs) from I.hok a _ ea);exact C2 Ex I.kIn ⟨_,g1,rfl⟩ h1 e (λz=>nomatch z) fin
 | @tup a xs ea=> cases(show u=Value.ref a from ru);obtain⟨_,_,_,o,g1,g2,_⟩:=(show ObjOk X.prog X.w H s.heap a (.tup xs) from I.hok a _ ea);exact C2 PySem.W.kitx_tuple I.kIn ⟨o,g1,g2⟩ h1 e (λz=>nomatch z) fin
 | @dK a kvs ea=> cases(show u=Value.ref a from ru);obtain⟨_,_,vs,_,p⟩:=(show ObjOk X.prog X.w H s.heap a (.dK kvs) from I.hok a _ ea);obtain⟨o,es,ep,g1,g2,_⟩:=p;exact C2 Ey I.kIn ⟨o,g1,g2.1⟩ h1 e (λz=>nomatch z) fin
 | @frz a ob xs ea=> cases(show u=Value.ref a from ru);obtain⟨_,_,_,n,_,g1⟩:=(show ObjOk X.prog X.w H s.heap a (.frz ob (.lst xs)) from I.hok a _ ea);exact C2 Ex I.kIn ⟨_,g1,rfl⟩ h1 e (λz=>nomatch z) fin
 | @dT a kvs ea=> cases(show u=Value.ref a from ru);obtain⟨_,_,xs,_,o,es,ep,g1,g2,_⟩:=(show ObjOk X.prog X.w H s.heap a (.dT kvs) from I.hok a _ ea);exact C2 Ey I.kIn ⟨o,g1,g2.1⟩ h1 e (λz=>nomatch z) fin
 | ins=>cases ht'
def So(b g:Addr)(H:Hp):Hp:=λa=>if a=b∨a=g then none else H a
def PN(D:Nat)(sp:Nat→Sp):Sp:=λvs H Q E=>∃n,n≤D∧sp n vs H Q E
section
variable{K:Ae}{mg:Str→Option Value}{base:Heap}
def Xm:Sp:=λ_ _ _ _=>False
theorem Tw{st:Stmt}{f:Addr}{fd:Cc}{N ps:List Str}(F:Fun K x x st f fd)(S:FnScope N ps (Jh st))(b:Binds K fd ps [])(M:mg x=some (.ref f))(L:Nat)(sp:Nat→Sp)
 (step:∀n sp0,(∀m,n=m+1→sp0=sp m)→Jr P w K mg base (L+1+n) x ps sp0→FnOk P w K mg base Jp (L+1+n+1) f fd ps (sp n)):∀n,FnOk P w K mg base Jp (L+1+n+1) f fd ps (sp n)
 | 0=>step 0 Xm (λm z=>by cases z) ⟨f,fd,F.ok (k:=L) S (λ_ _ _ _ h=>h.elim) (λ_ _ _ _ _ _ _ _ _ h=>h.elim),b,F.kp,M⟩
 | n+1=>step (n+1) (sp n) (λm z=>by cases z;rfl) ⟨f,fd,Tw F S b M L sp step n,b,F.kp,M⟩
theorem YE{f:Addr}{fd:Cc}{ps:List Str}{L D:Nat}{sp:Nat→Sp}(h:∀n,FnOk P w K mg base Jp (L+1+n+1) f fd ps (sp n)):FnOk P w K mg base Jp (L+D+2) f fd ps (PN D sp):=
 ⟨λvs H Q E ⟨n,_,q⟩=>(h n).len vs H Q E q,λA outer s H args us vs Q E hr he hb hv ⟨n,hn,q⟩=>(h n).run A outer s H args us vs Q E (hr.mono (by omega)) he hb hv q⟩
end
def NT(K:Ae):R2:=λx y H Q=>∃p xs i v,x= .ref p∧y= .int i∧(SqL K H p xs∨SqT K H p xs)∧JI xs i=some v∧Q v H
theorem WR:Mt X (NT X.K):=by
 intro value slice pins s σ H x y v u Q I rx ry h hs;obtain⟨p,xs,i,z,rfl,rfl,hq,he,q⟩:=h;rcases hq with hq | hq
 · exact JA value slice pins s σ H _ _ v u Q I rx ry ⟨p,xs,i,z,rfl,rfl,hq,he,q⟩ hs
 · exact KO value slice pins s σ H _ _ v u Q I rx ry ⟨p,xs,i,z,rfl,rfl,hq,he,q⟩ hs
theorem TR(K:Ae)(h:X.K=K):Mt X (NT K):=by subst h;exact WR
def eD:Option Int→DY
 | none=> .non
 | some i=> .int i
theorem U4(H:Hp)(o:Option Int):RepY H (eD o) (eV o):=by
 cases o with
 | none=>show RepY H .non .non;rw[RepY]
 | some i=>show RepY H (.int i) (.int i);rw[RepY]
theorem Zx(o:Option Int):J6 (eD o)=0:=by cases o<;>rfl
theorem RepYs.nil:RepYs H [] []:=by rw[RepYs]
theorem RepYs.cons{d:DY}{ds:List DY}{x:V}(h:RepY H d x)(hs:RepYs H ds xs):RepYs H (d::ds) (x::xs):=by rw[RepYs];exact⟨x,xs,rfl,h,hs⟩
theorem O5{ds:List DY}(h:H a=some (.lst xs))(hs:RepYs H ds xs)(hl:xs.length≤900):RepY H (.lst ds) (.ref a):=by rw[RepY];exact⟨a,xs,rfl,h,by rw[←hs.length];exact hl,hs⟩
theorem MA{ds:List DY}(h:H a=some (.tup xs))(hs:RepYs H ds xs)(hl:xs.length≤900):RepY H (.tup ds) (.ref a):=by rw[RepY];exact⟨a,xs,rfl,h,by rw[←hs.length];exact hl,hs⟩
theorem LC:∀{ds:List DY}{m:Nat},(∀d∈ds,J6 d≤m)→Ki ds≤m
 | [],m,_=>by rw[Ki];exact Bc _
 | d::ds,m,h=>by rw[Ki];have h1:=h d (Ai ..);have h2:=LC λe he=>h e (Aj _ he);omega
theorem QX:∀{ds:List DY}{d:DY},d∈ds→J6 d≤Ki ds
 | [],d,h=>nomatch h
 | e::ds,d,h=>by
  rw[Ki];rcases Ar.mp h with rfl | h
  · omega
  · have:=QX h;omega
theorem L9{t u:TS}{D:Ends}(M:St→Hp→Prop)(h1:∀Z:St→Hp→Prop,(∀σ' H',M σ' H'→Z σ' H')→t {D with nx:=Z} σ H)(h2:∀σ' H',M σ' H'→u D σ' H'):Lq t u D σ H:=h1 (u D) h2
theorem WishAt.tyN{w:List WP}(h:WishAt H a w):∃xs,H a=some (.tup xs)∧xs.length=w.length:=by obtain⟨ps,rfl,e,_⟩:=h;exact⟨_,e,by simp⟩
structure WsAt(H:Hp)(l:Addr)(ws:List (Addr×List WP)):Prop where
 at':H l=some (.lst (ws.map λx=>V.ref x.1))
 ok:∀x∈ws,WishAt H x.1 x.2∧WOk x.2
 len:ws.length≤800
theorem WsAt.same{H':Hp}{l:Addr}{ws:List (Addr×List WP)}(h:WsAt H l ws)(s:Same H H'):WsAt H' l ws:=⟨s _ _ h.at',λx hx=>⟨(h.ok x hx).1.same s,(h.ok x hx).2⟩,h.len⟩
def Uo:Sp:=λvs H Q _=>∃(l:Addr)(ws:List (Addr×List WP)),vs=[.ref l]∧WsAt H l ws∧∀H',Same H H'→Q (.bl true) H'
def Lw(p:WP):DY:= .tup [.str p.1,eD p.2.1,eD p.2.2]
def Lh(w:List WP):DY:= .tup (w.map Lw)
theorem V_:∀ps:List (Addr×WP),(∀p∈ps,H p.1=some (.tup [.str p.2.1,eV p.2.2.1,eV p.2.2.2]))→(∀p∈ps,p.2.1.length≤8)→RepYs H ((ps.map (·.2)).map Lw) (ps.map λp=>V.ref p.1)
 | [],_,_=>RepYs.nil
 | p::ps,h,hl=>by refine RepYs.cons ?_ (V_ ps (λx hx=>h x (Aj _ hx)) λx hx=>hl x (Aj _ hx));refine MA (h p Ai) (RepYs.cons ?_ (RepYs.cons (U4 H _) (RepYs.cons (U4 H _) RepYs.nil))) (by simp);rw[RepY];exact⟨rfl,AM (hl p Ai) (by decide)⟩
theorem zjK{w:List WP}(h:WishAt H a w)(ok:WOk w):RepY H (Lh w) (.ref a):=by obtain⟨ps,rfl,e,f⟩:=h;refine MA e (V_ ps f λp hp=>?_) (by have:=ok.len;rw[Ab] at*;omega);exact(ok.ok p.2 (Bs hp)).1.eight
theorem Ws:∀ws:List (Addr×List WP),(∀x∈ws,WishAt H x.1 x.2∧WOk x.2)→RepYs H ((ws.map (·.2)).map Lh) (ws.map λp=>V.ref p.1)
 | [],_=>RepYs.nil
 | x::ws,h=>RepYs.cons (zjK (h x Ai).1 (h x Ai).2) (Ws ws λy hy=>h y (Aj _ hy))
theorem WsAt.repY{l:Addr}{ws:List (Addr×List WP)}(h:WsAt H l ws):RepY H (.lst ((ws.map (·.2)).map Lh)) (.ref l):=
 O5 h.at' (Ws ws h.ok) (by have:=h.len;rw[Ab];omega)
theorem ZX(w:List WP):J6 (Lh w)≤2:=by
 unfold Lh;rw[J6];have:Ki (w.map Lw)≤1:=LC λd hd=>by obtain⟨p,_,rfl⟩:=Ax.mp hd;unfold Lw;simp only[J6,Ki,Zx];omega
 omega
theorem zi5(ws:List (List WP)):J6 (.lst (ws.map Lh))≤3:=by
 rw[J6];have:Ki (ws.map Lh)≤2:=LC λd hd=>by obtain⟨p,_,rfl⟩:=Ax.mp hd;exact ZX p
 omega
open PySem.AutoSeq1 (wpAny_loadPart')
open PySem.MeetsSeq PySem.MeetsSeq2 PySem.MeetsSeq3 PySem.SeqRoads2 PySem.Calls
theorem zhy(l b:Addr)(items items2:Array Value)(n n2:Nat)(dd dd2:Option Addr)(sl sl2:Array (Option Value))(hsz:items.size=items2.size)(k:Nat):
 ∀i:Nat,items.size - i=k→∀(A:Cw)(R:Result→Shared→Prop)(s:Shared),s.heap.get? l=some {cls:= .type "list",dict:=dd,data:= .seq items n,slots:=sl}→s.heap.get? b=some {cls:= .type "list",dict:=dd2,data:= .seq items2 n2,slots:=sl2}→
  (∀j(h1:j<items.size)(h2:j<items2.size),ML P w A.in1 s items[j] items2[j])→R (.ok (.ret (.bool false))) s→
  wpAny (model P w) A.in1 (Builtin.«list.__eq__.loop» ⟨[.ref l,.ref b,rawInt i,rawInt 3],[]⟩) (λfin s'=>match fin with | .done f=>R (.ok f) s' | .again c'=>c'.quiet=true∧codeAny (model P w) A c' R s') (λe s'=>R (.error e) s') s:=by
 induction k with
 | zero=>
  intro i hk A R s hl hb he h;obtain⟨hp,g,d,tk,os⟩:=s
  wp_walk using CU hl,CU hb
  have o1:items[((i:Nat):Int).toNat]?=none:=by simp;omega
  have o2:items2[((i:Nat):Int).toNat]?=none:=by simp;omega
  rw[o1,o2]
  wp_walk using CU hl,CU hb
  show R (.ok (.ret (.bool (items.size !=items2.size)))) _;rw[hsz];simpa using h
 | succ k ih=>
  intro i hk A R s hl hb he h;obtain⟨hp,g,d,tk,os⟩:=s
  wp_walk using CU hl,CU hb
  have lt1:i<items.size:=by omega
  have ME:i<items2.size:=by omega
  have o1:items[((i:Nat):Int).toNat]?=some items[i]:=by simp[lt1]
  have o2:items2[((i:Nat):Int).toNat]?=some items2[i]:=by simp[ME]
  have hc:((i:Int)+1)=((i+1:Nat):Int):=by push_cast;rfl
  rw[o1,o2];refine Aa (he i lt1 ME _ _ ?_)
  wp_walk
  rw[hc];exact⟨BW plain_eq_loop _,Br entry_eq_loop (by rw[AY plain_eq_loop _];exact ih (i+1) (by omega) A R _ hl hb he h)⟩
theorem WZ(l b:Addr)(items items2:Array Value)(n n2:Nat)(dd dd2:Option Addr)(sl sl2:Array (Option Value))(hsz:items.size=items2.size)(A:Cw)(R:Result→Shared→Prop)(s:Shared)
 (hl:s.heap.get? l=some {cls:= .type "list",dict:=dd,data:= .seq items n,slots:=sl}) (hb:s.heap.get? b=some {cls:= .type "list",dict:=dd2,data:= .seq items2 n2,slots:=sl2})
 (he:∀j(h1:j<items.size)(h2:j<items2.size),ML P w A.in1 s items[j] items2[j]) (h:R (.ok (.ret (.bool false))) s):
 wpAny (model P w) A.in1 (Builtin.«list.__ne__» ⟨[.ref l,.ref b],[]⟩) (λfin s'=>match fin with | .done f=>R (.ok f) s' | .again c'=>c'.quiet=true∧codeAny (model P w) A c' R s') (λe s'=>R (.error e) s') s:=by
 obtain⟨hp,g,d,tk,os⟩:=s;have f3:=AutoSeq1.sub_list_list;have hne:¬(items.size !=items2.size)=true:=by simp[hsz]
 wp_walk using CU hl,CU hb
 exact⟨BW plain_eq_loop _,Br entry_eq_loop (by rw[AY plain_eq_loop _];exact zhy l b items items2 n n2 dd dd2 sl sl2 hsz _ 0 rfl A R _ hl hb he h)⟩
theorem Y1{l:Addr}{items items2:Array Value}{E:Value→Shared→Prop}{Q:Value→Shared→Prop}(hl:s.heap.IsList l items)(hb:s.heap.IsList b items2)(hsz:items.size=items2.size)(hu:A.units<cLine)
 (he:∀j(h1:j<items.size)(h2:j<items2.size),ML P w A.in1 s items[j] items2[j]) (h:Q (.bool false) s):wpAny (model P w) A (richCompare .NotEq (.ref l) (.ref b)) Q E s:=by
 obtain⟨⟨c1,dd,data,sl⟩,ho,hc,n,hd⟩:=id hl;obtain⟨⟨c2,dd2,data2,sl2⟩,ho2,hc2,n2,hd2⟩:=id hb;simp only at hc hd hc2 hd2;subst hc hd hc2 hd2;refine Fn (op:= .NotEq) ⟨_,ho,rfl⟩ ⟨_,ho2,rfl⟩ F.slot_list_ne ?_ hu;refine wpAny_call (EQ F.slot_list_ne.plain F.entry_list_ne (F.slot_list_ne.check _ _ _ _ _ _ _ _ ⟨_,ho,rfl⟩ (F.args_list_ne_2 _ _) ?_));exact WZ l b items items2 n n2 dd dd2 sl sl2 hsz A (wants (λv s'=>v≠ .notImplemented∧Q v s') E) s ho ho2 he (show Value.bool false≠Value.notImplemented∧Q (.bool false) s from⟨(λx=>nomatch x),h⟩)
section
variable{κ:Type}[DecidableEq κ]{knd:KeyKind P w κ}
end
def RU:R2:=λx y H Q=>∃a b xs,x= .ref a∧y= .ref b∧H a=some (.lst xs)∧H b=some (.lst [])∧Q (.bl (!xs.isEmpty)) H
theorem Tr(hr:Kz X):J8 X (BN .NotEq) RU:=by
 intro pins s σ H x y v u Q I rx ry h;obtain⟨a,b,xs,rfl,rfl,ha,hb,q⟩:=h;cases(show v=Value.ref a from rx);cases(show u=Value.ref b from ry);unfold Kz at hr;obtain⟨_,its,n,rv,hg⟩:=(show ObjOk X.prog X.w H s.heap a (.lst xs) from I.hok a _ ha);obtain⟨_,its',n',rv',hg'⟩:=(show ObjOk X.prog X.w H s.heap b (.lst []) from I.hok b _ hb);cases rv';cases xs with
 | nil=> cases rv;exact Y1 ⟨_,hg,rfl,_,rfl⟩ ⟨_,hg',rfl,_,rfl⟩ rfl (by omega) (λj k1 k2=>absurd k1 (by simp)) ⟨.bl false,H,I,rfl,q⟩
 | cons x xs=> have l:=rv.length;exact Ft (l:=a) (b:=b) ⟨_,hg,rfl,_,rfl⟩ ⟨_,hg',rfl,_,rfl⟩ (by simp;intro z;rw[z] at l;simp at l) (by omega) X.prog X.w _ _ ⟨.bl true,H,I,rfl,q⟩
theorem WL(xs:List V)(k:Nat):J2 xs (some (k:Int)) none=xs.drop k:=by
 unfold J2;rw[show HT.sIx xs.length xs.length none=xs.length from rfl,show HT.sIx xs.length 0 (some (k:Int))=min k xs.length from HT.sIx_nat _ _ k];rcases Nat.le_total k xs.length with h | h
 · rw[ER h];exact Bt (by rw[Dt];exact Af _)
 · rw[FW h,G8 h,G8 (Af _)];simp
theorem Zh{v:V}{u:TS}{D:Ends}(h:u D (σ.set i (some v)) H):Lq (KQ (tC v) (KY i)) u D σ H:=h
theorem P9:Bm "abs"=some (.builtin "abs"):=by decide+kernel
abbrev wM:Int:=2147483563
structure Well(H:Hp)(b g l:Addr)(n:Int):Prop where
 ex:∃(gs ls:List Int)(sd c:Int),H b=some (.lst [.ref g,.ref l,.int sd,.int c])∧H g=some (.lst (gs.map V.int))∧H l=some (.lst (ls.map V.int))∧
  gs.length≤63∧ls.length≤63∧(∀x∈ls,0≤x∧x<wM)∧0≤sd∧sd<wM∧0≤c∧c≤n
 gl:g≠l
 bg:b≠g
 bl:b≠l
theorem Well.mono{g l:Addr}{n m:Int}(B:Well H b g l n)(h:n≤m):Well H b g l m:=by obtain⟨⟨gs,ls,sd,c,h1,h2,h3,h4,h5,h6,h7,h8,h9,h10⟩,gl,bg,bl⟩:=B;exact⟨⟨gs,ls,sd,c,h1,h2,h3,h4,h5,h6,h7,h8,h9,Int.le_trans h10 h⟩,gl,bg,bl⟩
theorem Well.same{H':Hp}{g l:Addr}{n:Int}(B:Well H b g l n)(h:Same H H'):Well H' b g l n:=by obtain⟨⟨gs,ls,sd,c,h1,h2,h3,h4⟩,gl,bg,bl⟩:=B;exact⟨⟨gs,ls,sd,c,h _ _ h1,h _ _ h2,h _ _ h3,h4⟩,gl,bg,bl⟩
theorem Well.tup{g l:Addr}{n:Int}{H':Hp}(B:Well H b g l n)(s:SameB b g H H')(h:H a=some (.tup xs)):H' a=some (.tup xs):=by obtain⟨gs,ls,c,st,h1,h2,_⟩:=B.ex;exact s a _ h (Pz h h1 (by intro z;cases z)) (Pz h h2 (by intro z;cases z))
theorem Well.free{g l:Addr}{n:Int}(B:Well H b g l n){p:Addr}(h:H p=none):p≠b∧p≠g∧p≠l:=by obtain⟨gs,ls,c,st,h1,h2,h3,_⟩:=B.ex;exact⟨(JJ h1 h).symm,(JJ h2 h).symm,(JJ h3 h).symm⟩
theorem Well.trk{g l:Addr}{n:Int}(B:Well H b g l n):H b≠none∧H g≠none:=by
 obtain⟨gs,ls,c,st,h1,h2,_⟩:=B.ex;refine⟨?_,?_⟩
 · rw[h1];exact G_ _
 · rw[h2];exact G_ _
theorem Well.back{H':Hp}{g l:Addr}{n:Int}(B:Well H' b g l n)(s:SameB b g H H'):∀a,H' a=Option.none→H a=Option.none:=λa h=>by
 cases e:H a with
 | none=>rfl
 | some o=> have h1:a≠b:=λz=>B.trk.1 (z ▸ h);have h2:a≠g:=λz=>B.trk.2 (z ▸ h);rw[s a o e h1 h2] at h;cases h
theorem Well.off{g l p:Addr}{n:Int}{o:HO}(B:Well H b g l n)(pb:p≠b)(pg:p≠g)(pl:p≠l):Well (IU H p o) b g l n:=by obtain⟨gs,ls,c,st,e1,e2,e3,r⟩:=B.ex;exact⟨⟨gs,ls,c,st,by rw[Ji pb.symm];exact e1,by rw[Ji pg.symm];exact e2,by rw[Ji pl.symm];exact e3,r⟩,B.gl,B.bg,B.bl⟩
theorem WishAt.sameW{H':Hp}{g l:Addr}{n:Int}{w:List WP}(h:WishAt H a w)(B:Well H b g l n)(s:SameB b g H H'):WishAt H' a w:=h.keep λ_ _ e=>B.tup s e
theorem WsAt.sameW{H':Hp}{g m:Addr}{n:Int}{l:Addr}{ws:List (Addr×List WP)}(h:WsAt H l ws)(B:Well H b g m n)(lb:l≠b)(lg:l≠g)(s:SameB b g H H'):WsAt H' l ws:=⟨s _ _ h.at' lb lg,λx hx=>⟨(h.ok x hx).1.sameW B s,(h.ok x hx).2⟩,h.len⟩
theorem Ks{m:Int}(h:m≤10^6):m<2^500:=Int.lt_of_le_of_lt h (by decide)
def TN(K:Ae):Sp:=λvs H Q _=>∃(a:Addr)(ns:List Int),vs=[.ref a]∧SqL K H a (ns.map V.int)∧ns.length≤63∧
 ∀(b g l:Addr)(H':Hp),Well H' b g l 0→Same H H'→H b=none→H g=none→Q (.ref b) H'
def TL:Sp:=λvs H Q _=>∃(b g l:Addr)(n many:Int),vs=[.ref b,.int many]∧Well H b g l n∧n≤2^40∧0<many∧many<2^500∧
 ∀(r:Int)(H':Hp),0≤r→r<many→Well H' b g l (n+1)→SameB b g H H'→Q (.int r) H'
def TJ:Sp:=λvs H Q _=>∃(b g l:Addr)(n most:Int),vs=[.ref b,.int most]∧Well H b g l n∧n≤10^8∧1≤most∧most≤8∧
 ∀(x:Str)(H':Hp),FieldOk x→Well H' b g l (n+12)→SameB b g H H'→Q (.str x) H'
def TD:Sp:=λvs H Q _=>∃(b g l:Addr)(n:Int),vs=[.ref b]∧Well H b g l n∧n≤10^9∧∀(r:Int)(H':Hp), -(10^15)<r→r<10^15→Well H' b g l (n+5)→SameB b g H H'→Q (.int r) H'
def TF:Sp:=λvs H Q _=>∃(b g l:Addr)(n:Int),vs=[.ref b]∧Well H b g l n∧n≤10^8∧
 ∀(t:Addr)(lo sz:Int)(H':Hp),H' t=some (.tup [.int lo,.int sz])→ -(10^15)<lo→lo<10^15→1≤sz→sz≤10^10→Well H' b g l (n+12)→SameB b g H H'→Q (.ref t) H'
def Us:Sp:=λvs H Q _=>∃(b g l t:Addr)(n lo sz wide:Int),vs=[.ref b,.ref t,.int wide]∧Well H b g l n∧n≤10^8∧H t=some (.tup [.int lo,.int sz])∧1≤sz∧sz≤10^10∧1≤wide∧wide≤100∧
 ∀(r:Addr)(a b':Option Int)(H':Hp),H' r=some (.tup [eV a,eV b'])→LY a b'=true→Well H' b g l (n+3)→SameB b g H H'→Q (.ref r) H'
def Nh(fs:List Str)(w:List WP):Prop:=∀p∈w,p.1∈fs
structure NamesAt(H:Hp)(b g:Addr)(a:Addr)(fs:List Str):Prop where
 at':H a=some (.lst (fs.map V.str))
 nb:a≠b
 ng:a≠g
 len:fs.length≤6
 ok:∀f∈fs,FieldOk f
 asc:fs.Pairwise Kr
theorem NamesAt.sameB{H':Hp}{g:Addr}{fs:List Str}(h:NamesAt H b g a fs)(s:SameB b g H H'):NamesAt H' b g a fs:=⟨s _ _ h.at' h.nb h.ng,h.nb,h.ng,h.len,h.ok,h.asc⟩
def Uu:Sp:=λvs H Q _=>∃(b g l a t:Addr)(n lo sz wide:Int)(fs:List Str),vs=[.ref b,.ref a,.ref t,.int wide]∧Well H b g l n∧n≤10^7∧NamesAt H b g a fs∧H t=some (.tup [.int lo,.int sz])∧1≤sz∧sz≤10^10∧1≤wide∧wide≤100∧
 ∀(r:Addr)(w:List WP)(H':Hp),WishAt H' r w→WOk w→Nh fs w→w.length≤6→Well H' b g l (n+30)→SameB b g H H'→Q (.ref r) H'
def VO:Sp:=λvs H Q _=>∃(b g l a t:Addr)(n lo sz wide many:Int)(fs:List Str),vs=[.ref b,.ref a,.ref t,.int wide,.int many]∧Well H b g l n∧n≤10^6∧NamesAt H b g a fs∧H t=some (.tup [.int lo,.int sz])∧1≤sz∧sz≤10^10∧1≤wide∧wide≤100∧0≤many∧many≤400∧
 ∀(r:Addr)(ws:List (Addr×List WP))(H':Hp),H r=none→WsAt H' r ws→(ws.length:Int)=many→(∀x∈ws,Nh fs x.2∧x.2.length≤6)→Well H' b g l (n+40*many)→SameB b g H H'→Q (.ref r) H'
def Yx:V→Option Int→Option Int→Hp→VK→Prop:=λx lo hi H Q=>∃y:Str,x= .str y∧y.length≤100000∧∀z:Str,z.length≤y.length→(∀j,hi=some j→0≤j→(z.length:Int)≤j)→(∀c∈z.cps.toList,c∈y.cps.toList)→(∀j,lo=none→hi=some j→1≤j→1≤y.length→1≤z.length)→Q (.str z) H
theorem ziN(lo hi:Option Int)(n:Nat):(Bd lo hi 1 n).length≤n∧(∀j,hi=some j→0≤j→((Bd lo hi 1 n).length:Int)≤j)∧(∀j,lo=none→hi=some j→1≤j→1≤n→0∈Bd lo hi 1 n):=by
 refine⟨indices_len_le lo hi n,λj e h0=>?_,λj e1 e2 h1 h2=>?_⟩
 · subst e;unfold Bd sliceRange;cases lo<;>simp only[show(1:Int)>0 by decide,if_true,Ab,BF]<;>(split<;>(try split)<;>(try split)<;>(try simp only[Int.ediv_one])<;>omega)
 · subst e1 e2;unfold Bd sliceRange;simp only[show(1:Int)>0 by decide,if_true];refine Ax.mpr ⟨0,Be.mpr ?_,?_⟩
   · have:¬j<0:=by omega
     simp only[this,if_false,Int.ediv_one]
     split<;>omega
   · simp
theorem Ql:Nj X Yx:=by
 intro pins s σ H x v vl vu lo hi sl Q I rx hs pl pu h;obtain⟨y,rfl,hl,q⟩:=h;obtain⟨t,rfl⟩:=(show ∃t,v=Value.str y t from rx);obtain⟨l,el,e1⟩:∃l:Option (Int×Tok),vl=partValue l∧l.map (·.1)=lo:=by
  cases pl with
  | none=>exact⟨none,rfl,rfl⟩
  | int i t=>exact⟨some (i,t),rfl,rfl⟩
 obtain⟨u,eu,e2⟩:∃l:Option (Int×Tok),vu=partValue l∧l.map (·.1)=hi:=by
  cases pu with
  | none=>exact⟨none,rfl,rfl⟩
  | int i t=>exact⟨some (i,t),rfl,rfl⟩
 have hS:s.heap.IsSlice sl l u none:=by obtain⟨o,h1,h2,h3⟩:=hs;exact⟨o,h1,h2,by rw[h3,el,eu];rfl⟩
 have pk:slicePicked y l u none=Bd lo hi 1 y.length:=by unfold slicePicked;rw[e1,e2];rfl
 obtain⟨p1,p2,p3⟩:=ziN lo hi y.length;have hsz:(100000:Nat)≤Az:=by decide
 refine⟨"str",_,F.slot_str_getitem.lookup,typeIs_str s y t,?_⟩;refine getItem_meets (typeIs_str s y t) (by decide) F.slot_str_getitem F.entry_str_getitem (F.args_str_getitem_2 _ _) (meets_str_getitem_slice y t sl l u none rfl) ⟨hS,?_⟩;unfold sliceMade;rw[pk]
 split
 · rename_i hc;have hc:(Bd lo hi 1 y.length).length=y.length:=by simpa using hc
   exact⟨.str y,H,I,⟨t,rfl⟩,q y (Af _) (λj e h0=>by have:=p2 j e h0;omega) (λc hc=>hc) λ_ _ _ _ z=>z⟩
 · have hz:(⟨((Bd lo hi 1 y.length).filterMap (y.cps[·]?)).toArray⟩:Str).length≤(Bd lo hi 1 y.length).length:=by
    show(List.filterMap _ _).toArray.size≤_;rw[Aw];exact List.length_filterMap_le _ _
   refine⟨by omega,⟨.str _,H,I.tok _,⟨_,rfl⟩,q _ (by omega) (λj e h0=>by have:=p2 j e h0;omega) (λc hc=>?_) λj f1 f2 f3 f4=>?_⟩⟩
   · have hc:c∈(Bd lo hi 1 y.length).filterMap (y.cps[·]?):=by simpa using hc
     obtain⟨i,_,hi'⟩:=D0.mp hc;exact CQ.mpr (GH hi')
   · have m0:=p3 j f1 f2 f3 f4;show 1≤(List.filterMap _ _).toArray.size;rw[Aw];have h0:0<y.cps.size:=f4;have:y.cps[0]'h0∈(Bd lo hi 1 y.length).filterMap (y.cps[·]?):=D0.mpr ⟨0,m0,by simp[h0]⟩;exact G9 this
section
variable{R:Result→Shared→Prop}
variable{elt t0 i0 t1 i1:Expr}{f0 f1:List Expr}{pos:Pos}{it acc:Value}{env:Env}
end
section
variable{tg iter tg1 iter1 elt:Expr}{ifs ifs1:List Expr}{wi wi1:TI}{js:JF}{g g1:TG}{tc tc1:TT}{te:TE}{N':List Str}{pos:Pos}
end
theorem Y4(elt t0 i0 t1 i1:Expr)(f0 f1:List Expr)(scope:Scope)(pos:Pos)(it acc:Value)(env:Env):
 compTurn (.SetComp elt [⟨t0,i0,f0,0⟩,⟨t1,i1,f1,0⟩] scope pos) 0 it acc env=(do
  standAt i0.pos
  match ←pyNext it with
  | none=>pure (.done .next)
  | some v=>
   Co t0 it v
   assign t0 env v
   let mut ok:=true
   for c in f0 do
    if ok then ok ←isTrue c env (eval c env)
   if ok then
    let x ←eval i1 env
    standAt i1.pos
    let x ←B_ i1 env x
    let _ ←runOwn (.compStart (.SetComp elt [⟨t0,i0,f0,0⟩,⟨t1,i1,f1,0⟩] scope pos) 1 (←holding [x] (pyIter x)) acc env) env
   again (.compLoop (.SetComp elt [⟨t0,i0,f0,0⟩,⟨t1,i1,f1,0⟩] scope pos) 0 it acc env)):=by rfl
theorem Y5(elt t0 i0 t1 i1:Expr)(f0 f1:List Expr)(scope:Scope)(pos:Pos)(it acc:Value)(env:Env):
 compTurn (.SetComp elt [⟨t0,i0,f0,0⟩,⟨t1,i1,f1,0⟩] scope pos) 1 it acc env=(do
  standAt i1.pos
  match ←pyNext it with
  | none=>pure (.done .next)
  | some v=>
   Co t1 it v
   assign t1 env v
   let mut ok:=true
   for c in f1 do
    if ok then ok ←isTrue c env (eval c env)
   if ok then
    (do let v ←eval elt env;standAt elt.pos;let _ ←call (.builtin "set.add") [acc,v])
   again (.compLoop (.SetComp elt [⟨t0,i0,f0,0⟩,⟨t1,i1,f1,0⟩] scope pos) 1 it acc env)):=by rfl
section
variable{R:Result→Shared→Prop}
variable{elt t0 i0 t1 i1:Expr}{f0 f1:List Expr}{pos:Pos}{it acc:Value}{env:Env}
theorem Y3(I:Nat→Shared→Prop)
 (turn:∀n s,I n s→wpAny (model prog w) A (pyNext it) (λr s₁=>match r with
  | none=>R (.ok .next) s₁
  | some v=>wpAny (model prog w) A (Co t1 it v) (λ_ s₁'=>wpAny (model prog w) A (assign t1 env v) (λ_ s₂=>
   wpAny (model prog w) A (forIn f1 true λc r=>if r=true then do let ok ←isTrue c env (eval c env);pure (ForInStep.yield ok) else pure (ForInStep.yield r)) (λok s₃=>
    if ok=true then wpAny (model prog w) A (eval elt env) (λx s₄=> wpAny (model prog w) A (call (.builtin "set.add") [acc,x]) (λ_ s₅=>∃m,m<n∧I m s₅) (λ_ _=>False) s₄) (λ_ _=>False) s₃
    else ∃m,m<n∧I m s₃) (λ_ _=>False) s₂) (λ_ _=>False) s₁') (λ_ _=>False) s₁) (λ_ _=>False) s)
 (n:Nat) (h:I n s):
 codeAny (model prog w) A (.compLoop (.SetComp elt [⟨t0,i0,f0,0⟩,⟨t1,i1,f1,0⟩] scope pos) 1 it acc env) R s:=by
 refine EM rfl I (λn s hI=>?_) n h;show wpAny _ A ((compTurn (.SetComp elt [⟨t0,i0,f0,0⟩,⟨t1,i1,f1,0⟩] scope pos) 1 it acc env).onRaise (λx=>do noteFrame x env;theTreesLotGoes x)) _ _ s
 refine Fk ?_;rw[Y5];refine Aa (BM (Aa (AB (turn n s hI) (λr s₁ h₁=>?_) λ_ _ h'=>h'.elim)));cases r with
 | none=>exact Ac h₁
 | some v=>
  refine Aa (AB h₁ (λ_ s₁' h₁'=>?_) λ_ _ h'=>h'.elim);refine Aa (AB h₁' (λ_ s₂ h₂=>Aa (AB h₂ (λok s₃ h₃=>?_) λ_ _ h'=>h'.elim)) λ_ _ h'=>h'.elim);cases ok with
  | false=>exact Ac ⟨rfl,h₃⟩
  | true=> exact Aa (Aa (AB h₃ (λx s₄ h₄=>Aa (BM (Aa (AB h₄ (λ_ s₅ h₅=>Ac (Ac ⟨rfl,h₅⟩)) λ_ _ h'=>h'.elim)))) λ_ _ h'=>h'.elim))
theorem Y2(hs:∀x,B_ i1 env x=pure x)(I:Nat→Shared→Prop)
 (turn:∀n s,I n s→wpAny (model prog w) A (pyNext it) (λr s₁=>match r with
  | none=>R (.ok .next) s₁
  | some v=>wpAny (model prog w) A (Co t0 it v) (λ_ s₁'=>wpAny (model prog w) A (assign t0 env v) (λ_ s₂=>
   wpAny (model prog w) A (forIn f0 true λc r=>if r=true then do let ok ←isTrue c env (eval c env);pure (ForInStep.yield ok) else pure (ForInStep.yield r)) (λok s₃=>
    if ok=true then wpAny (model prog w) A (eval i1 env) (λx s₄=>wpAny (model prog w) A (pyIter x) (λj s₅=> codeAny (model prog w) A (.compStart (.SetComp elt [⟨t0,i0,f0,0⟩,⟨t1,i1,f1,0⟩] scope pos) 1 j acc env) (λr s₆=>r= .ok .next∧∃m,m<n∧I m s₆) s₅) (λ_ _=>False) s₄) (λ_ _=>False) s₃
    else ∃m,m<n∧I m s₃) (λ_ _=>False) s₂) (λ_ _=>False) s₁') (λ_ _=>False) s₁) (λ_ _=>False) s)
 (n:Nat) (h:I n s):
 codeAny (model prog w) A (.compLoop (.SetComp elt [⟨t0,i0,f0,0⟩,⟨t1,i1,f1,0⟩] scope pos) 0 it acc env) R s:=by
 refine EM rfl I (λn s hI=>?_) n h;show wpAny _ A ((compTurn (.SetComp elt [⟨t0,i0,f0,0⟩,⟨t1,i1,f1,0⟩] scope pos) 0 it acc env).onRaise (λx=>do noteFrame x env;theTreesLotGoes x)) _ _ s
 refine Fk ?_;rw[Y4];refine Aa (BM (Aa (AB (turn n s hI) (λr s₁ h₁=>?_) λ_ _ h'=>h'.elim)));cases r with
 | none=>exact Ac h₁
 | some v=>
  refine Aa (AB h₁ (λ_ s₁' h₁'=>?_) λ_ _ h'=>h'.elim);refine Aa (AB h₁' (λ_ s₂ h₂=>Aa (AB h₂ (λok s₃ h₃=>?_) λ_ _ h'=>h'.elim)) λ_ _ h'=>h'.elim);cases ok with
  | false=>exact Ac ⟨rfl,h₃⟩
  | true=> refine Aa (AB h₃ (λx s₄ h₄=>?_) λ_ _ h'=>h'.elim);refine Aa (BM ?_);rw[hs];refine Aa (Ac ?_);refine Aa (AF (AB h₄ (λj s₅ h₅=>?_) λ_ _ h'=>h'.elim));refine Aa (wpAny_runOwn (Cn h₅ λr s₆ h₆=>?_));obtain⟨rfl,h₆⟩:=h₆;exact Ac ⟨rfl,h₆⟩
theorem U7(d:Nat)(hd:d=0∨d=1)(h0:codeAny (model prog w) A (.compLoop (.SetComp elt [⟨t0,i0,f0,0⟩,⟨t1,i1,f1,0⟩] scope pos) d it acc env) R s)
 (h:wpAny (model prog w) A (pyIter it) (λit' s'=>codeAny (model prog w) A (.compLoop (.SetComp elt [⟨t0,i0,f0,0⟩,⟨t1,i1,f1,0⟩] scope pos) d it' acc env) R s')
  (notedBy (model prog w) A env λx s'=>R (.error x) s') s):
 codeAny (model prog w) A (.compStart (.SetComp elt [⟨t0,i0,f0,0⟩,⟨t1,i1,f1,0⟩] scope pos) d it acc env) R s:=by
 rcases hd with rfl | rfl
 all_goals
  refine D5 ?_;show wpAny _ _ ((CY (.SetComp elt [⟨t0,i0,f0,0⟩,⟨t1,i1,f1,0⟩] scope pos) _ it acc env).onRaise (λx=>do noteFrame x env;standAt theWindowsPlace)) _ _ s
  refine wpAny_notedAt ?_;unfold CY;show wpAny _ _ (ask>>=_) _ _ s;refine Aa (Dd (wpAny_ite ?_))
  split
  · first
     | exact Aa (Ac (Ac (And.intro rfl h0)))
     | exact Ac (And.intro rfl h0)
  · first
     | exact Aa (Cm (Aa (BM (Aa (AB h (λit' s' h'=>Ac (And.intro rfl h')) λ_ _ x=>x)))))
     | (refine Aa (Cm ?_);show wpAny _ _ (standAt _>>=_) _ _ s;exact Aa (BM (Aa (AB h (λit' s' h'=>Ac (And.intro rfl h')) λ_ _ x=>x))))
theorem zj9{Q:Value→Shared→Prop}(h:Q (.ref s.heap.objs.size) {s with heap:=s.heap.push {cls:= .type "set",dict:=none,data:= .set #[] 0 (.fresh 0 0 (!Jc w))}}):
 wpAny (model prog w) A (newSet (.type "set")) Q E s:=by
 unfold newSet;obtain⟨hp,g,d,tk,os⟩:=s;dsimp only
 wp_walk
 refine Dd (Ac ?_);dsimp only;simp only[newObj];refine Aa (wpAny_alloc (Ac ?_));exact h
end
section
variable{p:Addr}{ks:List Str}
theorem Uj(f:Je X pins H b)(n:b≠p):Je X (pins++Kf [p] h) H b:=by
 obtain⟨f0,f1,f2,f3,f4,f5⟩:=f;refine⟨f0,f1,f2,f3,f4,λq hq=>?_⟩;rcases As.mp hq with z | z
 · exact f5 q (AO _ z)
 · rcases As.mp z with z | z
   · exact f5 q (Ao _ z)
   · have:=(Q8 z).1;rw[Ak.mp this];exact n.symm
end
section
variable{tg iter tg1 iter1 elt:Expr}{ifs ifs1:List Expr}{wi wi1:TI}{js:JF}{g g1:TG}{tc tc1:TT}{te:TE}{N':List Str}{pos:Pos}
end
open PySem.AutoSeq1 (wpAny_loadPart')
section
variable{it l e:Addr}{xs:Array Value}{x old:Value}
end
def below(s t:Mc):List Mc:=match t.1 with
 | none=>[]
 | some l=>if s.1=some l then [] else [(s.1,some (l - 1))]
def above(s t:Mc):List Mc:=match t.2 with
 | none=>[]
 | some h=>if s.2=some h then [] else [(some (h+1),s.2)]
def WJ(s t:Mc):List Mc:=below s t++above s t
def X4(w m:List WP)(i:Nat):List (List WP):=match w[i]?,m[i]? with
 | some p,some q=>(WJ p.2 q.2).map λr=>m.take i++[(p.1,r)]++w.drop (i+1)
 | _,_=>[]
def ZB(w m:List WP):List (List WP):=(AG w.length).flatMap (X4 w m)
open Classical in
noncomputable def Lo(w o:List WP):List WP:=if h:∃m,IsMet w o m then Classical.choose h else []
noncomputable def one(w o:List WP):List (List WP):=if WH w o=true then [w] else if w.length<(Lo w o).length then [w] else ZB w (Lo w o)
section
variable{w o m:List WP}
end
def MU(w:List WP):List PP:=w.map λp=>(p.1,Xf p.2.1 p.2.2)
theorem zeJ(w:List WP):(MU w).map (·.1)=w.map (·.1):=by unfold MU;rw[BY];rfl
theorem ziM{w:List WP}(h:WOk w):POk (MU w):=by refine⟨by unfold MU;rw[Ab];exact h.len,λx hx=>?_,by rw[zeJ];exact h.asc⟩;obtain⟨p,hp,rfl⟩:=Ax.mp hx;exact(h.ok p hp).1
def Xv(H:Hp)(v:V)(ps:List (List WP)):Prop:=match ps with
 | []=>v= .non
 | p::_=>∃t,v= .ref t∧PieceAt H t (MU p)
theorem UL{v:V}{A B:St→Hp→Prop}(h:A (σ.set i (some v)) H):KY i v σ H λσ2 H2=>LS σ2 H2 λb H3=>if b=true then A σ2 H3 else B σ2 H3:=by
 show(if true=true then A (σ.set i (some v)) H else B (σ.set i (some v)) H)
 exact IY h
section
variable{lo sz m:Int}
end
section
variable{K:Ae}{mg:Str→Option Value}{base:Heap}
def g2{α:Type}:List α→List α→List α
 | [a],[b]=>[a,b]
 | _,_=>[]
end
section
variable{k:Nat}{p1 p2:Str}{sp:Sp}{e1 e2:Expr}{t tk:TA}{p pos kpos:Pos}
end
abbrev L0:=Sum (Option Int) Str
def Np:L0→Value→Bool
 | .inl none,.none=>true
 | .inl (some i),v=>Gw i v
 | .inr x,v=>EB x v
 | _,_=>false
theorem LQ{k:L0}{v:Value}(h:Np k v=true):(k= .inl none∧v= .none)∨(∃i t,k= .inl (some i)∧v= .int i t)∨∃x t,k= .inr x∧v= .str x t:=by
 cases k with
 | inl o=>
  cases o with
  | none=>cases v<;>simp[Np] at h ⊢
  | some i=> obtain⟨t,e⟩:=Value.isInt_shape (k:=i) (v:=v) h;exact .inr (.inl ⟨i,t,rfl,e⟩)
 | inr x=> obtain⟨t,e⟩:=EW (x:=x) (v:=v) h;exact .inr (.inr ⟨x,t,rfl,e⟩)
def Om(w:World):L0→Int
 | .inl none=>0xFCA86420
 | .inl (some i)=>hashInt i
 | .inr x=>hashStr w x
theorem ZD{Q:Int→Shared→Prop}(h:Q 0xFCA86420 {s with toks:=s.toks+1}):wpAny (model prog w) A (pyHash .none) Q E s:=by
 have ty:s.TypeIs .none "NoneType":=typeIs_none s;unfold pyHash;refine Aa ?_;rw[cRoomFor,if_neg (by rw[show [Value.none].any Value.onHeap=false from rfl];exact A3)];refine Ac ?_;refine Aa (BV ty Dk.lookup ?_);rw[if_neg (by rw[beq_builtin_none];exact A3)];refine Aa (BV ty Dk.lookup ?_);refine Aa (DR ty Dk (AT Dk ty PySem.F.entry_NoneType_hash ?go (PySem.F.args_NoneType_hash_1 _)))
 case go=>
  show wpAny _ _ (do ret (←mkInt 0xFCA86420)) _ _ s
  refine wpAny_ret_mkInt ?_;dsimp only;unfold pyHashByItsType.reduced;rw[if_pos (by decide)];exact Ac h
theorem XI{Q:Bool→Shared→Prop}(h:Q true s):wpAny (model prog w) A (eqBool .none .none) Q E s:=by
 unfold eqBool
 try with_reducible refine AF ?_
 rw[if_pos (by rfl)];exact Aa (Cm (Ac h))
def Kt(prog:Bw)(w:World):KeyKind prog w L0 where
 is:=Np
 hash:=Om w
 inj:=λv a b ha hb=>by
  rcases LQ ha with⟨rfl,rfl⟩ | ⟨i,t,rfl,rfl⟩ | ⟨x,t,rfl,rfl⟩
  all_goals
   rcases LQ hb with⟨rfl,e⟩ | ⟨j,u,rfl,e⟩ | ⟨y,u,rfl,e⟩
   all_goals first | rfl | (injection e with e1 _;rw[e1];done) | (exact Value.noConfusion e)
 byValue:=λk v h=>by rcases LQ h with⟨rfl,rfl⟩ | ⟨i,t,rfl,rfl⟩ | ⟨x,t,rfl,rfl⟩<;>rfl
 pyHash:=λhv h=>by
  rcases LQ hv with⟨rfl,rfl⟩ | ⟨i,t,rfl,rfl⟩ | ⟨x,t,rfl,rfl⟩
  · exact ZD h
  · exact wpAny_pyHash_int h
  · exact wpAny_pyHash_str h
 eqBool:=λhu hv h=>by
  rcases LQ hu with⟨rfl,rfl⟩ | ⟨i,t,rfl,rfl⟩ | ⟨x,t,rfl,rfl⟩
  · rcases LQ hv with⟨rfl,rfl⟩ | ⟨j,u,rfl,rfl⟩ | ⟨y,u,rfl,rfl⟩
    · rw[decide_eq_true rfl] at h;exact XI h
    · rw[decide_eq_false (by intro z;cases z)] at h;exact EX j u _ _ _ _ h
    · rw[decide_eq_false (by intro z;cases z)] at h;exact EY y u _ _ _ _ h
  · rcases LQ hv with⟨rfl,rfl⟩ | ⟨j,u,rfl,rfl⟩ | ⟨y,u,rfl,rfl⟩
    · rw[decide_eq_false (by intro z;cases z)] at h;exact EZ i t _ _ _ _ h
    · rw[show decide ((Sum.inl (some i):L0)=Sum.inl (some j))=(i==j) by rw[Cf];simp] at h;exact EF h
    · rw[decide_eq_false (by intro z;cases z)] at h;exact Eh i t y u _ _ _ _ h
  · rcases LQ hv with⟨rfl,rfl⟩ | ⟨j,u,rfl,rfl⟩ | ⟨y,u,rfl,rfl⟩
    · rw[decide_eq_false (by intro z;cases z)] at h;exact E_ x t _ _ _ _ h
    · rw[decide_eq_false (by intro z;cases z)] at h;exact Ej x t j u _ _ _ _ h
    · rw[show decide ((Sum.inr x:L0)=Sum.inr y)=decide (x=y) by rw[Cf];simp] at h;exact wpAny_eqBool_str h
 «strs»:=λk x t v h=>by
  rcases LQ h with⟨rfl,e⟩ | ⟨i,u,rfl,e⟩ | ⟨y,u,rfl,e⟩
  · exact nomatch e
  · exact nomatch e
  · injection e with e1 _
    subst e1;cases v<;>rfl
def LZ(p:WP):List L0:=[.inr p.1,.inl p.2.1,.inl p.2.2]
theorem Ug{p q:WP}(h:LZ p=LZ q):p=q:=by obtain⟨f,a,b⟩:=p;obtain⟨g,c,d⟩:=q;unfold LZ at h;simp only[List.cons.injEq,Sum.inr.injEq,Sum.inl.injEq,and_true] at h;obtain⟨rfl,rfl,rfl⟩:=h;rfl
inductive RefsAre(prog:Bw)(w:World)(h:Heap):List WP→List Value→Prop
 | nil:RefsAre prog w h [] []
 | cons {p:WP} {b:Addr} {ps:List WP} {vs:List Value}:IsTupleKey (Kt prog w) h (LZ p) b→RefsAre prog w h ps vs→RefsAre prog w h (p::ps) (.ref b::vs)
def IsWishKey(prog:Bw)(w:World)(h:Heap)(ws:List WP)(a:Addr):Prop:=∃o items n,h.get? a=some o∧o.cls= .type "tuple"∧o.data= .seq items n∧RefsAre prog w h ws items.toList
theorem RefsAre.inj{x y:List WP}{vs:List Value}(hx:RefsAre prog w h x vs)(hy:RefsAre prog w h y vs):x=y:=by
 induction hx generalizing y with
 | nil=>cases hy;rfl
 | cons h1 _ ih=>
  cases hy with
  | cons h2 t2=>rw[Ug (h1.inj h2),ih t2]
theorem IsWishKey.typeIs{ws:List WP}(x:IsWishKey prog w s.heap ws a):s.TypeIs (.ref a) "tuple":=let⟨o,_,_,ho,hc,_⟩:=x;⟨o,ho,hc⟩
theorem IsWishKey.inj{x y:List WP}(hx:IsWishKey prog w h x a)(hy:IsWishKey prog w h y a):x=y:=by obtain⟨o,items,n,ho,_,hd,hi⟩:=hx;obtain⟨o',items',n',ho',_,hd',hi'⟩:=hy;rw[ho] at ho';cases ho';rw[hd] at hd';injection hd' with h1 _;subst h1;exact hi.inj hi'
def P0(w:World)(p:WP):Int:=reduceHash (Ed ((LZ p).map (Om w)))
def SW(w:World)(ws:List WP):Int:=reduceHash (Ed (ws.map (P0 w)))
theorem ZE{p:WP}{Q:Int→Shared→Prop}(hu:A.units<cLine)(hk:IsTupleKey (Kt prog w) s.heap (LZ p) b)(h:Q (P0 w p) {s with toks:=s.toks+4}):wpAny (model prog w) A (pyHash (.ref b)) Q E s:=
 wpAny_pyHash_tuple hu hk h
theorem ZF{ws:List WP}{Q:Int→Shared→Prop}(hu:A.units+1<cLine)(hk:IsWishKey prog w s.heap ws a)(h:Q (SW w ws) {s with toks:=s.toks+(4*ws.length+1)}):
 wpAny (model prog w) A (pyHash (.ref a)) Q E s:=by
 have ty:=hk.typeIs;obtain⟨o,items,n,ho,_,hd,hi⟩:=hk;unfold pyHash
 first | unfold pyHashByItsType | skip
 first | refine Aa (wpAny_cRoomFor_or (.inr (by omega)) ?_) | skip
 refine Aa (BV ty Cr.lookup ?_);rw[if_neg (by rw[beq_builtin_none];exact A3)];refine Aa (BV ty Cr.lookup ?_);refine Aa (DR ty Cr (AT Cr ty PySem.F.entry_tuple_hash ?go (PySem.F.args_tuple_hash_1 _)))
 case go=>
  show wpAny _ _ (DT (.ref a)>>=_) _ _ s;refine Aa (Fo ho hd (Aa ?_));rw[←BS];refine BZ _ (λrest(b:Array Int)s'=>∃done left,ws=done++left∧RefsAre prog w s.heap left rest∧b.toList=done.map (P0 w)∧s'={s with toks:=s.toks+4*done.length}) _ ?step ?done _ _ ⟨[],ws,rfl,hi,rfl,rfl⟩
  case step=>
   rintro x rest b s' ⟨dn,left,rfl,hl,hb,rfl⟩;cases hl with
   | @cons p c ps _ h1 hl'=>
    refine Aa (ZE (p:=p) (by show A.units+1<cLine;exact hu) (by exact h1) ?_)
    first
     | exact Ac ⟨dn++[p],ps,by simp,hl',by simp[hb],by simp;omega⟩
     | exact Aa (Ac (Ac ⟨dn++[p],ps,by simp,hl',by simp[hb],by simp;omega⟩))
  case done=>
   rintro b s' ⟨dn,left,rfl,hl,hb,rfl⟩;cases hl;rw[CG] at h;show wpAny _ _ (retInt (Ed b.toList)) _ _ _;rw[hb];refine wpAny_ret_mkInt ?_;unfold SW reduceHash at h;dsimp only;unfold pyHashByItsType.reduced
   split at h
   · rename_i hr;rw[if_pos hr];exact Ac (by simpa [Nat.add_assoc] using h)
   · rename_i hr;rw[if_neg hr];exact Aa (Cm (Ac (by simpa [Nat.add_assoc] using h)))
theorem XJ{x y:List WP}{P:Fin→Shared→Prop}(hu:A.units<cLine)(hx:IsWishKey prog w s.heap x a)(hy:IsWishKey prog w s.heap y b)(h:P (.done (.ret (.bool (decide (x=y))))) s):
 wpAny (model prog w) A (Builtin.«tuple.__eq__» ⟨[.ref a,.ref b],[]⟩) P E s:=by
 have tb:=hy.typeIs;obtain⟨oa,us,na,g1,_,g2,g3⟩:=hx;obtain⟨ob,vs,nb,k1,_,k2,k3⟩:=hy;show wpAny _ _ (isInstance (.ref b) (.type "tuple")>>=_) _ _ s;refine Aa (Da tb isSubtype_tuple_tuple ?_);simp only[Ce,Ay,if_false];refine Aa (Fo g1 g2 (Aa (Fo k1 k2 (Aa ?_))));refine BZ _
  (λrest r s'=>r.1=none∧s'=s∧∃x' y' us' vs',rest=List.zip us' vs'∧RefsAre prog w s.heap x' us'∧RefsAre prog w s.heap y' vs'∧decide (x'=y')=decide (x=y)∧(us'.length==vs'.length)=(us.size==vs.size))
  _ ?step ?done _ _ ⟨rfl,rfl,x,y,us.toList,vs.toList,rfl,g3,k3,rfl,by simp⟩
 case step=>
  rintro⟨u,v⟩ rest r s' ⟨hr,rfl,x',y',us',vs',hz,q1,q2,hdec,hlen⟩;cases q1 with
  | nil=>simp at hz
  | @cons p c ps us'' c1 q1'=>
   cases q2 with
   | nil=>simp at hz
   | @cons p2 c' ps2 vs'' c2 q2'=>
    simp only[List.zip_cons_cons,List.cons.injEq,Prod.mk.injEq] at hz;obtain⟨⟨rfl,rfl⟩,rfl⟩:=hz;refine Aa (wpAny_eqBool_tuple hu c1 c2 ?_);by_cases hk:p=p2
    · subst hk;rw[decide_eq_true rfl];simp only[Ce,Ay,if_false];refine Ac ⟨rfl,rfl,ps,ps2,us'',vs'',rfl,q1',q2',?_,by simpa using hlen⟩;rw[←hdec];by_cases e:ps=ps2<;>simp[e]
    · rw[decide_eq_false (λz=>hk (Ug z))];simp only[Bool.not_false,if_true];rw[show decide (x=y)=false by rw[←hdec];simp[hk]] at h;exact Aa (Ac (Ac (Ac h)))
 case done=>
  rintro⟨r1,r2⟩ s' ⟨hr,rfl,x',y',us',vs',hz,q1,q2,hdec,hlen⟩;simp only at hr;subst hr;refine Ac ?_;have fin:(us.size==vs.size)=decide (x=y):=by
   rw[←hdec,←hlen];cases q1 with
   | nil=>cases q2<;>simp
   | cons _ _=>
    cases q2 with
    | nil=>simp
    | cons _ _=>simp at hz
  show P (.done (.ret (.bool (us.size==vs.size)))) s';rw[fin];exact h
theorem XM{x y:List WP}{Q:Bool→Shared→Prop}(hu:A.units+1<cLine)(hx:IsWishKey prog w s.heap x a)(hy:IsWishKey prog w s.heap y b)(h:Q (decide (x=y)) s):
 wpAny (model prog w) A (eqBool (.ref a) (.ref b)) Q E s:=by
 unfold eqBool
 try with_reducible refine AF ?_
 by_cases hab:(Value.ref a==Value.ref b)=true
 · rw[if_pos hab];have e:a=b:=by have:=eq_of_beq hab;injection this
   subst e;obtain rfl:=hx.inj hy;exact Aa (Cm (Ac (by simpa using h)))
 · rw[if_neg hab];refine Aa (Fn (op:= .Eq) hx.typeIs hy.typeIs DG
    (AT DG hx.typeIs PySem.F.entry_tuple_eq (XJ (by show A.units+1<cLine;exact hu) hx hy ⟨_,rfl,(λe=>nomatch e),BP h⟩) (PySem.F.args_tuple_eq_2 _ _)) (by omega))
theorem ziI{p:WP}{Q:Bool→Shared→Prop}(hk:IsTupleKey (Kt prog w) s.heap (LZ p) b)(h:Q true s):wpAny (model prog w) A (eqIsQuiet (n+1) (.ref b)) Q E s:=by
 have ty:=hk.typeIs;obtain⟨o,its,m,h1,_,h2,h3⟩:=hk;unfold eqIsQuiet;refine Aa (BV ty DG.lookup ?_);show wpAny _ _ (isInstance (.ref b) (.type "tuple")>>=_) _ _ s;refine Aa (Da ty isSubtype_tuple_tuple ?_);simp only[Ce,Ay,if_false];refine Aa (Ba h1 h2 (Aa ?_));show wpAny _ _ (forIn its _ _) _ _ s;rw[←BS];refine BZ _ (λrest r s'=>r.1=none∧s'=s∧∀v∈rest,carriedByValue v=true) _ ?step ?done _ _ ⟨rfl,rfl,h3.byValue⟩
 case step=> rintro v rest r s' ⟨hr,rfl,al⟩;rw[eqIsQuiet_byValue _ (al v Ai)];refine Aa (Ac ?_);simp only[Ce,Ay,if_false];exact Ac ⟨rfl,rfl,λu hu'=>al u (Aj _ hu')⟩
 case done=> rintro⟨r1,r2⟩ s' ⟨hr,rfl,_⟩;simp only at hr;subst hr;exact Ac h
theorem VY{ws:List WP}{Q:Bool→Shared→Prop}(hk:IsWishKey prog w s.heap ws a)(h:Q true s):wpAny (model prog w) A (eqIsQuiet 8 (.ref a)) Q E s:=by
 have ty:=hk.typeIs;obtain⟨o,its,m,h1,_,h2,h3⟩:=hk;unfold eqIsQuiet;refine Aa (BV ty DG.lookup ?_);show wpAny _ _ (isInstance (.ref a) (.type "tuple")>>=_) _ _ s;refine Aa (Da ty isSubtype_tuple_tuple ?_);simp only[Ce,Ay,if_false];refine Aa (Ba h1 h2 (Aa ?_));show wpAny _ _ (forIn its _ _) _ _ s;rw[←BS];refine BZ _ (λrest r s'=>r.1=none∧s'=s∧∃ws',RefsAre prog w s.heap ws' rest) _ ?step ?done _ _ ⟨rfl,rfl,ws,h3⟩
 case step=>
  rintro v rest r s' ⟨hr,rfl,ws',hl⟩;cases hl with
  | @cons p c ps _ c1 hl'=> refine Aa (ziI c1 ?_);simp only[Ce,Ay,if_false];exact Ac ⟨rfl,rfl,ps,hl'⟩
 case done=> rintro⟨r1,r2⟩ s' ⟨hr,rfl,_⟩;simp only at hr;subst hr;exact Ac h
theorem Zp{ws:List WP}(hok:HOk P w H h)(e:WishAt H a ws):IsWishKey P w h ws a:=by
 obtain⟨ps,rfl,hA,hP⟩:=e;obtain⟨_,its,rv,o,h1,h2,_,n,h3⟩:=(show ObjOk P w H h a (.tup (ps.map λp=>V.ref p.1)) from hok a _ hA);refine⟨o,its.toArray,n,h1,h2,h3,?_⟩;rw[Ck];clear hA h1 h3
 induction ps generalizing its with
 | nil=>cases rv;exact .nil
 | cons p ps ih=>
  rw[AC] at rv;cases rv with
  | @cons _ u _ us r1 r2=>
   cases r1;refine .cons ?_ (ih (λx hx=>hP x (Aj _ hx)) (by rename_i hz;rw[AC,AA] at hz;omega) us r2);obtain⟨_,it2,rv2,o2,k1,k2,_,m,k3⟩:=(show ObjOk P w H h p.1 (.tup [V.str p.2.1,eV p.2.2.1,eV p.2.2.2]) from hok p.1 _ (hP p Ai));refine⟨o2,it2.toArray,m,k1,k2,k3,?_⟩;rw[Ck];have end_is:∀(e:Option Int)(v:Value),RelV (eV e) v→Np (.inl e) v=true:=λe v r=>by
    cases e with
    | none=>cases(show v=Value.none from r);rfl
    | some i=>obtain⟨t,rfl⟩:=(show ∃t,v=Value.int i t from r);exact Vk i t
   cases rv2 with
   | @cons _ u1 _ _ a1 rv2=>
    cases rv2 with
    | @cons _ u2 _ _ a2 rv2=>
     cases rv2 with
     | @cons _ u3 _ _ a3 rv2=> cases rv2;obtain⟨t,rfl⟩:=(show ∃t,u1=Value.str p.2.1 t from a1);exact .cons (Vl _ t) (.cons (end_is _ _ a2) (.cons (end_is _ _ a3) .nil))
section
variable{it d:Addr}{ep:Nat}{as:List Addr}
end
section
variable{tg:Expr}
end
section
variable{d:Addr}{ks:List (Addr×List WP)}
end
section
variable{tg iter kx vx:Expr}{ifs:List Expr}{wi:TI}{js:JF}{g:TG}{tc:TT}{tk tv:TE}{N':List Str}{pos:Pos}
end
def Yw(K:Ae):R2:=λx y H Q=>∃(l:Addr)(ps:List (Addr×PD))(d:PD),y= .ref l∧SqL K H l (ps.map λp=>V.ref p.1)∧(∀p∈ps,Ja K H p.2 (.ref p.1)∧K1 p.2≤20)∧Ja K H d x∧Q (.bl (!ps.any λp=>Jo p.2 d)) H
theorem zj1(hr:Kz X):J8 X (BN .NotIn) (Yw X.K):=by
 intro pins s σ H x y v u Q I rx ry h;obtain⟨l,ps,d,rfl,hq,hp,hd,q⟩:=h;cases ry;obtain⟨its,r,pl,hz⟩:=I.list hq;obtain rfl:=Rb r;have at':∀p∈ps,Pk ps d (.ref p.1)=Jo p.2 d:=λp hm=>by
  show((ps.find? λq=>decide (q.1=p.1)).any λq=>Jo q.2 d)=Jo p.2 d;cases e:ps.find? (λq=>decide (q.1=p.1)) with
  | none=>exact absurd (decide_eq_true rfl) (Fp.mp e p hm)
  | some p'=> have h1:p'.1=p.1:=of_decide_eq_true (List.find?_some (p:=λ(q:Addr×PD)=>decide (q.1=p.1)) e);have h2:=(hp p' (FK e)).1;rw[h1] at h2;rw[Option.any_some,O4 I _ _ _ h2 (hp p hm).1]
 refine SeqAt.notIn_listAt (Pk ps d) pl.isList (λz hz'=>?_) ⟨.bl _,H,I,rfl,?_⟩
 · obtain⟨p,hm,rfl⟩:=Ax.mp (show z∈ps.map λp=>Value.ref p.1 by simpa using hz');rw[at' p hm];have:=(hp p hm).2;exact UH I _ p.2 d _ _ _ _ (hp p hm).1 hd rfl rx (by have:=hr;simp only[Kz,C_] at*;omega)
 · have e:(ps.map λp=>Value.ref p.1).toArray.any (Pk ps d)=ps.any λp=>Jo p.2 d:=by
    rw[List.any_toArray,Ep];have:∀qs:List (Addr×PD),(∀q∈qs,q∈ps)→qs.any (Pk ps d∘λp=>Value.ref p.1)=qs.any λp=>Jo p.2 d:=λqs=>by
     induction qs with
     | nil=>intro _;rfl
     | cons q qs ih=> intro h;rw[CC,CC,ih λx hx=>h x (Aj _ hx)];congr 1;exact at' q (h q Ai)
    exact this ps λ_ h=>h
   rw[e];exact q
def Vi:Sp:=λvs H Q _=>∃(b g l a:Addr)(n:Int)(xs:List V),vs=[.ref b,.ref a]∧Well H b g l n∧n≤10^6∧H a=some (.lst xs)∧a≠b∧a≠g∧xs.length≤100∧
 ∀(r:Addr)(ys:List V)(H':Hp),H r=none→H' r=some (.lst ys)→ys.Perm xs→Well H' b g l (n+100)→SameB b g H H'→Q (.ref r) H'
theorem Tv{o:Expr}{es:List Expr}{to:TE}{t:TA}{name:Str}{apos cpos:Pos}{T id:String}{r:V→List V→Hp→VK→Prop}(K:Ae)(hK:X.K=K)(pa:PlainAttrs T)(slot:Slot T name id)(hty:typeOf (.builtin id)=pure (.type "method_descriptor"))(hm:Sy X id r)(ho:PE X o to)(ha:PA X (e::es) t)
 (hbase:attributeBase o name X.env (eval o X.env)=eval o X.env:=by rfl)
 (hfew:((backTo cpos (A9 (e::es) X.env)).all (λx=>!x.1) && (backToKw cpos (keywordEach [] X.env)).all (λx=>x.1.isSome)
  && decide ((e::es).length+([]:List Keyword).length+(if([]:List Keyword).isEmpty then 0 else 1)<30))=true:=by rfl)
 (hline:(apos.endLine==cpos.line)=true:=by rfl) (hs:A9 (e::es) X.env=(false,eval e X.env)::A9 es X.env:=by rfl) (hplain:(backTo cpos (A9 es X.env)).any (·.1)=false:=by rfl):
 PE X (.Call (.Attribute o name apos) (e::es) [] cpos) (W2 K T r to t):=by
 subst hK;exact KD pa slot hty hm ho ha hbase hfew hline hs hplain
theorem QJ{α:Type}:∀(l:List α)(k:Nat)(h:k<l.length),(l[k]::l.eraseIdx k).Perm l
 | [],_,h=>by simp at h
 | a::l,0,_=>Ds _
 | a::l,k+1,h=>by have ih:=QJ l k (by simpa using h);exact(List.Perm.swap a (l[k]'(by simpa using h)) (l.eraseIdx k)).trans (ih.cons a)
theorem OP{α β:Type}{f:α→β}{ys zs:List β}(h:ys.Perm zs):∀l:List α,zs=l.map f→∃l':List α,l'.Perm l∧l'.map f=ys:=by
 induction h with
 | nil=>intro l e;exact⟨l,Ds _,e.symm⟩
 | cons x _ ih=>
  intro l e;cases l with
  | nil=>cases e
  | cons a l=>
   rw[AC] at e;injection e with e1 e2
   obtain⟨l',p,e3⟩:=ih l e2;exact⟨a::l',p.cons a,by rw[AC,e3,e1]⟩
 | swap x y r=>
  intro l e
  match l,e with
  | a::b::l,e=>
   rw[AC,AC] at e;injection e with e1 e2
   injection e2 with e2 e3
   exact⟨b::a::l,List.Perm.swap _ _ _,by rw[AC,AC,e1,e2,e3]⟩
 | trans _ _ ih1 ih2=> intro l e;obtain⟨l1,p1,e1⟩:=ih2 l e;obtain⟨l2,p2,e2⟩:=ih1 l1 e1.symm;exact⟨l2,p2.trans p1,e2⟩
namespace ST
open PySem.SetTable
def lp(mask:Nat):Nat→Nat×Nat→Nat×Nat
 | 0,s=>s
 | m+1,s=>lp mask m (leap mask s.1 s.2)
theorem OB(mask:Nat):∀(m:Nat)(s:Nat×Nat),lp mask (m+1) s=leap mask (lp mask m s).1 (lp mask m s).2
 | 0,s=>rfl
 | m+1,s=>OB mask m (leap mask s.1 s.2)
theorem TY(mask:Nat):∀(m:Nat)(s:Nat×Nat),(lp mask m s).2=s.2 / 32^m
 | 0,s=>by simp[lp]
 | m+1,s=>by rw[OB];show(lp mask m s).2 / 32=_;rw[TY mask m s,Nat.div_div_eq_div_mul,Nat.pow_succ]
theorem Tn(mask:Nat):∀(m k:Nat)(s:Nat×Nat),lp mask (m+k) s=lp mask k (lp mask m s)
 | 0,k,s=>by rw[FY];rfl
 | m+1,k,s=>by rw[Nat.add_right_comm];show lp mask (m+k) (leap mask s.1 s.2)=_;rw[Tn mask m k];rfl
def MF(mask:Nat):Nat→Nat→Nat
 | 0,i=>i
 | k+1,i=>MF mask k ((i*5+1)%(mask+1))
theorem TZ(mask:Nat):∀(k i:Nat),(lp mask k (i,0)).1=MF mask k i
 | 0,i=>rfl
 | k+1,i=>by
  show(lp mask k (leap mask i 0)).1=_;have:leap mask i 0=((i*5+1)%(mask+1),0):=by unfold leap;simp
  rw[this,TZ mask k];rfl
theorem X6:∀i<8,∀e<8,∃k<8,MF 7 k i=e:=by decide+kernel
theorem WO:∀i<32,∀e<32,∃k<32,MF 31 k i=e:=by decide+kernel
def NV(mask:Nat):Nat→Nat→Nat
 | 0,_=>0
 | k+1,i=>(1<<<i) ||| NV mask k ((i*5+1)%(mask+1))
theorem Ts{mask e:Nat}:∀(k i:Nat),(NV mask k i).testBit e=true→∃m<k,MF mask m i=e
 | 0,i,h=>by simp[NV] at h
 | k+1,i,h=>by
  rw[NV,Nat.testBit_or,Bool.or_eq_true] at h;rcases h with h | h
  · rw[Nat.one_shiftLeft,Nat.testBit_two_pow] at h;exact⟨0,Nat.succ_pos _,of_decide_eq_true h⟩
  · obtain⟨m,hm,e'⟩:=Ts k _ h;exact⟨m+1,by omega,e'⟩
theorem WF:∀i<128,NV 127 128 i=2^128 - 1:=by decide+kernel
theorem XN(i:Nat)(hi:i<128)(e:Nat)(he:e<128):∃k<128,MF 127 k i=e:=by refine Ts 128 i ?_;rw[WF i hi,Nat.testBit_two_pow_sub_one];exact decide_eq_true he
def Ms(mask:Nat):Prop:=mask=7∨mask=31∨mask=127
theorem Xb(mask:Nat):∀(m:Nat)(s:Nat×Nat),s.1<mask+1→(lp mask m s).1<mask+1
 | 0,s,h=>h
 | m+1,s,h=>by rw[OB];exact CI _ (by omega)
theorem Py{mask:Nat}(hm:Ms mask){p e:Nat}(hi:i<mask+1)(hp:p<2^64)(he:e<mask+1):∃m,m<mask+14∧(lp mask m (i,p)).1=e:=by
 have h13:(lp mask 13 (i,p)).2=0:=by rw[TY];exact Nat.div_eq_of_lt (A8 hp (by decide))
 have h1:=Xb mask 13 (i,p) hi;obtain⟨k,hk,hl⟩:∃k<mask+1,MF mask k (lp mask 13 (i,p)).1=e:=by
  rcases hm with rfl | rfl | rfl
  · exact X6 _ h1 _ he
  · exact WO _ h1 _ he
  · exact XN _ h1 _ he
 refine⟨13+k,by omega,?_⟩;rw[Tn,show lp mask 13 (i,p)=((lp mask 13 (i,p)).1,0) from Prod.ext rfl h13,TZ];exact hl
def Jj(t:A0):Nat→Probe→Probe
 | 0,p=>p
 | k+1,p=>Jj t k (t.advance p)
theorem M6(t:A0):∀(k:Nat)(p:Probe),Jj t (k+1) p=t.advance (Jj t k p)
 | 0,p=>rfl
 | k+1,p=>M6 t k (t.advance p)
theorem Nz(t:A0):∀(m k:Nat)(p:Probe),Jj t (m+k) p=Jj t k (Jj t m p)
 | 0,k,p=>by rw[FY];rfl
 | m+1,k,p=>by rw[Nat.add_right_comm];show Jj t (m+k) (t.advance p)=_;rw[Nz t m k];rfl
structure AtRun(mask:Nat)(p:Probe)(s:Nat×Nat):Prop where
 j:p.j=s.1
 i:p.i=s.1
 pe:p.perturb=s.2
 mo:p.more≤9
theorem Va(t:A0):∀(m:Nat)(p:Probe),p.more=m→Jj t m p={p with j:=p.j+m,more:=0}
 | 0,p,h=>by
  show p=_;cases p
  simp_all
 | m+1,p,h=>by
  show Jj t m (t.advance p)=_;have e:t.advance p={p with j:=p.j+1,more:=p.more - 1}:=by unfold De;rw[if_pos (by omega)]
  rw[e,Va t m _ (by show p.more - 1=m;omega)];simp only[Probe.mk.injEq,and_true,true_and];omega
theorem Zb{t:A0}{p:Probe}{s:Nat×Nat}(h:AtRun t.mask p s):∃k,k≤10∧AtRun t.mask (Jj t k p) (leap t.mask s.1 s.2)∧(Jj t k p).dummy=p.dummy:=by
 refine⟨p.more+1,by have:=h.mo;omega,?_⟩;rw[M6,Va t p.more p rfl];have e:t.advance {p with j:=p.j+p.more,more:=0}={p with j:=(leap t.mask p.i p.perturb).1,more:=runEnd t.mask (leap t.mask p.i p.perturb).1 - (leap t.mask p.i p.perturb).1,i:=(leap t.mask p.i p.perturb).1,perturb:=(leap t.mask p.i p.perturb).2}:=by unfold De;rw[if_neg (by show ¬(0>0);omega)]
 rw[e,h.i,h.pe];refine⟨⟨rfl,rfl,rfl,?_⟩,rfl⟩;show runEnd _ _ - _≤9;unfold runEnd
 split<;>omega
theorem NO{t:A0}{p:Probe}{s:Nat×Nat}(h:AtRun t.mask p s):∀m,∃k,k≤10*m∧AtRun t.mask (Jj t k p) (lp t.mask m s)∧(Jj t k p).dummy=p.dummy
 | 0=>⟨0,Af _,h,rfl⟩
 | m+1=>by
  obtain⟨k,hk,hr,hd⟩:=NO h m;obtain⟨k2,hk2,hr2,hd2⟩:=Zb hr;refine⟨k+k2,by omega,?_,?_⟩
  · rw[Nz,OB];exact hr2
  · rw[Nz,hd2,hd]
theorem zjo(t:A0)(h:Int):AtRun t.mask (t.probeStart h) (bits h%(t.mask+1),bits h):=by
 refine⟨rfl,rfl,rfl,?_⟩;show runEnd _ _ - _≤9;unfold runEnd
 split<;>omega
theorem Qf(h:Int):bits h<2^64:=by
 unfold bits;have h0:=C4 h (show(2^64:Int)≠0 by decide);have h1:=Ch h (show(0:Int)<2^64 by decide);have:(2:Int)^64=18446744073709551616:=by decide
 have:(2:Nat)^64=18446744073709551616:=by decide
 omega
theorem X0{t:A0}(hm:Ms t.mask)(h:Int){e:Nat}(he:e<t.mask+1):∃k,k<10*turns t.mask∧(Jj t k (t.probeStart h)).j=e:=by obtain⟨m,hm2,hl⟩:=Py hm (i:=bits h%(t.mask+1)) (p:=bits h) (CI _ (by omega)) (Qf h) he;obtain⟨k,hk,hr,_⟩:=NO (zjo t h) m;refine⟨k,?_,hr.j.trans hl⟩;unfold turns;omega
end ST
namespace ST
open PySem.SetTable
structure Bel(xs:Array Nat)(j b:Nat):Prop where
 le:b≤xs.size
 lo:∀i v,i<b→xs[i]?=some v→v<j
 hi:∀i v,b≤i→xs[i]?=some v→j≤v
theorem MW{xs:Array Nat}(h:xs.toList.Pairwise (· < ·)){k v w:Nat}(hik:i<k)(hi:xs[i]?=some v)(hk:xs[k]?=some w):v<w:=by obtain⟨li,ei⟩:=Bj.mp hi;obtain⟨lk,ek⟩:=Bj.mp hk;have:=(Cz.mp h) i k (by simpa using li) (by simpa using lk) hik;simp only[GR] at this;rw[ei,ek] at this;exact this
theorem Qw{xs:Array Nat}(h:xs.toList.Pairwise (· < ·))(j:Nat):∀(fuel lo hi:Nat),hi - lo≤fuel→lo≤hi→hi≤xs.size→(∀i v,i<lo→xs[i]?=some v→v<j)→(∀i v,hi≤i→xs[i]?=some v→j≤v)→Bel xs j (E3 xs j fuel lo hi)
 | 0,lo,hi,hf,h1,h2,a,b=>by
  have:lo=hi:=by omega
  subst this;exact⟨h2,a,b⟩
 | fuel+1,lo,hi,hf,h1,h2,a,b=>by
  unfold E3;by_cases c:lo<hi
  · rw[if_pos c];dsimp only;have hm:(lo+hi) / 2<xs.size:=by omega
    have em:xs[(lo+hi) / 2]?=some xs[(lo+hi) / 2]:=by simp[hm]
    have ed:xs.getD ((lo+hi) / 2) j=xs[(lo+hi) / 2]:=by rw[AW,em];rfl
    by_cases d:xs.getD ((lo+hi) / 2) j<j
    · rw[if_pos d];refine Qw h j fuel _ _ (by omega) (by omega) h2 (λi v hi' e=>?_) b;by_cases q:i=(lo+hi) / 2
      · subst q;rw[em] at e;cases e;rw[←ed];exact d
      · by_cases q2:i<lo
        · exact a i v q2 e
        · have:=MW h (show i<(lo+hi) / 2 by omega) e em;rw[ed] at d;omega
    · rw[if_neg d];refine Qw h j fuel _ _ (by omega) (by omega) (by omega) a (λi v hi' e=>?_);by_cases q:i=(lo+hi) / 2
      · subst q;rw[em] at e;cases e;rw[←ed];omega
      · have:=MW h (show(lo+hi) / 2<i by omega) em e;rw[ed] at d;omega
  · rw[if_neg c];have:lo=hi:=by omega
    subst this;exact⟨h2,a,b⟩
theorem N5{xs:Array Nat}(h:xs.toList.Pairwise (· < ·))(j:Nat):Bel xs j (AI xs j):=by unfold AI;exact Qw h j _ _ _ (by omega) (Bc _) (Af _) (λi v hi _=>by omega) (λi v hi e=>by obtain⟨li,_⟩:=Bj.mp e;omega)
theorem Qz{α:Type}{xs:Array α}{p:Nat}{x:α}(hp:p≤xs.size):(insertAt xs p x).toList=xs.toList.take p++x::xs.toList.drop p:=by rw[SetTable.toList_insertAt]
theorem zi2{xs:Array Nat}{j:Nat}(h:xs.toList.Pairwise (· < ·))(hj:j ∉ xs.toList):(insertAt xs (AI xs j) j).toList.Pairwise (· < ·):=by
 have B:=N5 h j;rw[Qz B.le,GQ,En];refine⟨h.sublist (Ez _ _),⟨λv hv=>?_,h.sublist (List.drop_sublist _ _)⟩,λu hu v hv=>?_⟩
 · obtain⟨i,e⟩:=CF hv;rw[Es] at e;have e':xs[AI xs j+i]?=some v:=by rw[←A7];exact e
   have:=B.hi _ _ (Db _ _) e';have ne:v≠j:=λz=>hj (z ▸ GS hv);omega
 · obtain⟨i,e⟩:=CF hu;have li:i<AI xs j:=by
    have:=(Au.mp e).1;rw[AE] at this;omega
   rw[D7] at e;rw[if_pos li] at e;have e':xs[i]?=some u:=by rw[←A7];exact e
   have uj:=B.lo _ _ li e';rcases Ar.mp hv with rfl | hv
   · exact uj
   · obtain⟨k,ek⟩:=CF hv;rw[Es] at ek;have e2:xs[AI xs j+k]?=some v:=by rw[←A7];exact ek
     have:=B.hi _ _ (Db _ _) e2;omega
structure Tab(t:A0)(n:Nat):Prop where
 mask:Ms t.mask
 size:t.place.size=n
 ris:t.place.toList.Pairwise (· < ·)
 le:∀j∈t.place.toList,j≤t.mask
 du:t.dummies=#[]
 few:n*5<t.mask*3
theorem Tab.slot_live{t:A0}{j:Nat}(h:Tab t n)(e:t.slot j= .live i):t.place[i]?=some j∧i<n:=by
 unfold SetTable.slot at e;dsimp only at e
 split at e
 · rename_i q;cases e;have q':=eq_of_beq q;refine⟨q',?_⟩;have:=(Bj.mp q').1;rw[h.size] at this;exact this
 · split at e<;>cases e
theorem Tab.no_dummy{t:A0}{j:Nat}(h:Tab t n):t.slot j≠ .dummy:=by
 unfold SetTable.slot;dsimp only
 split
 · exact λz=>by cases z
 · rw[h.du];have:has #[] j=false:=rfl;rw[this];exact λz=>by cases z
theorem Tab.slot_of{t:A0}{j:Nat}(h:Tab t n):(t.slot j= .empty↔j ∉ t.place.toList):=by
 have B:=N5 h.ris j;unfold SetTable.slot;dsimp only;by_cases c:j∈t.place.toList
 · obtain⟨i,e⟩:=CF c;have e':t.place[i]?=some j:=by rw[←A7];exact e
   have:i=AI t.place j:=by
    rcases E4 i (AI t.place j) with z | z | z
    · exact absurd (B.lo _ _ z e') (Cs _)
    · exact z
    · exfalso;have lt:=(Bj.mp e').1;have eb:t.place[AI t.place j]?=some t.place[AI t.place j]:=by simp[show AI t.place j<t.place.size by omega]
      have h1:=B.hi _ _ (Af _) eb;have h2:=MW h.ris z eb e';omega
   rw[←this,e',if_pos (by simp)];exact⟨λz=>(by cases z),λz=>absurd c z⟩
 · have:¬(t.place[AI t.place j]?==some j)=true:=λq=>c (by
    have q':=eq_of_beq q;rw[←A7] at q';exact Av q')
   rw[if_neg this,h.du];have:has #[] j=false:=rfl;rw[this];exact⟨λ_=>c,λ_=>rfl⟩
theorem Tab.room{t:A0}(h:Tab t n):∃e,e<t.mask+1∧t.slot e= .empty:=by
 obtain⟨e,he,hn⟩:∃e,e<t.mask+1∧e ∉ t.place.toList:=by
  refine Ef λc=>?_;have all:∀e∈AG (t.mask+1),e∈t.place.toList:=λe he=>Ef λz=>c ⟨e,Be.mp he,z⟩;have sub:(t.mask+1)≤t.place.toList.length:=by
   have:∀(a b:List Nat),a.Nodup→(∀x∈a,x∈b)→a.length≤b.length:=λa=>by
    induction a with
    | nil=>intro b _ _;exact Bc _
    | cons x a ih=>
     intro b hn hs;rw[Cg] at hn;have hx:=hs x Ai;have:=ih (b.erase x) hn.2 λy hy=>by have ne:y≠x:=λe=>hn.1 (e ▸ hy);exact(List.mem_erase_of_ne ne).mpr (hs y (Aj _ hy))
     rw[FX hx] at this;have:=G9 hx;rw[AA];omega
   have:=this _ _ List.nodup_range all;rw[BF] at this;exact this
  rw[Ah,h.size] at sub;have:=h.few;omega
 exact⟨e,he,h.slot_of.mpr hn⟩
theorem Tab.ends{t:A0}(h:Tab t n)(hs:Int):∃N,N<10*turns t.mask∧t.slot (Jj t N (t.probeStart hs)).j= .empty∧∀k,k<N→t.slot (Jj t k (t.probeStart hs)).j≠ .empty:=by
 obtain⟨e,he,se⟩:=h.room;obtain⟨k,hk,ek⟩:=X0 h.mask hs he;have ex:∃N,t.slot (Jj t N (t.probeStart hs)).j= .empty:=⟨k,by rw[ek];exact se⟩;have P:∀m,(∃N,N≤m∧t.slot (Jj t N (t.probeStart hs)).j= .empty)→∃N,N≤m∧t.slot (Jj t N (t.probeStart hs)).j= .empty∧∀k,k<N→t.slot (Jj t k (t.probeStart hs)).j≠ .empty:=λm=>by
  induction m with
  | zero=> rintro⟨N,hN,e⟩;exact⟨N,hN,e,λk hk=>by omega⟩
  | succ m ih=>
   rintro⟨N,hN,e⟩;by_cases c:∃N,N≤m∧t.slot (Jj t N (t.probeStart hs)).j= .empty
   · obtain⟨N',h1,h2⟩:=ih c;exact⟨N',by omega,h2⟩
   · refine⟨N,hN,e,λk hk z=>c ⟨k,by omega,z⟩⟩
 obtain⟨N,h1,h2,h3⟩:=P k ⟨k,Af _,by rw[ek];exact se⟩;exact⟨N,by omega,h2,h3⟩
end ST
namespace ST
open PySem.SetTable
theorem zk2(t:A0)(p:Probe):(t.advance p).dummy=p.dummy:=by
 unfold De
 split<;>rfl
theorem QW(t:A0):∀(k:Nat)(p:Probe),(Jj t k p).dummy=p.dummy
 | 0,p=>rfl
 | k+1,p=>by show(Jj t k (t.advance p)).dummy=_;rw[QW t k,zk2]
theorem QA{mask:Nat}(h:i≤mask):runEnd mask i≤mask:=by
 unfold runEnd
 split<;>omega
theorem Xw(t:A0)(p:Probe)(h:p.j+p.more≤t.mask):(t.advance p).j+(t.advance p).more≤t.mask:=by
 unfold De
 split
 · show p.j+1+(p.more - 1)≤_;omega
 · have hi:(leap t.mask p.i p.perturb).1≤t.mask:=by
    have:=CI (p.i*5+1+p.perturb / 32) (show t.mask+1>0 by omega);show(p.i*5+1+p.perturb / 32)%(t.mask+1)≤_;omega
   have hr:=QA hi;have hg:(leap t.mask p.i p.perturb).1≤runEnd t.mask (leap t.mask p.i p.perturb).1:=by
    unfold runEnd
    split<;>omega
   show(leap t.mask p.i p.perturb).1+(runEnd t.mask (leap t.mask p.i p.perturb).1 - (leap t.mask p.i p.perturb).1)≤_;omega
theorem Qd(t:A0):∀(k:Nat)(p:Probe),p.j+p.more≤t.mask→(Jj t k p).j+(Jj t k p).more≤t.mask
 | 0,p,h=>h
 | k+1,p,h=>Qd t k _ (Xw t p h)
theorem UT(t:A0)(h:Int):(t.probeStart h).j+(t.probeStart h).more≤t.mask:=by
 have hi:bits h%(t.mask+1)≤t.mask:=by have:=CI (bits h) (show t.mask+1>0 by omega);omega
 have hr:=QA hi;have hg:bits h%(t.mask+1)≤runEnd t.mask (bits h%(t.mask+1)):=by
  unfold runEnd
  split<;>omega
 show bits h%(t.mask+1)+(runEnd t.mask (bits h%(t.mask+1)) - bits h%(t.mask+1))≤_;omega
theorem SF{t:A0}(T:Tab t n){hs:Int}{N:Nat}(hN:t.slot (Jj t N (t.probeStart hs)).j= .empty)(hb:∀k,k<N→t.slot (Jj t k (t.probeStart hs)).j≠ .empty)(hashAt:Nat→Int):∀(d k fuel:Nat),N - k=d→k≤N→d<fuel→
 probe.go t hashAt hs fuel (Jj t k (t.probeStart hs))=some (.empty (Jj t N (t.probeStart hs)).j none)∨
 ∃m i,k≤m∧m<N∧t.slot (Jj t m (t.probeStart hs)).j= .live i∧probe.go t hashAt hs fuel (Jj t k (t.probeStart hs))=some (.candidate (Jj t m (t.probeStart hs)).j i (Jj t (m+1) (t.probeStart hs)))
 | d,k,0,_,_,h=>by omega
 | d,k,fuel+1,hd,hk,hf=>by
  unfold probe.go;by_cases e:k=N
  · subst e
    left
    rw[hN];dsimp only;rw[QW];rfl
  · have hk':k<N:=by omega
    cases hsl:t.slot (Jj t k (t.probeStart hs)).j with
    | empty=>exact absurd hsl (hb k hk')
    | dummy=>exact absurd hsl T.no_dummy
    | live i=>
     dsimp only;by_cases q:(hashAt i==hs)=true
     · right
       rw[if_pos q];exact⟨k,i,Af _,hk',hsl,by rw[M6]⟩
     · rw[if_neg q,←M6];rcases SF T hN hb hashAt (d - 1) (k+1) fuel (by omega) (by omega) (by omega) with z | ⟨m,i',h1,h2,h3,h4⟩
       · exact .inl z
       · exact .inr ⟨m,i',by omega,h2,h3,h4⟩
theorem YX{t:A0}(T:Tab t n){hs:Int}{N:Nat}(hl:N<10*turns t.mask)(hN:t.slot (Jj t N (t.probeStart hs)).j= .empty)(hb:∀k,k<N→t.slot (Jj t k (t.probeStart hs)).j≠ .empty)(hashAt:Nat→Int){k:Nat}(hk:k≤N):
 t.probe hashAt hs (Jj t k (t.probeStart hs))=some (.empty (Jj t N (t.probeStart hs)).j none)∨
 ∃m i,k≤m∧m<N∧t.slot (Jj t m (t.probeStart hs)).j= .live i∧t.probe hashAt hs (Jj t k (t.probeStart hs))=some (.candidate (Jj t m (t.probeStart hs)).j i (Jj t (m+1) (t.probeStart hs))):=SF T hN hb hashAt _ k _ rfl hk (by omega)
theorem Tab.fits{t:A0}(T:Tab t n):t.fits n=true:=by unfold ED SetTable.fill;rw[T.size,T.du];have:=T.few;rcases T.mask with e | e | e<;>rw[e] at this ⊢ <;>simp<;>omega
theorem Tab.stays{t:A0}(T:Tab t n):t.gaveWay=false:=by unfold SetTable.gaveWay;rcases T.mask with e | e | e<;>rw[e]<;>rfl
theorem zjC{o:Obj}{es:Array (Int×Value)}{ep:Nat}{t:A0}{x:Value}{hs:Int}{Q:SetFound→Shared→Prop}(ho:s.heap.get? a=some o)(hd:o.data= .set es ep t)(T:Tab t es.size)
 (refs:∀e∈es.toList,∃b,e.2= .ref b) (heq:∀e∈es.toList,∀R:Bool→Shared→Prop,R false s→wpAny (model prog w) A (eqBool e.2 x) R E s)
 (hseen:∀ys:List Value,(∀y∈ys,∃e∈es.toList,e.2=y)→∀R:Bool→Shared→Prop,R false s→wpAny (model prog w) A (searchCouldBeSeen x ys) R E s)
 (h:∀j,j≤t.mask→j ∉ t.place.toList→Q (.free j false) s):wpAny (model prog w) A (setSearch a x hs true) Q E s:=by
 obtain⟨N,hl,hN,hb⟩:=T.ends hs;have jl:(Jj t N (t.probeStart hs)).j≤t.mask:=by have:=Qd t N _ (UT t hs);omega
 have fin:Q (.free (Jj t N (t.probeStart hs)).j false) s:=h _ jl (T.slot_of.mp hN);have tl:10*turns t.mask≤1420:=by unfold turns;rcases T.mask with e | e | e<;>rw[e]<;>decide
 have main:∀(d k fuel:Nat)(st:Option Probe),N - k=d→k≤N→d<fuel→st.getD (t.probeStart hs)=Jj t k (t.probeStart hs)→wpAny (model prog w) A (setSearchFrom a x hs true fuel st) Q E s:=by
  intro d
  induction d using Nat.strongRecOn with
  | _ d ih=>
   intro k fuel st hk1 hk2 hf hst;cases fuel with
   | zero=>omega
   | succ fuel=>
    unfold setSearchFrom;refine Aa (AN ho hd T.fits ?_);dsimp only;rw[T.stays,hst];simp only[Ay,if_false];generalize hp:SetTable.probe t _ hs (Jj t k (t.probeStart hs))=pr;obtain⟨hashAt,hf'⟩:∃f,t.probe f hs (Jj t k (t.probeStart hs))=pr:=⟨_,hp⟩;rcases YX T hl hN hb hashAt hk2 with z | ⟨m,i,h1,h2,h3,z⟩
    · rw[hf'] at z;subst z;exact Ac fin
    · rw[hf'] at z;subst z;obtain⟨_,hi⟩:=T.slot_live h3;have ei:es[i]?=some es[i]:=by simp[hi]
      have mi:es[i]∈es.toList:=by simp
      obtain⟨b,eb⟩:=refs _ mi;have rest:wpAny (model prog w) A (setSearchFrom a x hs true fuel (some (Jj t (m+1) (t.probeStart hs)))) Q E s:=ih (N - (m+1)) (by omega) (m+1) fuel _ rfl (by omega) (by omega) rfl;by_cases hled:(!t.led)=true
      · dsimp only;rw[if_pos hled];refine Aa (hseen _ (λy hy=>?_) _ ?_)
        · obtain⟨e,he,rfl⟩:=Ax.mp hy;exact⟨e,by have:=CQ.mp he;exact CQ.mpr (Hd.mp this).1,rfl⟩
        · simp only[Ay,if_false];rw[ei];dsimp only;refine Aa (AF (heq _ mi _ ?_));refine Aa (AN ho hd T.fits ?_);simp only[DD,Ay,if_false];have sm:t.sameMemory t.moves t.mask=some true:=by
           unfold Fc;simp
          rw[sm];simp only[if_true,h3];rw[ei];dsimp only;rw[eb];refine Aa (EH ?_);exact Aa (Ac rest)
      · dsimp only;rw[if_neg hled];rw[ei];dsimp only;refine Aa (AF (heq _ mi _ ?_));refine Aa (AN ho hd T.fits ?_);simp only[DD,Ay,if_false];have sm:t.sameMemory t.moves t.mask=some true:=by
         unfold Fc;simp
        rw[sm];simp only[if_true,h3];rw[ei];dsimp only;rw[eb];refine Aa (EH ?_);exact Aa (Ac rest)
 exact main _ 0 100000 none rfl (Bc _) (by omega) rfl
end ST
namespace ST
open PySem.SetTable
theorem Qh{mask:Nat}{owner:Array (Option Nat)}(hz:owner.size=mask+1){e:Nat}(he:owner[e]?=some none):∀(f i p m:Nat),m<f→i≤mask→(lp mask m (i,p)).1=e→
 ∃j,layClean.free mask owner f i p=some j∧owner[j]?=some none
 | 0,i,p,m,h,_,_=>by omega
 | f+1,i,p,m,h,hi,hm=>by
  unfold layClean.free;cases hf:(AG (runEnd mask i+1 - i)).find? (λk=>(owner.getD (i+k) (some 0)).isNone) with
  | some k=>
   refine⟨_,rfl,?_⟩;have:=List.find?_some hf;rw[AW] at this;cases ho:owner[i+k]? with
   | none=>rw[ho] at this;cases this
   | some q=>
    rw[ho] at this;cases q with
    | none=>rfl
    | some q=>cases this
  | none=>
   dsimp only;cases m with
   | zero=>
    exfalso;have e':i=e:=hm;subst e';have:=Fp.mp hf 0 (Be.mpr (by unfold runEnd;split<;>omega))
    rw[Nat.add_zero,AW,he] at this;exact this rfl
   | succ m=> refine Qh hz he f _ _ m (by omega) ?_ hm;have:=CI (i*5+1+p / 32) (show mask+1>0 by omega);show(i*5+1+p / 32)%(mask+1)≤mask;omega
theorem QE:∀{l:List (Option Nat)},(l.filterMap id).length<l.length→∃e:Nat,l[e]?=some none
 | [],h=>by cases h
 | none::l,h=>⟨0,rfl⟩
 | some x::l,h=>by
  have h':(l.filterMap id).length<l.length:=by simpa using h
  obtain⟨e,he⟩:=QE h';exact⟨e+1,by simpa using he⟩
theorem Qv:∀{l:List (Option Nat)}{j k:Nat},l[j]?=some none→((l.set j (some k)).filterMap id).Perm (k::l.filterMap id)
 | [],j,k,h=>by cases h
 | x::l,0,k,h=>by
  cases x with
  | none=>simp
  | some x=>simp at h
 | x::l,j+1,k,h=>by
  have ih:=Qv (l:=l) (j:=j) (k:=k) (by simpa using h);cases x with
  | none=>simpa using ih
  | some x=> show(x::(l.set j (some k)).filterMap id).Perm (k::x::l.filterMap id);exact(ih.cons x).trans (List.Perm.swap _ _ _)
structure Own(mask n:Nat)(owner:Array (Option Nat)):Prop where
 size:owner.size=mask+1
 all:(owner.toList.filterMap id).Perm (AG n)
theorem Tk{mask:Nat}(hm:Ms mask):∀(hs:List Int)(owner:Array (Option Nat))(n:Nat),Own mask n owner→n+hs.length≤mask→
 ∃ow,Own mask (n+hs.length) ow∧hs.foldl (λ(acc:Option (Array (Option Nat)×Nat))h=>do
  let(owner,k) ←acc
  let j ←layClean.free mask owner (turns mask) (bits h%(mask+1)) (bits h)
  pure (owner.setIfInBounds j (some k),k+1)) (some (owner,n))=some (ow,n+hs.length)
 | [],owner,n,O,_=>⟨owner,O,rfl⟩
 | h::hs,owner,n,O,hl=>by
  rw[AA] at hl;obtain⟨e,he⟩:=QE (l:=owner.toList) (by rw[O.all.length_eq,BF,Ah,O.size];omega);rw[A7] at he;have el:e<mask+1:=by have:=(Bj.mp he).1;rw[O.size] at this;exact this
  obtain⟨m,hm2,hr⟩:=Py hm (i:=bits h%(mask+1)) (p:=bits h) (CI _ (by omega)) (Qf h) el;obtain⟨j,hj,ho⟩:=Qh O.size he (turns mask) (bits h%(mask+1)) (bits h) m (by unfold turns;omega) (by have:=CI (bits h) (show mask+1>0 by omega);omega) hr;have O':Own mask (n+1) (owner.setIfInBounds j (some n)):=by refine⟨by rw[FZ];exact O.size,?_⟩;rw[Fz];refine(Qv (by rw[A7];exact ho)).trans ?_;refine(O.all.cons n).trans ?_;rw[ES];exact DH (l₁:=[n]) (l₂:=AG n)
  obtain⟨ow,h1,h2⟩:=Tk hm hs _ _ O' (by omega);refine⟨ow,?_,?_⟩
  · rw[AA];have:n+(hs.length+1)=n+1+hs.length:=by omega
    rw[this];exact h1
  · rw[Ec,AA];have:n+(hs.length+1)=n+1+hs.length:=by omega
    rw[this,←h2];congr 1;show(layClean.free mask owner (turns mask) (bits h%(mask+1)) (bits h)>>=_)=_;rw[hj];rfl
theorem zhD{mask:Nat}(hm:Ms mask){hs:Array Int}(hl:hs.size≤mask):∃ow,Own mask hs.size ow∧layClean mask hs=some ow:=by
 obtain⟨ow,h1,h2⟩:=Tk hm hs.toList (Array.replicate (mask+1) none) 0 ⟨by simp,by simp⟩ (by rw[Ah];omega);rw[FY,Ah] at h1 h2;refine⟨ow,h1,?_⟩;unfold layClean;rw[←Array.foldl_toList]
 erw [h2]
 rfl
theorem TX(ow:Array (Option Nat))(hz:ow.size=n):(AG n).filterMap (λj=>ow.getD j none)=ow.toList.filterMap id:=by
 subst hz
 conv=>rhs;rw[←filterMap_getElem?_range ow]
 rw[List.filterMap_filterMap];congr 1;funext j;rw[AW];cases ow[j]?<;>rfl
theorem zjO{t:A0}{hs:Array Int}{wanted:Nat}(hm:sizeAbove wanted=32)(hl:hs.size*5<93):
 ∃t' order,t.relaid hs wanted=some (t',order)∧Tab t' hs.size∧order.toList.Perm (AG hs.size)∧t'.led=t.led∧t'.plain=t.plain:=by
 obtain⟨ow,O,e⟩:=zhD (mask:=31) (.inr (.inl rfl)) (hs:=hs) (by omega);unfold SetTable.relaid;rw[hm];unfold Fv;rw[show 32 - 1=31 from rfl,e];have ord:((((AG (31+1)).filterMap λj=>(ow.getD j none).map (j, ·)).map (·.2)).toArray).toList.Perm (AG hs.size):=by rw[Ck,D6];refine List.Perm.trans (ET ?_) O.all;rw[←TX ow O.size];congr 1;funext j;cases ow.getD j none<;>rfl
 refine⟨_,_,rfl,⟨.inr (.inl rfl),?_,?_,?_,rfl,by show _*5<31*3;omega⟩,ord,rfl,rfl⟩
 · have:=ord.length_eq;rw[BF] at this;simpa using this
 · show((((AG (31+1)).filterMap λj=>(ow.getD j none).map (j, ·)).map (·.1)).toArray).toList.Pairwise (· < ·);rw[Ck,D6,Go];refine List.Pairwise.imp ?_ D8;intro a b hab x hx y hy;cases ha:ow.getD a none with
   | none=>rw[ha] at hx;cases hx
   | some u=>
    cases hb:ow.getD b none with
    | none=>rw[hb] at hy;cases hy
    | some v=> rw[ha] at hx;rw[hb] at hy;cases hx;cases hy;exact hab
 · show ∀j∈((((AG (31+1)).filterMap λj=>(ow.getD j none).map (j, ·)).map (·.1)).toArray).toList,j≤31;rw[Ck];intro j hj;obtain⟨x,hx,rfl⟩:=Ax.mp hj;obtain⟨k,hk,e⟩:=D0.mp hx;have:=Be.mp hk;cases ha:ow.getD k none with
   | none=>rw[ha] at e;cases e
   | some u=> rw[ha] at e;cases e;show k≤31;omega
end ST
namespace ST
open PySem.SetTable
theorem zjP{h':Heap}{x:List WP}{vs:List Value}(hx:RefsAre prog w h x vs)(k:∀(b:Addr)o its n,h.get? b=some o→o.data= .seq its n→h'.get? b=some o):RefsAre prog w h' x vs:=by
 induction hx with
 | nil=>exact .nil
 | cons h1 _ ih=> obtain⟨o,its,n,e1,e2,e3,e4⟩:=h1;exact .cons ⟨o,its,n,k _ _ _ _ e1 e3,e2,e3,e4⟩ ih
theorem VE{h':Heap}{ws:List WP}(x:IsWishKey prog w h ws a)(k:∀(b:Addr)o its n,h.get? b=some o→o.data= .seq its n→h'.get? b=some o):IsWishKey prog w h' ws a:=by obtain⟨o,its,n,e1,e2,e3,e4⟩:=x;exact⟨o,its,n,k _ _ _ _ e1 e3,e2,e3,zjP e4 k⟩
def WSet(prog:Bw)(w:World)(h0 h:Heap)(a:Addr)(ks:List (List WP)):Prop:=∃(es:Array (Int×Value))(ep:Nat)(t:A0),
 h.get? a=some {cls:= .type "set",dict:=none,data:= .set es ep t}∧Tab t es.size∧es.size=ks.length∧∀e∈es.toList,∃ws b,ws∈ks∧e.2= .ref b∧IsWishKey prog w h0 ws b
theorem WSet.kept{h0 h':Heap}{ks:List (List WP)}(T:WSet prog w h0 h a ks)(k:∀o,h.get? a=some o→h'.get? a=some o):WSet prog w h0 h' a ks:=by obtain⟨es,ep,t,h1,h2,h3,h4⟩:=T;exact⟨es,ep,t,k _ h1,h2,h3,h4⟩
theorem ziw{h0:Heap}{l:Bool}(e:h.get? a=some {cls:= .type "set",dict:=none,data:= .set #[] 0 (.fresh 0 0 l)}):WSet prog w h0 h a []:=
 ⟨#[],0,_,e,⟨.inl rfl,rfl,.nil,λj hj=>by simp[SetTable.fresh] at hj,rfl,by show 0*5<7*3;decide⟩,rfl,λe he=>by simp at he⟩
theorem XO{p:WP}{Q:Bool→Shared→Prop}(hk:IsTupleKey (Kt prog w) s.heap (LZ p) b)(h:∀c,Q c s):wpAny (model prog w) A (hashByValue (n+1) (.ref b)) Q E s:=by
 have ty:=hk.typeIs;obtain⟨o,its,m,h1,_,h2,h3⟩:=hk;unfold hashByValue;refine Aa (BV ty Cr.lookup ?_);dsimp only;refine Aa (Ba h1 h2 (Aa ?_));show wpAny _ _ (forIn its _ _) _ _ s;rw[←BS];refine BZ _ (λrest r s'=>s'=s∧∀v∈rest,carriedByValue v=true) _ ?step ?done _ _ ⟨rfl,h3.byValue⟩
 case step=>
  rintro v rest r s' ⟨rfl,al⟩;have hv:∃c,hashByValue n v=pure c:=by have:=al v Ai;cases v<;>first | (exact⟨_,by unfold hashByValue;rfl⟩) | (cases this)
  obtain⟨c,hc⟩:=hv;rw[hc];refine Aa (Ac ?_);cases c with
  | false=>exact Ac (Ac (h false))
  | true=>exact Ac ⟨rfl,λu hu=>al u (Aj _ hu)⟩
 case done=>
  rintro⟨r1,r2⟩ s' ⟨rfl,_⟩;cases r1 with
  | none=>exact Ac (h _)
  | some c=>exact Ac (h _)
theorem XQ{ws:List WP}{Q:Bool→Shared→Prop}(hk:IsWishKey prog w s.heap ws a)(h:∀c,Q c s):wpAny (model prog w) A (hashByValue 8 (.ref a)) Q E s:=by
 have ty:=hk.typeIs;obtain⟨o,its,m,h1,_,h2,h3⟩:=hk;unfold hashByValue;refine Aa (BV ty Cr.lookup ?_);dsimp only;refine Aa (Ba h1 h2 (Aa ?_));show wpAny _ _ (forIn its _ _) _ _ s;rw[←BS];refine BZ _ (λrest r s'=>s'=s∧∃ws',RefsAre prog w s.heap ws' rest) _ ?step ?done _ _ ⟨rfl,ws,h3⟩
 case step=>
  rintro v rest r s' ⟨rfl,ws',hl⟩;cases hl with
  | @cons p c ps _ c1 hl'=>
   refine Aa (XO c1 λd=>?_);cases d with
   | false=>exact Ac (Ac (h false))
   | true=>exact Ac ⟨rfl,ps,hl'⟩
 case done=>
  rintro⟨r1,r2⟩ s' ⟨rfl,_⟩;cases r1 with
  | none=>exact Ac (h _)
  | some c=>exact Ac (h _)
theorem Zr{p:WP}{Q:Bool→Shared→Prop}(hk:IsTupleKey (Kt prog w) s.heap (LZ p) b)(h:Q false s):wpAny (model prog w) A (ofAClassStatement (n+1) (.ref b)) Q E s:=by
 have ty:=hk.typeIs;obtain⟨o,its,m,h1,_,h2,h3⟩:=hk;unfold ofAClassStatement;refine Aa (C7 ty ?_);dsimp only;rw[if_pos (by decide)];refine Aa (Ac ?_);simp only[Ce,Ay,if_false];refine Aa (Ba h1 h2 ?_);dsimp only;refine Aa ?_;rw[←BS];refine BZ _ (λrest r s'=>r.1=none∧s'=s∧∀v∈rest,carriedByValue v=true) _ ?step ?done _ _ ⟨rfl,rfl,h3.byValue⟩
 case step=>
  rintro v rest r s' ⟨hr,rfl,al⟩;have hv:ofAClassStatement n v=pure false:=by have:=al v Ai;cases v<;>first | (unfold ofAClassStatement;rfl) | (cases this)
  rw[hv];refine Aa (Ac ?_);simp only[Ay,if_false];exact Ac ⟨rfl,rfl,λu hu=>al u (Aj _ hu)⟩
 case done=> rintro⟨r1,r2⟩ s' ⟨hr,rfl,_⟩;simp only at hr;subst hr;exact Ac h
theorem UE{ws:List WP}{Q:Bool→Shared→Prop}(hk:IsWishKey prog w s.heap ws a)(h:Q false s):wpAny (model prog w) A (ofAClassStatement 8 (.ref a)) Q E s:=by
 have ty:=hk.typeIs;obtain⟨o,its,m,h1,_,h2,h3⟩:=hk;unfold ofAClassStatement;refine Aa (C7 ty ?_);dsimp only;rw[if_pos (by decide)];refine Aa (Ac ?_);simp only[Ce,Ay,if_false];refine Aa (Ba h1 h2 ?_);dsimp only;refine Aa ?_;rw[←BS];refine BZ _ (λrest r s'=>r.1=none∧s'=s∧∃ws',RefsAre prog w s.heap ws' rest) _ ?step ?done _ _ ⟨rfl,rfl,ws,h3⟩
 case step=>
  rintro v rest r s' ⟨hr,rfl,ws',hl⟩;cases hl with
  | @cons p c ps _ c1 hl'=> refine Aa (Zr c1 ?_);simp only[Ay,if_false];exact Ac ⟨rfl,rfl,ps,hl'⟩
 case done=> rintro⟨r1,r2⟩ s' ⟨hr,rfl,_⟩;simp only at hr;subst hr;exact Ac h
theorem zjB{ws:List WP}{ys:List Value}{Q:Bool→Shared→Prop}(hk:IsWishKey prog w s.heap ws a)(hy:∀y∈ys,∃ws' b,y= .ref b∧IsWishKey prog w s.heap ws' b)(h:Q false s):
 wpAny (model prog w) A (searchCouldBeSeen (.ref a) ys) Q E s:=by
 unfold searchCouldBeSeen;refine Aa ?_;refine BZ _ (λrest r s'=>r.1=none∧s'=s∧∀y∈rest,∃ws' b,y= .ref b∧IsWishKey prog w s.heap ws' b) _ ?step ?done _ _ ⟨rfl,rfl,hy⟩
 case step=>
  rintro v rest r s' ⟨hr,rfl,al⟩;have al':=λu hu=>al u (Aj _ hu);obtain⟨ws',b,rfl,hb⟩:=al v Ai;dsimp only
  split
  · exact Ac ⟨rfl,rfl,al'⟩
  · refine Aa (VY hk ?_);simp only[Ce,Ay,if_false];refine Aa (VY hb ?_);simp only[Ce,Ay,if_false];refine Aa (UE hk ?_);simp only[Ay,if_false];refine Aa (UE hb ?_);simp only[Ay,if_false];exact Ac ⟨rfl,rfl,al'⟩
 case done=> rintro⟨r1,r2⟩ s' ⟨hr,rfl,_⟩;simp only at hr;subst hr;exact Ac h
theorem Tab.put_ok{t:A0}{j:Nat}(T:Tab t n)(hj:j ∉ t.place.toList)(hl:j≤t.mask):
 (t.put j).1.mask=t.mask∧(t.put j).1.place.size=n+1∧(t.put j).1.place.toList.Pairwise (· < ·)∧(∀i∈(t.put j).1.place.toList,i≤t.mask)∧(t.put j).1.dummies=#[]:=by
 refine⟨rfl,?_,zi2 T.ris hj,?_,?_⟩
 · show(insertAt t.place (AI t.place j) j).size=_;rw[←Ah,(Dg _ _ _).length_eq,Ah,EU,T.size]
 · intro i hi;rw[show(t.put j).1.place=insertAt t.place (AI t.place j) j from rfl,(Dg _ _ _).mem_iff,Dm,As,Ak] at hi;rcases hi with z | rfl
   · exact T.le i z
   · exact hl
 · show(if has t.dummies j then eraseAt t.dummies (AI t.dummies j) else t.dummies)=_
   rw[T.du];rfl
theorem Z_{S:Addr}{ks:List (List WP)}{ws:List WP}{hs:Int}{Q:Bool→Shared→Prop}(hu:A.units+1<cLine){h0:Heap}(kp:∀b o,h0.get? b=some o→s.heap.get? b=some o)(T:WSet prog w h0 s.heap S ks)(hk0:IsWishKey prog w h0 ws b)(hn:ws ∉ ks)(hl:ks.length<18)
 (h:∀h',BO S s.heap h'→WSet prog w h0 h' S (ks++[ws])→Q true {s with heap:=h'}):
 wpAny (model prog w) A (setAddHashed S (.ref b) hs) Q E s:=by
 obtain⟨es,ep,t,ho,tab,hz,hel⟩:=T;have up:∀{x:List WP}{c:Addr},IsWishKey prog w h0 x c→IsWishKey prog w s.heap x c:=λq=>VE q λb o _ _ e _=>kp b o e;have hk:=up hk0;unfold setAddHashed setAddHashedIn;refine AF (Aa (AN ho rfl tab.fits ?_));dsimp only;rw[if_neg (by unfold byScan;simp[Value.scannable])];refine Aa (zjC ho rfl tab (λe he=>?_) (λe he R hR=>?_) (λys hy R hR=>?_) λj hj1 hj2=>?_)
 · obtain⟨_,c,_,q,_⟩:=hel e he;exact⟨c,q⟩
 · obtain⟨ws',c,q1,q2,q3⟩:=hel e he;rw[q2];refine XM hu (up q3) hk ?_;have ne:¬ws'=ws:=λz=>hn (z ▸ q1);rw[decide_eq_false ne];exact hR
 · refine zjB hk (λy hy'=>?_) hR;obtain⟨e,he,rfl⟩:=hy y hy';obtain⟨ws',c,q1,q2,q3⟩:=hel e he;exact⟨ws',c,q2,up q3⟩
 · dsimp only;refine Aa (AN ho rfl tab.fits ?_);dsimp only;obtain⟨p1,p2,p3,p4,p5⟩:=tab.put_ok hj2 hj1;generalize hP:t.put j=P at p1 p2 p3 p4 p5 ⊢;obtain⟨t1,pp⟩:=P;dsimp only at p1 p2 p3 p4 p5 ⊢;have perm:=Dg es pp (hs,Value.ref b);generalize hE:FG es pp (hs,Value.ref b)=es1 at perm ⊢;have sz1:es1.size=es.size+1:=by rw[←Ah,perm.length_eq,Ah,EU]
   have fin:∀(h':Heap)(es2:Array (Int×Value))(ep2:Nat)(t2:A0),BO S s.heap h'→h'.get? S=some {cls:= .type "set",dict:=none,data:= .set es2 ep2 t2}→es2.toList.Perm es1.toList→Tab t2 es2.size→Q true {s with heap:=h'}:=λh' es2 ep2 t2 sb ho2 p2 T2=>by
    have sz2:es2.size=es1.size:=by rw[←Ah,p2.length_eq,Ah]
    refine h h' sb ⟨es2,ep2,t2,ho2,T2,by rw[sz2,sz1,hz,A5];rfl,λe he=>?_⟩;have me:=(p2.trans perm).mem_iff.mp he;rw[Dm,As,Ak] at me;rcases me with me | rfl
    · obtain⟨ws',c,q1,q2,q3⟩:=hel e me;exact⟨ws',c,AO _ q1,q2,q3⟩
    · exact⟨ws,b,Ao _ (Ak.mpr rfl),rfl,hk0⟩
   have tail:∀(t2:A0),t2.mask=t.mask→t2.place=t1.place→t2.dummies=#[]→wpAny (model prog w) A (do
    storeSet S es1 t2
    if(!false && t2.tooFull)=true then
     setRelay S (Cd (es.size+1))
     pure true
    else pure true) Q E s:=λt2 m1 m2 m3=>by
    refine Aa (Dn (es':=es1) (t':=t2) ho rfl ?_ (by rw[sizeLine_eq];omega));have ho2:=MV s.heap S es es1 ep t t2 ho;have sb:=AJ s.heap S (FH es1 t2);have fl:t2.fill=es1.size:=by unfold SetTable.fill;rw[m2,m3,p2,sz1];rfl
    by_cases tf:t2.tooFull=true
    · rw[if_pos (by rw[tf];rfl)];unfold EG at tf;rw[fl,m1] at tf;have few:=tab.few;have m7:t.mask=7:=by
       rcases tab.mask with e | e | e
       · exact e
       · rw[e] at tf;simp at tf;omega
       · rw[e] at tf;simp at tf;omega
      rw[m7] at tf few;simp at tf;have n4:es.size=4:=by omega
      unfold setRelay;refine Aa (Aa (AN ho2 rfl ?_ ?_))
      · unfold ED;rw[fl,m2,m1,p2,sz1,m7,n4];rfl
      · dsimp only;rw[n4,if_neg (by rw[show SetTable.sizeAbove (Cd (4+1))=32 from by decide,sizeLine_eq];decide)]
        obtain⟨t3,order,e1,T3,op,_,_⟩:=zjO (t:=t2) (hs:=es1.map (·.1)) (wanted:=Cd (4+1)) (by decide) (by rw[DF,sz1,n4];decide);rw[e1];have per:(order.filterMap (es1[·]?)).toList.Perm es1.toList:=by rw[E9];refine(op.filterMap _).trans (ET ?_);rw[DF];exact filterMap_getElem?_range es1
        have sz3:(order.filterMap (es1[·]?)).size=es1.size:=by rw[←Ah,per.length_eq,Ah]
        have Kq:¬((order.filterMap (es1[·]?)).size !=es1.size)=true:=by rw[sz3];simp
        refine Aa ?_;show wpAny _ _ (if((order.filterMap (es1[·]?)).size !=es1.size)=true then _ else _) _ _ _
        rw[if_neg Kq];refine Ac ?_;dsimp only;refine Dn ho2 rfl ?_ (by rw[sz3,sizeLine_eq];omega);refine Ac (fin _ _ _ t3 (sb.trans (AJ _ S _)) (MV _ S es1 _ (ep+1) t2 t3 ho2) per ?_);rw[sz3];rw[DF] at T3;exact T3
    · rw[if_neg (by rw[Dc] at tf;rw[tf];exact A3)];unfold EG at tf;rw[fl,m1] at tf;refine Ac (fin _ es1 (ep+1) t2 sb ho2 (Ds _) ⟨by rw[m1];exact tab.mask,by rw[m2,p2,sz1],by rw[m2];exact p3,by rw[m2,m1];exact p4,m3,?_⟩);rw[m1];simpa using tf
   by_cases hp:t1.plain=true
   · rw[if_pos hp];refine Aa (XQ hk λc=>?_);cases c with
     | true=>exact tail t1 p1 rfl p5
     | false=>exact tail {t1 with plain:=false} p1 rfl p5
   · rw[if_neg hp];exact Aa (Ac (tail t1 p1 rfl p5))
end ST
def hs(S:Addr→Bool)(H:Hp):Hp:=λa=>if S a=true then none else H a
def look:List (Str×V)→Str→Option V
 | [],_=>none
 | (k,v)::r,x=>if x=k then some v else look r x
def RW:R2:=λx y H Q=>∃a b xs,x= .ref a∧y= .ref b∧H a=some (.tup xs)∧H b=some (.tup [])∧Q (.bl xs.isEmpty) H
theorem Yo(hr:Kz X):J8 X (BN .Eq) RW:=by
 intro pins s σ H x y v u Q I rx ry h;obtain⟨a,b,xs,rfl,rfl,ha,hb,q⟩:=h;cases(show v=Value.ref a from rx);cases(show u=Value.ref b from ry);unfold Kz at hr;obtain⟨_,its,rv,o,hg,hc,_,n,hd⟩:=(show ObjOk X.prog X.w H s.heap a (.tup xs) from I.hok a _ ha);obtain⟨_,its',rv',o',hg',hc',_,n',hd'⟩:=(show ObjOk X.prog X.w H s.heap b (.tup []) from I.hok b _ hb);cases rv';have l:=rv.length;have:=SeqAt.RcAt.tuples (l:=a) (b:=b) (A:=X.A) (e:=λ_=>true) (s:=s) (items:=its.toArray) (items2:=([]:List Value).toArray) ⟨_,hg,hc,_,hd⟩ ⟨_,hg',hc',_,hd'⟩ (by omega) (λj h1 h2=>absurd h2 (by simp));refine this X.prog X.w _ _ ?_;have e:((AG (min its.toArray.size ([]:List Value).toArray.size)).all (λ_=>true) && its.toArray.size==([]:List Value).toArray.size)=xs.isEmpty:=by
  cases xs with
  | nil=> cases rv;rfl
  | cons x xs=>
   cases rv with
   | cons r1 r2=>simp
 rw[e];exact⟨.bl _,H,I,rfl,q⟩
open ST
section
variable{R:Result→Shared→Prop}{I:Addr}{fp wr:List Addr}{G:Array GenState→Array GenState→Prop}{P:Nat→Value→Prop}{St:Nat→Shared→Prop}
theorem zja(ts:List (List WP))(W:WalksS prog w A.in1 I fp wr G ts.length P St)(S:Addr)(hSf:S ∉ fp)(hu:A.in1.units+1<cLine){h0:Heap}(hfr:∀b∈S::wr,h0.get? b=none)
 (hval:∀i v,P i v→∃b ws,v= .ref b∧ts[i]?=some ws∧IsWishKey prog w h0 ws b) (nd:ts.Nodup) (hb:ts.length≤18):
 ∀(k i:Nat)(s:Shared),ts.length - i=k→i≤ts.length→St i s→WSet prog w h0 s.heap S (ts.take i)→(∀b o,h0.get? b=some o→s.heap.get? b=some o)→
  (∀s',Moved (S::wr) G s s'→WSet prog w h0 s'.heap S ts→R (.ok (.ret .none)) s')→
  codeAny (model prog w) A (.builtin "set.update.loop" ⟨[.ref S,.ref I],[]⟩) R s:=by
 have hSw:S ∉ wr:=λh=>hSf (W.sub _ h);have hsub:∀b∈wr,b∈S::wr:=λb hb=>Aj _ hb;have old:∀b o,h0.get? b=some o→b ∉ S::wr:=λb o e q=>by rw[hfr b q] at e;cases e
 intro k
 induction k with
 | zero=>
  intro i s hk hi hst hS kp hR;have hin:i=ts.length:=by omega
  subst hin;refine Br CA ?_;rw[AY BH _];show wpAny _ A.in1 (pyNext (.ref I)>>=_) _ _ s;refine Aa (W.done s _ _ hst λs' hm=>?_);show wpAny _ A.in1 (ret Value.none) _ _ s';rw[Bx] at hS;exact Ac (hR s' (hm.mono hsub) (hS.kept λo e=>hm.heap S _ hSw e))
 | succ k ih=>
  intro i s hk hi hst hS kp hR;have hlt:i<ts.length:=by omega
  refine Br CA ?_;rw[AY BH _];show wpAny _ A.in1 (pyNext (.ref I)>>=_) _ _ s;refine Aa (W.item i s _ _ hlt hst λv s' hP hst' hm=>?_);obtain⟨b,ws,rfl,hx,hkey⟩:=hval i v hP;have hS':WSet prog w h0 s'.heap S (ts.take i):=hS.kept λo e=>hm.heap S _ hSw e;have kp':∀b o,h0.get? b=some o→s'.heap.get? b=some o:=λb o e=>hm.heap b o (λq=>old b o e (hsub b q)) (kp b o e);have key':IsWishKey prog w s'.heap ws b:=VE hkey λb o _ _ e _=>kp' b o e;have hni:ws ∉ ts.take i:=λq=>by obtain⟨j,hj,e⟩:=GT.mp q;rw[AE] at hj;rw[List.getElem_take] at e;obtain⟨hi',e2⟩:=Au.mp hx;have:=(F6.mp nd);have:=(Cz.mp this) j i (by omega) hi' (by omega);exact this (e.trans e2.symm)
  show wpAny _ A.in1 (holding [Value.ref b] (setAdd S (.ref b))>>=_) _ _ s';refine Aa (AF ?_);unfold setAdd;refine AF ?_;refine Aa (ZF hu key' ?_);refine Z_ (s:={s' with toks:=s'.toks+(4*ws.length+1)}) hu (h0:=h0) kp' hS' hkey hni (by rw[AE];omega) λh' hsb hS2=>?_
  refine Ac ⟨BW BH _,ih (i+1) _ (by omega) hlt (W.frame _ s' _ _ hst' (by show s'.toks≤s'.toks+_;omega) λb hb o e=>?_) ?_ (λb o e=>?_) λs'' hm'' hS''=>?_⟩
  · rw[hsb.2 b (λh:b=S=>hSf (by rw[←h];exact hb))];exact e
  · rw[CM,hx];exact hS2
  · rw[show Heap.get? h' b=_ from hsb.2 b (λh:b=S=>old b o e (by rw[h];exact Ai))];exact kp' b o e
  · refine hR s'' (Moved.trans W.gtrans ((hm.mono hsub).then_heap (by show s'.toks≤s'.toks+_;omega) λb o hb e=>?_) hm'') hS'';rw[hsb.2 b (λh:b=S=>hb (by rw[h];exact Ai))];exact e
end
set_option maxHeartbeats 3200000 in
theorem zeB{l:Addr}{items:Array Value}{ts:List (List WP)}{Q:Value→Shared→Prop}
 (hh:A.handled=none) (hu:A.units+20<cLine) (hl:s.heap.IsList l items) (hsz:items.size=ts.length) (hi:∀(i:Nat)(v:Value),items[i]?=some v→∃b ws,v=Value.ref b∧ts[i]?=some ws∧IsWishKey prog w s.heap ws b) (nd:ts.Nodup) (hb:ts.length≤18)
 (h:∀(h':Heap)(tk:Nat),WSet prog w s.heap h' s.heap.objs.size ts→
  (∀b o,b<s.heap.objs.size→s.heap.get? b=some o→h'.get? b=some o)→Q (.ref s.heap.objs.size) {s with heap:=h',toks:=tk}):
 wpAny (model prog w) A (call (.type "set") [.ref l]) Q E s:=by
 obtain⟨c,tl,hmro⟩:=Bh.mro;have hmade:=Bh.made;have hsub:=Bh.sub;refine wpAny_call (D5 ?_);show wpAny _ _ (callAny (.type "set") _) _ _ _;refine Ac ⟨Code.quiet_builtin _ (by decide+kernel),Br Gg ?_⟩;rw[Around.under_plain (weight_type_call_type "set" [.ref l] []) rfl];have h1:=Bh.notType;have h2:=Bh.canCreate;have hct:=G5 (.ref l)
 repeat (any_goals (first | assumption | wp_step))
 refine Cn (VP (.ref l) (E:=E) (Q₁:=λobj s₁=>obj= .ref s.heap.objs.size∧s₁={s with heap:=s.heap.push {cls:= .type "set",dict:=none,data:= .set #[] 0 (.fresh 0 0 (!Jc w))}}) ⟨rfl,rfl⟩) λr s₁ hr=>?_
 cases r with
 | error e=>exact hr
 | ok fl=>
  cases fl with
  | ret obj=>
   obtain⟨rfl,rfl⟩:=hr;have hS:(s.heap.push {cls:= .type "set",dict:=none,data:= .set #[] 0 (.fresh 0 0 (!Jc w))}).get? s.heap.objs.size=some {cls:= .type "set",dict:=none,data:= .set #[] 0 (.fresh 0 0 (!Jc w))}:=Al _ rfl;have hT:EC {s with heap:=s.heap.push {cls:= .type "set",dict:=none,data:= .set #[] 0 (.fresh 0 0 (!Jc w))}} (.ref s.heap.objs.size) "set":=⟨_,hS,rfl⟩;have hli:=Bh.init.lookup;have hbi:=Bh.init.bind (.ref s.heap.objs.size)
   repeat (any_goals (first | assumption | wp_step))
   refine Cn (EQ (R:=wants (λr s₂=>r= .none∧∃h' tk,s₂={s with heap:=h',toks:=tk}∧WSet prog w s.heap h' s.heap.objs.size ts∧
    (∀b o,b<s.heap.objs.size→s.heap.get? b=some o→h'.get? b=some o)) E) Bh.init.plain G6 (check_set_init_1 hT ?_)) λr₂ s₂ hr₂=>?_
   · obtain⟨ol,hol,hcl,nl,hdl⟩:=hl;obtain⟨ocls,odict,odata,oslots⟩:=ol;simp only at hcl hdl;subst hcl;subst hdl;have hol':(s.heap.push {cls:= .type "set",dict:=none,data:= .set #[] 0 (.fresh 0 0 (!Jc w))}).get? l=some {cls:= .type "list",dict:=odict,data:= .seq items nl,slots:=oslots}:=Ad _ hol;have hsls:=GO;have hslf:=Fw;have hne:(Value.type "list"==Value.type "dict")=false:=by decide
     have hl1:(s.heap.push {cls:= .type "set",dict:=none,data:= .set #[] 0 (.fresh 0 0 (!Jc w))}).IsList l items:=⟨_,hol',rfl,nl,rfl⟩;unfold Builtin.«set.__init__» noKeywords Ff;generalize hPI:pyIter=PI
     wp_walk
     subst hPI;refine D9 hl1 ?_;refine Aa (Fg ?_);have hlS:l<s.heap.objs.size:=Ag hol;have hh3:A.in1.in1.in1.handled=none:=by simp[hh]
     have hneI:l≠(s.heap.push {cls:= .type "set",dict:=none,data:= .set #[] 0 (.fresh 0 0 (!Jc w))}).objs.size:=by rw[AS];exact An (Ca hlS)
     have hSf:s.heap.objs.size ∉ [(s.heap.push {cls:= .type "set",dict:=none,data:= .set #[] 0 (.fresh 0 0 (!Jc w))}).objs.size,l]:=by rw[AS];simp only[Ar,Ak,A6,or_false,not_or];exact⟨An (BX _),AV hlS⟩
     have hfr:∀b∈[s.heap.objs.size,(s.heap.push {cls:= .type "set",dict:=none,data:= .set #[] 0 (.fresh 0 0 (!Jc w))}).objs.size],s.heap.get? b=none:=λb hb=>by
      cases e:s.heap.get? b with
      | none=>rfl
      | some o=>
       have:=Ag e;rw[AS] at hb;simp only[Ar,A6,or_false] at hb;rcases hb with rfl | rfl
       · exact absurd this (Cs _)
       · exact absurd this (Nat.not_lt.mpr (CD _))
     have W:=(Walks.list (prog:=prog) (w:=w) hh3 (s.heap.push {cls:= .type "set",dict:=none,data:= .set #[] 0 (.fresh 0 0 (!Jc w))}).objs.size l hneI items).toS;rw[hsz] at W;refine zja ts W s.heap.objs.size hSf (by show A.units+1+1+1+1<cLine;omega) (h0:=s.heap) hfr hi nd hb (ts.length - 0) 0 _ (by omega) (Bc _)
      ⟨⟨_,Al _ rfl,rfl,rfl⟩,(hl1.push _)⟩ (ziw (Ad _ hS)) (λb o e=>Ad _ (Ad _ e)) ?hR
     case hR=>
      intro s' hm hS';obtain⟨h',g',d',tk',os'⟩:=s';have eg:g'=s.gens:=hm.gens;have ed:d'=s.drawn:=hm.drawn;have eo:os'=s.os:=hm.os;subst eg;subst ed;subst eo;show wpAny _ _ _ _ _ _;refine Ac ?_;show wpAny _ _ (ret Value.none) _ _ _;refine Ac ⟨rfl,h',tk',rfl,hS',λb o hb e=>?_⟩;have hb1:b≠s.heap.objs.size:=An hb;have hb2:b≠(s.heap.push {cls:= .type "set",dict:=none,data:= .set #[] 0 (.fresh 0 0 (!Jc w))}).objs.size:=by rw[AS];exact An (Ca hb)
      exact hm.heap b o (by simp only[Ar,Ak,A6,or_false,not_or];exact⟨hb1,hb2⟩) (Ad _ (Ad _ e))
   · cases r₂ with
     | error e=>exact hr₂
     | ok fl₂=>
      cases fl₂ with
      | ret r=>
       obtain⟨rfl,h',tk,rfl,hS',hk'⟩:=hr₂
       repeat (any_goals (first | assumption | wp_step))
       exact h _ _ hS' hk'
      | _=>exact hr₂.elim
  | _=>exact hr.elim
theorem U3{P:Addr×List WP→Prop}:∀{ws:List (Addr×List WP)}{us:List Value},Vals (ws.map λx=>V.ref x.1) us→(∀x∈ws,P x)→∀(i:Nat)(v:Value),us[i]?=some v→∃x,ws[i]?=some x∧P x∧v= .ref x.1
 | [],us,rv,_,i,v,h=>by cases rv;cases h
 | x::ws,us,rv,ok,i,v,h=>by
  rw[AC] at rv;cases rv with
  | @cons _ u _ us r1 r2=>
   cases i with
   | zero=> cases(show u=Value.ref x.1 from r1);cases h;exact⟨x,rfl,ok x Ai,rfl⟩
   | succ i=> obtain⟨y,e,o,q⟩:=U3 r2 (λy hy=>ok y (Aj _ hy)) i v (by simpa using h);exact⟨y,by simpa using e,o,q⟩
section
variable{te:TE}{pos p2 p3 p4:Pos}
def Zi(te:TE):TE:=λσ H Q=>te σ H λx H1=>∃a ws,[x]=[V.ref a]∧WsAt H1 a ws∧(ws.map (·.2)).Nodup∧ws.length≤18∧Q (.int ws.length) H1
theorem ziR(hr:Kz X)(hc:X.calm=true)(he:PE X e te)(hg:Gl X "len")(hm:X.mg "len"=none)(hg2:Gl X "set")(hm2:X.mg "set"=none)
 (h1:A9 [e] X.env=(false,eval e X.env)::A9 [] X.env:=by rfl)
 (h2:A9 [.Call (.Name "set" p2) [e] [] p3] X.env=(false,eval (.Call (.Name "set" p2) [e] [] p3) X.env)::A9 [] X.env:=by rfl)
 (h3:(backTo p3 (A9 [] X.env)).any (·.1)=false:=by rfl) (h4:(backTo pos (A9 [] X.env)).any (·.1)=false:=by rfl):
 PE X (.Call (.Name "len" p4) [.Call (.Name "set" p2) [e] [] p3] [] pos) (Zi te):=by
 intro pins s σ H Q I h;refine Bq (K2 I hg hm J9 ?_ (by decide) (by decide));refine Cy ?_ h2 h4;rw[h2];show wpAny _ _ (spliced ((false,eval (.Call (.Name "set" p2) [e] [] p3) X.env)::backTo pos (A9 [] X.env))) _ _ s;refine CK ?_;refine Bq (K2 I hg2 hm2 Tc ?_ (by decide) (by decide));refine Bp (I_ (IS he IT h1 p3 pins s σ H (λvs H1=>∃a ws,vs=[V.ref a]∧WsAt H1 a ws∧(ws.map (·.2)).Nodup∧ws.length≤18∧Q (.int ws.length) H1) I ?_) λus s1 ⟨vs,H1,I1,r1,a,ws,hv,hq,nd,hn,q⟩=>?_) h1 h3
 · exact h
 subst hv;obtain⟨u1,rfl,v1⟩:=KC r1;cases v1;obtain⟨its,rv,ht,hz⟩:=I1.list (SqL.of hq.at');have hlen:=rv.length;rw[Ab] at hlen;refine zeB (I1.ok.hd hc) (by unfold Kz at hr;omega) ht.isList (ts:=ws.map (·.2)) (by rw[Aw,Ab];omega) (λi v hv=>?_) nd (by rw[Ab];exact hn) λh' tk hS kp=>?_
 · obtain⟨x,e,ok,ev⟩:=U3 rv hq.ok i v (by simpa using hv);subst ev;exact⟨x.1,x.2,rfl,by rw[Am,e];rfl,Zp I1.hok ok.1⟩
 · have I2:Inv X pins σ H1 {s1 with heap:=h',toks:=tk}:=I1.kept λb o e=>kp b o (Ag e) e
   refine CV ?_;obtain⟨es,ep,t,ho,T,hsz,_⟩:=hS;rw[Ab] at hsz;refine call_len_set ho ⟨rfl,rfl,rfl⟩ rfl T.fits (by omega) ?_;rw[hsz];exact⟨.int ws.length,H1,I2.kept (t':=tk+1+1) (λb u e=>e),⟨tk+1,rfl⟩,q⟩
end
theorem zgH(kx target iter:Expr)(ifs:List Expr)(scope:Scope)(pos:Pos)(it:Value)(D:Addr)(env:Env):
 compTurn (.SetComp kx [⟨target,iter,ifs,0⟩] scope pos) 0 it (.ref D) env=(do
  standAt iter.pos
  match ←pyNext it with
  | none=>pure (.done .next)
  | some v=>
   Co target it v
   assign target env v
   let mut ok:=true
   for c in ifs do
    if ok then ok ←isTrue c env (eval c env)
   if ok then
    (do
     let v ←eval kx env
     standAt kx.pos
     let _ ←call (.builtin "set.add") [.ref D,v])
   again (.compLoop (.SetComp kx [⟨target,iter,ifs,0⟩] scope pos) 0 it (.ref D) env)):=by rfl
section
variable{R:Result→Shared→Prop}
theorem zfP{kx target iter ifs rest scope pos it acc env}
 (h0:codeAny (model prog w) A (.compLoop (.SetComp kx (⟨target,iter,ifs,0⟩::rest) scope pos) 0 it acc env) R s)
 (h:wpAny (model prog w) A (pyIter it) (λit' s'=>codeAny (model prog w) A (.compLoop (.SetComp kx (⟨target,iter,ifs,0⟩::rest) scope pos) 0 it' acc env) R s')
  (notedBy (model prog w) A env λx s'=>R (.error x) s') s):
 codeAny (model prog w) A (.compStart (.SetComp kx (⟨target,iter,ifs,0⟩::rest) scope pos) 0 it acc env) R s:=by
 refine D5 ?_;show wpAny _ A ((CY (.SetComp kx (⟨target,iter,ifs,0⟩::rest) scope pos) 0 it acc env).onRaise (λx=>do noteFrame x env;standAt theWindowsPlace)) _ _ s
 refine wpAny_notedAt ?_;unfold CY;show wpAny _ A (ask>>=_) _ _ s;refine Aa (Dd (wpAny_ite ?_))
 split
 · first
    | exact Aa (Ac (Ac (And.intro rfl h0)))
    | exact Ac (And.intro rfl h0)
 · first
    | exact Aa (Cm (Aa (BM (Aa (AB h (λit' s' h'=>Ac (And.intro rfl h')) λ_ _ x=>x)))))
    | (refine Aa (Cm ?_);show wpAny _ _ (standAt iter.pos>>=_) _ _ s;exact Aa (BM (Aa (AB h (λit' s' h'=>Ac (And.intro rfl h')) λ_ _ x=>x))))
theorem zgI{kx target iter:Expr}{ifs:List Expr}{scope:Scope}{pos:Pos}{it:Value}{D:Addr}{env:Env}(I:Nat→Shared→Prop)
 (turn:∀n s,I n s→wpAny (model prog w) A (pyNext it) (λr s₁=>match r with
  | none=>R (.ok .next) s₁
  | some v=>wpAny (model prog w) A (Co target it v) (λ_ s₁'=>wpAny (model prog w) A (assign target env v) (λ_ s₂=>
   wpAny (model prog w) A (forIn ifs true λc r=>if r=true then do let ok ←isTrue c env (eval c env);pure (ForInStep.yield ok) else pure (ForInStep.yield r)) (λok s₃=>
    if ok=true then wpAny (model prog w) A (eval kx env) (λkv s₄=> wpAny (model prog w) A (call (.builtin "set.add") [.ref D,kv]) (λ_ s₆=>∃m,m<n∧I m s₆) (λ_ _=>False) s₄) (λ_ _=>False) s₃
    else ∃m,m<n∧I m s₃) (λ_ _=>False) s₂) (λ_ _=>False) s₁') (λ_ _=>False) s₁) (λ_ _=>False) s)
 (n:Nat) (h:I n s):
 codeAny (model prog w) A (.compLoop (.SetComp kx [⟨target,iter,ifs,0⟩] scope pos) 0 it (.ref D) env) R s:=by
 refine EM rfl I (λn s hI=>?_) n h;show wpAny _ A ((compTurn (.SetComp kx [⟨target,iter,ifs,0⟩] scope pos) 0 it (.ref D) env).onRaise (λx=>do noteFrame x env;theTreesLotGoes x)) _ _ s
 refine Fk ?_;rw[zgH];refine Aa (BM (Aa (AB (turn n s hI) (λr s₁ h₁=>?_) λ_ _ z=>z.elim)));cases r with
 | none=>exact Ac h₁
 | some v=>
  refine Aa (AB h₁ (λ_ s₁' h₁'=>?_) λ_ _ z=>z.elim);refine Aa (AB h₁' (λ_ s₂ h₂=>Aa (AB h₂ (λok s₃ h₃=>?_) λ_ _ z=>z.elim)) λ_ _ z=>z.elim);cases ok with
  | false=>exact Ac ⟨rfl,h₃⟩
  | true=> refine Aa (Aa (AB h₃ (λkv s₄ h₄=>Aa (BM (Aa (AB h₄ (λ_ s₆ h₆=>?_) λ_ _ z=>z.elim)))) λ_ _ z=>z.elim));exact Ac (Ac ⟨rfl,h₆⟩)
end
def JC(P:Bw)(w:World)(d:Addr)(ks:List Str):Heap→Prop:=λh=>h.SetOf (strKind P w) d (λk=>decide (k∈ks)) ks.length
def K9(ks:List Str)(k:Str):List Str:=if k∈ks then ks else ks++[k]
section
variable{d:Addr}{ks:List Str}
theorem Uh{P':Bw}{w':World}(x:JC P w d ks h):ObjOk P' w' H h d (.ext (JC P w d ks)):=⟨x,let⟨o,_,_,_,e,_⟩:=x;⟨o,e⟩,λh1 h2 ⟨o,es,ep,t,e,r⟩ k=>⟨o,es,ep,t,k o e,r⟩⟩
theorem Zc(x:h.SetOf (strKind P w) d (λ_=>false) 0):JC P w d [] h:=SetOf_congr x (λ_=>by simp) rfl
theorem Zd{k:Str}(x:h.SetOf (strKind P w) d (λk'=>decide (k'∈ks) || decide (k'=k)) (if decide (k∈ks) then ks.length else ks.length+1)):JC P w d (K9 ks k) h:=by
 unfold JC K9;by_cases c:k∈ks
 · rw[if_pos c];refine SetOf_congr x (λy=>?_) (by simp[c]);by_cases e:y=k
   · subst e;simp[c]
   · simp[e]
 · rw[if_neg c];refine SetOf_congr x (λy=>?_) (by simp[c]);simp
end
def PL(J:It)(p:Addr)(js:JF)(g:TG)(tc:TT)(tk:TE)(σ:St)(H:Hp)(Q:Nat→Hp→Prop):Prop:=
 ∃W:Nat→Nat→St→List Str→Hp→Prop,(∃m,∀φ,W 0 m (Kh js σ) [] (IU H p (.ext φ)))∧∀i m σ' ks H,W i m σ' ks H→ks.length≤900∧
  ((J.stop i H∧Q ks.length H)∨(J.go i H∧∀x H',J.yld i H x H'→g x σ' H' λσ2 H2=>tc σ2 H2 λb H3=>
    if b=true then tk σ2 H3 λk H4=>∃t:Str,k= .str t∧H4 p=H p∧∀φ,∃m',m'<m∧W (i+1) m' σ2 (K9 ks t) (IU H4 p (.ext φ))
    else H3 p=H p∧∃m',m'<m∧W (i+1) m' σ2 ks H3))
def Yi(wi:TI)(js:JF)(g:TG)(tc:TT)(tk:TE):TE:=λσ H Q=>wi σ H λJ H1=>∀p,H1 p=none→PL J p js g tc tk σ H1 λn H2=>Q (.int n) H2
section
variable{tg iter kx:Expr}{ifs:List Expr}{wi:TI}{js:JF}{g:TG}{tc:TT}{tk:TE}{N':List Str}{pos p2 p3:Pos}
theorem Ze{pins:List (Addr×Obj)}{σ:St}{H:Hp}{s:Shared}{E:Value→Shared→Prop}{Q:Nat→Hp→Prop}{J:It}{it:Addr}{fp:List Addr}{tn:Nat→Heap→Prop}{cl:List (Str×Addr)}
 (hc:X.calm=true) (ok:CapOk X N' js scope)
 (h2:∀x c,cl.lookup x=some c→X.env.cells.lookup x=some c) (h3:∀p∈scope.names,p.2= .free→(cl.lookup p.1).isSome=true)
 (hg:∀cl C s₀ H₀ ex,PG (J4 X N' scope cl C s₀ H₀ ex) tg g) (ht:∀cl C s₀ H₀ ex,J5 (J4 X N' scope cl C s₀ H₀ ex) ifs tc) (he:∀cl C s₀ H₀ ex,PE (J4 X N' scope cl C s₀ H₀ ex) kx tk)
 (I:Inv X pins σ H s) (T:Turn X.prog X.w X.K tg J fp it tn) (st:tn 0 s.heap) (hf:∀b∈fp,Je X pins H b)
 (hw:∀p,H p=none→PL J p js g tc tk σ H Q):
 wpAny (model X.prog X.w) X.A (newSet (.type "set")) (λacc s₃=>wpAny (model X.prog X.w) X.A (newFunctionEnv scope X.env.globals cl [] X.env.qual none .none (some X.env)) (λcenv s₄=>
  codeAny (model X.prog X.w) X.A (.compStart (.SetComp kx [⟨tg,iter,ifs,0⟩] scope pos) 0 (.ref it) acc {cenv with scope:=relabel scope X.env})
   (λr s'=>r= .ok .next∧(∃m,s'.heap.Ns cenv.locals m)∧∃(p:Addr)(H':Hp)(ks:List Str),acc= .ref p∧Inv X pins σ H' s'∧Je X pins H' cenv.locals∧H' p=some (.ext (JC X.prog X.w p ks))∧Q ks.length H') s₄) E s₃) E s:=by
 have objs:=T.obj _ _ st;refine wpAny_newSet_of (knd:=strKind X.prog X.w) λled hnew=>?_;obtain⟨W,⟨m0,w0⟩,turn⟩:=hw s.heap.objs.size (I.hok.fresh (Af _));generalize hp:s.heap.objs.size=p at*;have kp:∀b u,s.heap.get? b=some u→(s.heap.push {cls:= .type "set",dict:=none,data:= .set #[] 0 (.fresh 0 0 led)}).get? b=some u:=λb u e=>Ad _ e;have I3:Inv X pins σ (IU H p (.ext (JC X.prog X.w p []))) {s with heap:=s.heap.push {cls:= .type "set",dict:=none,data:= .set #[] 0 (.fresh 0 0 led)}}:=by subst hp;exact I.laid (t':=s.toks) kp (Af _) (Uh (Zc hnew))
 have fne:∀b∈fp,b≠p:=λb hb=>by obtain⟨o,e,_⟩:=objs b hb;have:=Ag e;rw[←hp];exact An this
 have hf3:∀b∈fp,Je X pins (IU H p (.ext (JC X.prog X.w p []))) b:=λb hb=>⟨by rw[Ji (fne b hb)];exact(hf b hb).1,(hf b hb).2⟩;have st3:tn 0 (s.heap.push {cls:= .type "set",dict:=none,data:= .set #[] 0 (.fresh 0 0 led)}):=T.keep _ _ _ st λb _ o e=>kp b o e;have lt3:∀b∈fp,b<(s.heap.push {cls:= .type "set",dict:=none,data:= .set #[] 0 (.fresh 0 0 led)}).objs.size:=λb hb=>by obtain⟨o,e,_⟩:=objs b hb;exact Ag (kp b o e)
 generalize hs3:({s with heap:=s.heap.push {cls:= .type "set",dict:=none,data:= .set #[] 0 (.fresh 0 0 led)}}:Shared)=s3 at*
 have eh:s.heap.push {cls:= .type "set",dict:=none,data:= .set #[] 0 (.fresh 0 0 led)}=s3.heap:=by rw[←hs3]
 rw[eh] at st3 lt3;refine OZ ok.cells λcl h₁ hns₁ k4 oc=>?_;have I4:=OG (cl:=cl) (h₁:=h₁) (t':=s3.toks+([]:List (Str×Value)).length) ok I3 h2 h3 hf3 lt3 k4 hns₁ oc;have st4:tn 0 h₁:=T.keep _ _ _ st3 λb _ o e=>k4 b o e;generalize hX:J4 X N' scope cl s3.heap.objs.size s3 (IU H p (.ext (JC X.prog X.w p []))) fp=X' at I4;have hg':PG X' tg g:=by rw[←hX];exact hg _ _ _ _ _
 have ht':J5 X' ifs tc:=by rw[←hX];exact ht _ _ _ _ _
 have he':PE X' kx tk:=by rw[←hX];exact he _ _ _ _ _
 have eP:X'.prog=X.prog:=by rw[←hX];rfl
 have ew:X'.w=X.w:=by rw[←hX];rfl
 have eK:X'.K=X.K:=by rw[←hX];rfl
 have ec:X'.calm=true:=by rw[←hX];exact hc
 have eA:X'.A=X.A:=by rw[←hX];rfl
 have ex:X'.xe=λ_ _=>False:=by rw[←hX];rfl
 have eE:X'.env=compEnvC scope cl s3.heap.objs.size X.env:=by rw[←hX];rfl
 have eEx:X'.ex=fp:=by rw[←hX];rfl
 have eN:X'.pn=[]:=by rw[←hX];rfl
 have stat:∀{H':Hp},(∀b∈fp,H' b=none)→∀b∈fp,Je X' [] H' b:=λ{H'}hn b hb=>by have okc:=I4.ok;refine⟨hn b hb,(okc.exf b (by rw[eEx];exact hb)).1,okc.exfs b (by rw[eEx];exact hb),.inl (by rw[eEx];exact hb),(okc.exf b (by rw[eEx];exact hb)).2,λq hq=>?_⟩;rw[eN] at hq;cases hq
 have loop:∀s₄:Shared,s₄={s3 with heap:=h₁,toks:=s3.toks+([]:List (Str×Value)).length}→
  codeAny (model X.prog X.w) X.A (.compLoop (.SetComp kx [⟨tg,iter,ifs,0⟩] scope pos) 0 (.ref it) (.ref p) (compEnvC scope cl s3.heap.objs.size X.env))
   (λr s'=>r= .ok .next∧(∃m,s'.heap.Ns s3.heap.objs.size m)∧∃(p':Addr)(H':Hp)(ks:List Str),Value.ref p= .ref p'∧Inv X pins σ H' s'∧Je X pins H' s3.heap.objs.size∧H' p'=some (.ext (JC X.prog X.w p' ks))∧Q ks.length H') s₄:=by
  rintro s₄ rfl;refine zgI (λn s'=>∃i σ' ys H',Inv X' [] σ' H' s'∧tn i s'.heap∧(∀b∈fp,H' b=none)∧H' p=some (.ext (JC X.prog X.w p ys))∧W i n σ' ys H') ?_ m0 ⟨0,_,[],_,I4,st4,λb hb=>(hf3 b hb).1,IX,w0 _⟩;rintro n s5 ⟨i,σ5,ys,H5,I5,st5,fr5,hp5,w5⟩;obtain⟨lk5,tu⟩:=turn i n σ5 ys H5 w5;rcases tu with⟨stop,qn⟩ | ⟨go,step⟩
  · have D:=T.done X' eP ew eK ec i [] s5 σ5 H5 (λ_ _=>False) I5 (stat fr5) st5 stop;rw[eA] at D;refine I_ D λr s6 ⟨hr,I6⟩=>?_;subst hr;refine⟨rfl,?_,p,H5,ys,rfl,?_,?_,hp5,qn⟩
    · obtain⟨m,hm,_⟩:=I6.loc;rw[eE] at hm;exact⟨m,hm⟩
    · have b6:=I6.base;have ho:=I6.os;have hk:=I6.hok;have hb:=I6.bare;subst hX;exact I3.call' (ch:=fp) ho b6 hk hb λb hb'=>⟨(hf b hb').2.2.2.1,(hf b hb').2.1,(hf b hb').2.2.2.2.1,(hf b hb').2.2.2.2.2⟩
    · have fr:=I6.free;rw[eE] at fr;exact I3.fpOk (Af _) fr
  · have D:=T.item X' eP ew eK ec i [] s5 σ5 H5 (λ_ _=>False) I5 (stat fr5) st5 go;rw[eA] at D;refine I_ D λr s6 ⟨u,hr,h6⟩=>?_;subst hr;refine I_ h6 λ_ s7 ⟨x,H7,I7,r7,y7,st7,fr7⟩=>?_;have I7':=I7.pinned (stat fr7) (T.obj _ _ st7);have G:=hg' _ s7 σ5 H7 x u _ I7' r7 (step x H7 y7);rw[eP,ew,eA,ex,eE] at G;refine I_ G λ_ s8 ⟨σ8,H8,I8,q8⟩=>?_;have Tt:=ht' _ s8 σ8 H8 _ I8 q8;rw[eP,ew,eA,ex,eE] at Tt;refine I_ Tt λb s9 ⟨H9,I9,q9⟩=>?_;have again:∀{s':Shared}{ys':List Str}{H':Hp},Inv X' ([]++Kf fp s7.heap) σ8 H' s'→H' p=some (.ext (JC X.prog X.w p ys'))→(∃m',m'<n∧W (i+1) m' σ8 ys' H')→
     ∃m,m<n∧∃i σ' ys H',Inv X' [] σ' H' s'∧tn i s'.heap∧(∀b∈fp,H' b=none)∧H' p=some (.ext (JC X.prog X.w p ys))∧W i m σ' ys H':=λ{s' ys' H'}I' hp' ⟨m',hm,w'⟩=>by
     refine⟨m',hm,i+1,σ8,ys',H',I'.unpinned,T.keep _ _ _ st7 λb hb o e=>(I'.pin (b,o) (Ao _ (Ao _ (KL hb e)))).1,λb hb=>?_,hp',w'⟩;obtain⟨o,e,d⟩:=T.obj _ _ st7 b hb;exact(I'.pin (b,o) (Ao _ (Ao _ (KL hb e)))).2.1
    cases b with
    | false=> obtain⟨e9,q9⟩:=q9;exact again I9 (e9.trans hp5) q9
    | true=> have Ee:=he' _ s9 σ8 H9 _ I9 q9;rw[eP,ew,eA,ex,eE] at Ee;show wpAny _ _ _ _ _ _;refine I_ Ee λkv s10 ⟨kk,H10,I10,r10,q10⟩=>?_;obtain⟨t,ek,hp10,q11⟩:=q10;subst ek;obtain⟨tok,rfl⟩:=(show ∃tk,kv=Value.str t tk from r10);have hp11':=hp10.trans hp5;have ph:=(show ObjOk X'.prog X'.w H10 s10.heap p (.ext (JC X.prog X.w p ys)) from I10.hok p _ hp11').1;refine call_set_add (knd:=strKind X.prog X.w) (k:=t) (key:= .str t tok) (OD t tok) rfl ph (by unfold Eo;omega) λh' hs' hS=>?_;have he0:∃q,h'.get? p=some q:=let⟨q,_,_,_,hq,_⟩:=hS;⟨q,hq⟩;have I12:=Ub (t':=s10.toks+1) (ob:= .ext (JC X.prog X.w p (K9 ys t))) I10 (by rw[hp11'];exact True.intro) hs' he0 (Uh (Zd hS));exact again I12 IX (q11 _)
 exact zfP (loop _ rfl) (T.self _ 0 _ _ _ st4 (loop _ rfl))
theorem YU{p4:Pos}(hc:X.calm=true)(ok:CapOk X N' js scope)(hi:PI X tg iter wi)
 (hg:∀cl C s₀ H₀ ex,PG (J4 X N' scope cl C s₀ H₀ ex) tg g) (ht:∀cl C s₀ H₀ ex,J5 (J4 X N' scope cl C s₀ H₀ ex) ifs tc) (he:∀cl C s₀ H₀ ex,PE (J4 X N' scope cl C s₀ H₀ ex) kx tk)
 (hgl:Gl X "len") (hm:X.mg "len"=none) (hs:∀x,B_ iter X.env x=pure x:=by intro _;rfl)
 (h2:A9 [.SetComp kx [⟨tg,iter,ifs,0⟩] scope pos] X.env=(false,eval (.SetComp kx [⟨tg,iter,ifs,0⟩] scope pos) X.env)::A9 [] X.env:=by rfl)
 (h4:(backTo p2 (A9 [] X.env)).any (·.1)=false:=by rfl):
 PE X (.Call (.Name "len" p4) [.SetComp kx [⟨tg,iter,ifs,0⟩] scope pos] [] p2) (Yi wi js g tc tk):=by
 intro pins s σ H Q I h;refine Bq (K2 I hgl hm J9 ?_ (by decide) (by decide));refine Cy ?_ h2 h4;rw[h2];show wpAny _ _ (spliced ((false,eval (.SetComp kx [⟨tg,iter,ifs,0⟩] scope pos) X.env)::backTo p2 (A9 [] X.env))) _ _ s;refine CK ?_;obtain⟨cl,c1,c2,c3⟩:=N4 (scope:=scope) I.ok.has ok.free;show wpAny _ X.A (comprehension (.SetComp kx [⟨tg,iter,ifs,0⟩] scope pos) scope X.env _ (newSet (.type "set")) false (eval iter X.env)) _ _ s;refine CS (use:=none) rfl hs c1 ok.kind ok.names (I_ (hi pins s σ H _ I h) λv s1 h1=>I_ h1 λitv s2 h2=>?_);obtain⟨it,fp,tn,J,H2,e,I2,T,st2,f2,hw⟩:=h2;subst e;refine AB (Ze (iter:=iter) (pos:=pos) hc ok c2 c3 hg ht he I2 T st2 f2 hw) (λacc s3 h3=>AB h3 (λcenv s4 h4=>?_) λ_ _ z=>z) λ_ _ z=>z;refine Cn h4 λr s5 h5=>?_;obtain⟨rfl,⟨m,hm⟩,p,H5,ks,rfl,I5,f5,hp,q5⟩:=h5;refine⟨m,hm,λh' sb=>?_⟩;obtain⟨f0,f1,_,f3,f4,f6⟩:=f5;have I6:=I5.turned (t':=s5.toks) (h':=h') (λb o hb e=>(sb.2 b hb).trans e) f0 f1 f3 f4 f6;refine CV ?_;have ph:=(show ObjOk X.prog X.w H5 h' p (.ext (JC X.prog X.w p ks)) from I6.hok p _ hp).1;obtain⟨o,es,ep,t,ho,hex,hd,_,_,hb,hf,hsz⟩:=ph;refine call_len_set ho hex hd hf (by unfold Eo at hb;omega) ?_;rw[hsz];exact⟨.int ks.length,H5,I6.kept (t':=s5.toks+1+1) (λb u e=>e),⟨s5.toks+1,rfl⟩,q5⟩
end
structure Stand where
 a:Addr
 hand:Str
 post:Int
 l:Addr
 ws:List (Addr×List WP)
structure StAt(H:Hp)(W:List Int)(x:Stand):Prop where
 at':H x.a=some (.tup [.str x.hand,.int x.post,.ref x.l])
 ws:WsAt H x.l x.ws
 nd:(x.ws.map (·.2)).Nodup
 few:x.ws.length≤10
 name:FieldOk x.hand
 post:WB.Post W x.post
structure StsAt(H:Hp)(W:List Int)(l:Addr)(xs:List Stand):Prop where
 at':H l=some (.lst (xs.map λx=>V.ref x.a))
 ok:∀x∈xs,StAt H W x
 nd:(xs.map (·.hand)).Nodup
 len:xs.length≤30
theorem StAt.same{H':Hp}{W:List Int}{x:Stand}(h:StAt H W x)(s:Same H H'):StAt H' W x:=⟨s _ _ h.at',h.ws.same s,h.nd,h.few,h.name,h.post⟩
theorem StsAt.same{H':Hp}{W:List Int}{l:Addr}{xs:List Stand}(h:StsAt H W l xs)(s:Same H H'):StsAt H' W l xs:=⟨s _ _ h.at',λx hx=>(h.ok x hx).same s,h.nd,h.len⟩
def KP(ws:List (Addr×List WP))(p:List PP):Bool:=ws.any λw=>Kg w.2 p
theorem zjT{xs:List Stand}(nd:(xs.map (·.hand)).Nodup){x:Stand}(e:xs[i]?=some x):K9 ((xs.map (·.hand)).take i) x.hand=(xs.map (·.hand)).take (i+1):=by
 have e2:(xs.map (·.hand))[i]?=some x.hand:=by rw[Am,e];rfl
 unfold K9;rw[if_neg,CM,e2]
 · rfl
 · intro q;obtain⟨j,hj,e3⟩:=GT.mp q;rw[AE] at hj;rw[List.getElem_take] at e3;obtain⟨hi',e4⟩:=Au.mp e2;have:=(Cz.mp (F6.mp nd)) j i (by omega) hi' (by omega);exact this (e3.trans e4.symm)
def Vj:Sp:=λvs H Q _=>∃(l:Addr)(ws:List (Addr×List WP)),vs=[.ref l]∧WsAt H l ws∧(ws.map (·.2)).Nodup∧ws.length≤18∧∀H',Same H H'→Q (.bl true) H'
def Wd:Sp:=λvs H Q _=>∃(l c:Addr)(ws:List (Addr×List WP))(p:List PP),vs=[.ref l,.ref c]∧WsAt H l ws∧PieceAt H c p∧POk p∧∀H',Same H H'→Q (.bl (KP ws p)) H'
def VL:Sp:=λvs H Q _=>∃(a:Addr)(W:List Int)(x:Stand),vs=[.ref a,.ref x.a]∧WebAt H a W∧StAt H W x∧∀H',Same H H'→Q (.bl true) H'
def VV:Sp:=λvs H Q _=>∃(a l:Addr)(W:List Int)(xs:List Stand),vs=[.ref a,.ref l]∧WebAt H a W∧StsAt H W l xs∧∀H',Same H H'→Q (.bl true) H'
def VW:Sp:=λvs H Q _=>∃(a l:Addr)(W:List Int)(xs:List Stand),vs=[.ref a,.ref l]∧WebAt H a W∧StsAt H W l xs∧∀H',Same H H'→Q .non H'
section
variable{K:Ae}{p:Addr}{g:TG}{tc:TT}{te:TE}{Q:Nat→Hp→Prop}
theorem Y6{js:JF}(Pv:Nat→St→List Str→Hp→Prop)(h0:∀φ,Pv 0 (Kh js σ) [] (IU H p (.ext φ)))
 (hl:∀i σ ks H,i≤xs.length→Pv i σ ks H→SqL K H a xs∧ks.length≤900)
 (hs:∀(i:Nat)x σ ks H(N:St→List Str→Hp→Prop),xs[i]?=some x→Pv i σ ks H→(∀σ' ks' H',Pv (i+1) σ' ks' H'→N σ' ks' H')→
  g x σ H λσ2 H2=>tc σ2 H2 λb H3=>if b=true then te σ2 H3 λk H4=>∃t:Str,k= .str t∧H4 p=H p∧∀φ,N σ2 (K9 ks t) (IU H4 p (.ext φ)) else H3 p=H p∧N σ2 ks H3)
 (hd:∀σ ks H,Pv xs.length σ ks H→Q ks.length H):PL (Lz K a) p js g tc te σ H Q:=by
 refine⟨λi m σ ks H=>m=xs.length - i∧i≤xs.length∧Pv i σ ks H,⟨xs.length,λφ=>⟨by simp,Bc _,h0 φ⟩⟩,?_⟩;rintro i m σ ks H ⟨rfl,hi,pv⟩;obtain⟨q1,q2⟩:=hl i σ ks H hi pv;refine⟨q2,?_⟩;by_cases lt:i<xs.length
 · refine .inr ⟨⟨xs,xs[i],q1,by simp[lt]⟩,λx H' y=>?_⟩;obtain⟨e,y⟩:=y;subst e;exact hs i x σ ks _ (λσ2 ks2 H2=>∃m',m'<xs.length - i∧m'=xs.length - (i+1)∧i+1≤xs.length∧Pv (i+1) σ2 ks2 H2) (y xs q1) pv λσ' ks' H' p'=>⟨xs.length - (i+1),by omega,rfl,lt,p'⟩
 · have e:i=xs.length:=by omega
   subst e;exact .inl ⟨⟨xs,q1,Af _⟩,hd σ ks H pv⟩
end
theorem zfS(K:Ae)(h:X.K=K):Ko X (.type "list") (λxs H Q=>∃p ys,xs=[.ref p]∧(SqL K H p ys∨SqT K H p ys)∧∀l,H l=none→Q (.ref l) (IU H l (.lst ys))):=by subst h;exact Pa
theorem zjb{M:Nat}(h:M≤23):WB.Web ((AG M).map (λ(i:Nat)=>(i:Int))):=by
 refine⟨by simp;omega,λi n e=>?_⟩;rw[Am] at e;by_cases c:i<M
 · rw[DW c] at e;cases e;show 0≤(i:Int)∧(i:Int)≤(i:Int);exact⟨by omega,by omega⟩
 · rw[C5 (by simp;omega)] at e;cases e
theorem U_{L:List Int}{x:Int}(h:∀(j:Nat)y,L[j]?=some y→0≤y∧y≤(j:Int))(x0:0≤x)(x1:x≤(L.length:Int)):∀(j:Nat)y,(L++[x])[j]?=some y→0≤y∧y≤(j:Int):=λj y e=>by
 by_cases c:j<L.length
 · rw[BQ c] at e;exact h j y e
 · rw[Ct (by omega)] at e;have:j - L.length=0:=by
    cases q:j - L.length with
    | zero=>rfl
    | succ m=>rw[q] at e;simp at e
   rw[this] at e;cases e;exact⟨x0,by omega⟩
def VI:Sp:=λvs H Q _=>∃(b g l:Addr)(n many:Int),vs=[.ref b,.int many]∧Well H b g l n∧n≤10^7∧1≤many∧many≤30∧
 ∀(r:Addr)(fs:List Str)(H':Hp),H r=none→H' r=some (.lst (fs.map V.str))→fs.Pairwise Kr→(∀f∈fs,FieldOk f)→1≤fs.length→(fs.length:Int)≤many→Well H' b g l (n+1000)→SameB b g H H'→Q (.ref r) H'
def TK:Sp:=λvs H Q _=>∃(b g l a t:Addr)(n lo sz wide many:Int)(fs:List Str),vs=[.ref b,.ref a,.ref t,.int wide,.int many]∧Well H b g l n∧n≤10^6∧NamesAt H b g a fs∧H t=some (.tup [.int lo,.int sz])∧1≤sz∧sz≤10^10∧1≤wide∧wide≤100∧0≤many∧many≤90∧
 ∀(r:Addr)(ws:List (Addr×List WP))(H':Hp),H r=none→WsAt H' r ws→(ws.length:Int)≤many→(ws.map (·.2)).Nodup→Well H' b g l (n+40*many)→SameB b g H H'→Q (.ref r) H'
def Vg:Sp:=λvs H Q _=>∃(b g l a:Addr)(n:Int)(xs:List V),vs=[.ref b,.ref a]∧Well H b g l n∧n≤10^6∧H a=some (.lst xs)∧a≠b∧a≠g∧xs.length≤90∧
 ∀(r:Addr)(ys zs:List V)(H':Hp),H r=none→H' r=some (.lst ys)→(ys++zs).Perm xs→Well H' b g l (n+100)→SameB b g H H'→Q (.ref r) H'
def TM:Sp:=λvs H Q _=>∃(b g l:Addr)(n most:Int),vs=[.ref b,.int most]∧Well H b g l n∧n≤10^6∧1≤most∧most≤24∧
 ∀(r:Addr)(W:List Int)(H':Hp),H r=none→WebAt H' r W→Well H' b g l (n+30)→SameB b g H H'→Q (.ref r) H'
def JH(x:Stand):Str×Int×List (Addr×List WP):=(x.hand,x.post,x.ws)
def Vh:Sp:=λvs H Q _=>∃(b g l a c:Addr)(n many:Int)(W:List Int)(ws:List (Addr×List WP)),vs=[.ref b,.ref a,.ref c,.int many]∧Well H b g l n∧n≤10^5∧WebAt H a W∧a≠b∧a≠g∧WsAt H c ws∧c≠b∧c≠g∧(ws.map (·.2)).Nodup∧ws.length≤90∧1≤many∧many≤30∧
 ∀(r:Addr)(xs:List Stand)(H':Hp),H r=none→StsAt H' W r xs→(∀x∈xs,H x.l=none)→Well H' b g l (n+5000)→SameB b g H H'→Q (.ref r) H'
def TH:Sp:=λvs H Q _=>∃(l:Addr)(W:List Int)(xs:List Stand),vs=[.ref l]∧StsAt H W l xs∧∀(r:Addr)(ys:List Stand)(H':Hp),H r=none→Same H H'→StsAt H' W r ys→ys.map JH=xs.map JH→Q (.ref r) H'
structure NmAt(H:Hp)(b g a:Addr)(fs:List Str):Prop where
 at':H a=some (.lst (fs.map V.str))
 asc:fs.Pairwise Kr
 ok:∀f∈fs,FieldOk f
 len:fs.length≤12
 nb:a≠b
 ng:a≠g
def Ww:Sp:=λvs H Q _=>∃(b g l a t:Addr)(n lo sz wide:Int)(fs:List Str),vs=[.ref b,.ref a,.ref t,.int wide]∧Well H b g l n∧n≤10^7∧NmAt H b g a fs∧H t=some (.tup [.int lo,.int sz])∧1≤sz∧sz≤10^10∧1≤wide∧wide≤100∧
 ∀(r:Addr)(p:List PP)(H':Hp),PieceAt H' r p→POk p→Well H' b g l (n+60)→SameB b g H H'→Q (.ref r) H'
def Wu:Sp:=λvs H Q _=>∃(b g l a:Addr)(n:Int)(fs:List Str),vs=[.ref b,.ref a]∧Well H b g l n∧n≤10^7∧NmAt H b g a fs∧fs.length≤6∧
 ∀(r:Addr)(fs':List Str)(H':Hp),H r=none→NmAt H' b g r fs'→Well H' b g l (n+60)→SameB b g H H'→Q (.ref r) H'
def Wc:Sp:=λvs H Q _=>∃(b g l c:Addr)(n:Int)(p:List PP),vs=[.ref b,.ref c]∧Well H b g l n∧n≤10^7∧PieceAt H c p∧POk p∧
 ∀(r:Addr)(p':List PP)(H':Hp),PieceAt H' r p'→POk p'→Well H' b g l (n+10)→SameB b g H H'→Q (.ref r) H'
theorem StAt.sameW{H':Hp}{g m:Addr}{n:Int}{W:List Int}{x:Stand}(h:StAt H W x)(B:Well H b g m n)(f:x.l≠b∧x.l≠g)(s:SameB b g H H'):StAt H' W x:=⟨B.tup s h.at',h.ws.sameW B f.1 f.2 s,h.nd,h.few,h.name,h.post⟩
theorem StsAt.sameW{H':Hp}{g m:Addr}{n:Int}{W:List Int}{l:Addr}{xs:List Stand}(h:StsAt H W l xs)(B:Well H b g m n)(lb:l≠b)(lg:l≠g)(f:∀x∈xs,x.l≠b∧x.l≠g)(s:SameB b g H H'):StsAt H' W l xs:=⟨s _ _ h.at' lb lg,λx hx=>(h.ok x hx).sameW B (f x hx) s,h.nd,h.len⟩
theorem NmAt.sameB{H':Hp}{g:Addr}{fs:List Str}(h:NmAt H b g a fs)(s:SameB b g H H'):NmAt H' b g a fs:=⟨s _ _ h.at' h.nb h.ng,h.asc,h.ok,h.len,h.nb,h.ng⟩
def hw(x:Stand):Str×List (Addr×List WP):=(x.hand,x.ws)
theorem Zg{K:Ae}{H1 H':Hp}{g:Addr}(h:SqL K H a xs)(nb:H b=none)(ng:H g=none)(s1:Same H H1)(s:SameB b g H1 H'):SqL K H' a xs:=by
 have ne:∀o,H a=some o→a≠b∧a≠g:=λo e=>⟨λz=>(by rw[z,nb] at e;cases e),λz=>(by rw[z,ng] at e;cases e)⟩;rcases h with(h | ⟨o,h⟩) | h
 · exact .inl (.inl (s _ _ (s1 _ _ h) (ne _ h).1 (ne _ h).2))
 · exact .inl (.inr ⟨o,s _ _ (s1 _ _ h) (ne _ h).1 (ne _ h).2⟩)
 · exact .inr h
theorem VZ:∀ts:List Int,RepYs H (ts.map DY.int) (ts.map V.int)
 | []=>RepYs.nil
 | t::ts=>RepYs.cons (by rw[RepY]) (VZ ts)
def Kl(c:Str×Int×List (Addr×List WP)):DY:= .tup [.str c.1,.int c.2.1,.lst ((c.2.2.map (·.2)).map Lh)]
theorem Y0{W:List Int}{x:Stand}(h:StAt H W x):RepY H (Kl (JH x)) (.ref x.a):=by refine MA h.at' (RepYs.cons ?_ (RepYs.cons (by rw[RepY];rfl) (RepYs.cons h.ws.repY RepYs.nil))) (by simp);rw[RepY];exact⟨rfl,AM h.name.eight (by decide)⟩
theorem Vt{W:List Int}:∀xs:List Stand,(∀x∈xs,StAt H W x)→RepYs H ((xs.map JH).map Kl) (xs.map λx=>V.ref x.a)
 | [],_=>RepYs.nil
 | x::xs,h=>RepYs.cons (Y0 (h x Ai)) (Vt xs λy hy=>h y (Aj _ hy))
def KU(W:List Int)(cs:List (Str×Int×List (Addr×List WP))):DY:= .tup [.lst (W.map DY.int),.lst (cs.map Kl)]
theorem U5{t l:Addr}{W:List Int}{xs:List Stand}(ht:H t=some (.tup [.ref a,.ref l]))(ha:WebAt H a W)(hl:StsAt H W l xs):RepY H (KU W (xs.map JH)) (.ref t):=by
 refine MA ht (RepYs.cons (O5 ha.1 (VZ W) ?_) (RepYs.cons (O5 hl.at' (Vt xs hl.ok) ?_) RepYs.nil)) (by simp)
 · have:=ha.2.1;rw[Ab];omega
 · have:=hl.len;rw[Ab];omega
theorem Z0(c:Str×Int×List (Addr×List WP)):J6 (Kl c)≤4:=by
 unfold Kl;rw[J6];have:=zi5 (c.2.2.map (·.2));have:Ki [.str c.1,.int c.2.1,.lst ((c.2.2.map (·.2)).map Lh)]≤3:=LC λd hd=>by
  simp only[Ar,A6,or_false] at hd;rcases hd with rfl | rfl | rfl
  · rw[J6]<;>first | omega | simp
  · rw[J6]<;>first | omega | simp
  · exact this
 omega
theorem Zy(W:List Int)(cs:List (Str×Int×List (Addr×List WP))):J6 (KU W cs)≤6:=by
 unfold KU;rw[J6];have h1:Ki (W.map DY.int)≤1:=LC λd hd=>by obtain⟨t,_,rfl⟩:=Ax.mp hd;rw[J6]<;>first | omega | simp
 have h2:Ki (cs.map Kl)≤4:=LC λd hd=>by obtain⟨t,_,rfl⟩:=Ax.mp hd;exact Z0 t
 have:Ki [.lst (W.map DY.int),.lst (cs.map Kl)]≤5:=LC λd hd=>by
  simp only[Ar,A6,or_false] at hd;rcases hd with rfl | rfl
  · rw[J6];omega
  · rw[J6];omega
 omega
def KG(f:Int→Bool)(xs:List Stand):List (Addr×List WP):=(xs.filter λx=>f x.post).flatMap (·.ws)
theorem ziy{f:Int→Bool}{xs:List Stand}{x:Stand}(e:xs[i]?=some x):KG f (xs.take (i+1))=KG f (xs.take i)++(if f x.post=true then x.ws else []):=by
 unfold KG;rw[CM,e,BR,Ha];congr 1;show(([x]:List Stand).filter _).flatMap _=_;by_cases h:f x.post=true
 · rw[if_pos h,List.filter_cons_of_pos (by exact h)];simp
 · rw[if_neg h,List.filter_cons_of_neg (by exact h)];rfl
theorem V6:∀xs:List Stand,(∀x∈xs,x.ws.length≤10)→(xs.flatMap (·.ws)).length≤10*xs.length
 | [],_=>by simp
 | x::xs,h=>by rw[List.flatMap_cons,A5,AA];have h1:=h x Ai;have h2:=V6 xs λq hq=>h q (Aj _ hq);omega
theorem VD{f:Int→Bool}{xs:List Stand}(h:∀x∈xs,x.ws.length≤10):(KG f xs).length≤10*xs.length:=by unfold KG;have h1:=V6 (xs.filter λx=>f x.post) λx hx=>h x (BJ.mp hx).1;have h2:=BC (λx:Stand=>f x.post) xs;omega
theorem zjc{f:Int→Bool}{xs:List Stand}{y:Addr×List WP}(h:y∈KG f xs):∃x∈xs,y∈x.ws:=by unfold KG at h;obtain⟨x,hx,hy⟩:=DS.mp h;exact⟨x,(BJ.mp hx).1,hy⟩
theorem WsAt.wants{W:List Int}{l r:Addr}{xs:List Stand}{f:Int→Bool}(h:StsAt H W l xs)(e:H r=some (.lst ((KG f xs).map λx=>V.ref x.1))):WsAt H r (KG f xs):=
 ⟨e,λy hy=>by
  obtain⟨x,hx,hy'⟩:=zjc hy;exact(h.ok x hx).ws.ok y hy',by
  have:=VD (f:=f) λx hx=>(h.ok x hx).few;have:=h.len;omega⟩
def VG:Sp:=λvs H Q _=>∃(a:Addr)(W:List Int)(p q:Int),vs=[.ref a,.int p,.int q]∧WebAt H a W∧WB.Post W p∧WB.Post W q∧q∈WB.roads W p∧
 ∀(r:Addr)(F:List Int)(H':Hp),Same H H'→H r=none→H' r=some (.lst (F.map V.int))→(∀x,x∈F↔x∈WB.sideL W p q)→F.length≤24→Q (.ref r) H'
def VM:Sp:=λvs H Q _=>∃(l c:Addr)(W:List Int)(xs:List Stand)(F:List Int),vs=[.ref l,.ref c]∧StsAt H W l xs∧H c=some (.lst (F.map V.int))∧
 ∀(r:Addr)(H':Hp),Same H H'→H r=none→WsAt H' r (KG (WB.has F) xs)→Q (.ref r) H'
structure Bfs(W:List Int)(p q:Int)(fs:List Int):Prop where
 nd:fs.Nodup
 inS:∀x∈fs,x∈WB.sideL W p q
 has:q∈fs
theorem Bfs.len{W:List Int}(w:WB.Web W){p q:Int}{fs:List Int}(h:Bfs W p q fs):fs.length≤24:=by
 have:=WB.nodup_len (W.length+1) fs h.nd λx hx=>by obtain⟨⟨h1,h2⟩,_⟩:=WB.side_mem.mp (h.inS x hx);exact⟨h1,by omega⟩
 have:=w.1;omega
theorem Bfs.put{W:List Int}{p q y:Int}{fs:List Int}(h:Bfs W p q fs)(hn:y ∉ fs)(hy:y∈WB.sideL W p q):Bfs W p q (fs++[y]):=
 ⟨by
  rw[Bf];refine⟨h.nd,by simp,λa ha b hb e=>?_⟩;rw[Ak.mp hb] at e;exact hn (e ▸ ha),λx hx=>by
  rcases As.mp hx with z | z
  · exact h.inS x z
  · rw[Ak.mp z];exact hy,AO _ h.has⟩
theorem Bfs.done{W:List Int}(w:WB.Web W){p q:Int}(hp:WB.Post W p)(hq:WB.Post W q)(ha:WB.Adj W p q){fs:List Int}(h:Bfs W p q fs)(hc:∀x∈fs,∀y∈WB.roads W x,y=p∨y∈fs):∀x,x∈fs↔x∈WB.sideL W p q:=
 λx=>⟨h.inS x,WB.side_all w hp hq ha h.has hc x⟩
namespace RC
open WB
section
variable{W:List Int}
theorem YT{a:List Int}:∀{x:Int}{b:List Int}{p q:Int},Path W (a++x::b) p q→Path W (x::b) x q:=by
 induction a with
 | nil=>intro x b p q h;have:=h.first;simp at this;subst this;exact h
 | cons y a ih=>
  intro x b p q h;have e:y=p:=by have:=h.first;simpa using this
  subst e;cases a with
  | nil=>exact h.tail
  | cons z a=>exact ih (p:=z) h.tail
def steps(l:List Int):List (Int×Int):=l.zip l.tail
theorem zjn{l:List Int}{x y:Int}:(x,y)∈steps l↔∃a b,l=a++x::y::b:=by
 unfold steps
 induction l with
 | nil=>simp
 | cons z l ih=>
  cases l with
  | nil=> simp only[List.tail_cons,List.zip_nil_right,A6,false_iff];rintro⟨a,b,e⟩;have:=congrArg CP e;simp at this;omega
  | cons u l=>
   simp only[List.tail_cons,List.zip_cons_cons,Ar] at ih ⊢;rw[ih];constructor
   · rintro(h | ⟨a,b,e⟩)
     · cases h;exact⟨[],l,rfl⟩
     · exact⟨z::a,b,by rw[e];rfl⟩
   · rintro⟨a,b,e⟩;cases a with
     | nil=>simp at e;exact .inl (by rw[e.1,e.2.1])
     | cons c a=>simp at e;exact .inr ⟨a,b,e.2⟩
def Awy(W:List Int)(post x y:Int):Prop:=Post W x∧Post W y∧Adj W x y∧post ∉ sideL W x y
theorem cross(w:Web W){post c x y:Int}(hp:Post W post)(hc:Post W c):(x,y)∈steps (wayB W post c)↔Awy W post x y∧c∈sideL W x y:=by
 rw[zjn];constructor
 · rintro⟨a,b,e⟩;have P:=LA w hp hc;rw[e] at P;have hx:Post W x:=P.posts x (by simp);have hy:Post W y:=P.posts y (by simp);have S:=YT P;have ha:Adj W x y:=S.adj.1;have ex:=Lc w (P.pre (a:=a) (x:=x) (b:=y::b) rfl);have es:=Lc w S;have nd:=S.nd;refine⟨⟨hx,hy,ha,λh=>?_⟩,?_⟩
   · have:=(side_mem.mp h).2;rw[←ex] at this;have nd':=P.nd;rw[Bf] at nd';rcases As.mp this with h1 | h1
     · exact nd'.2.2 y h1 y (by simp) rfl
     · rw[Ak] at h1;subst h1;simp at nd
   · refine side_mem.mpr ⟨hc,(M8 w hx hc hy ha).mpr ⟨λz=>?_,by rw[←es];rfl⟩⟩;subst z;rw[UY w hx] at es;simp at es
 · rintro⟨⟨hx,hy,ha,hn⟩,hs⟩;obtain⟨hne,ht⟩:=(M8 w hx hc hy ha).mp (side_mem.mp hs).2;have hnot:y ∉ wayB W post x:=λh=>hn (side_mem.mpr ⟨hp,h⟩);obtain⟨t,et⟩:∃t,wayB W x c=x::y::t:=by
    rcases e:wayB W x c with _ | ⟨u,_ | ⟨v,t⟩⟩
    · rw[e] at ht;simp at ht
    · rw[e] at ht;simp at ht
    · rw[e] at ht;simp at ht;exact⟨t,by rw[ht.1,ht.2]⟩
   have P1:=LA w hp hx;have P2:=LA w hx hc;obtain⟨a,ea⟩:∃a,wayB W post x=a++[x]:=by have:=P1.last;rw[List.getLast?_eq_some_iff] at this;exact this
   have Lx:∀z∈wayB W post x,z ∉ y::t:=by
    intro z hz1 hz2;have hzx:Post W z:=P1.posts z hz1;obtain⟨b1,b2,eb⟩:=Er hz2;have Q1:=Lc w (P2.pre (a:=x::b1) (x:=z) (b:=b2) (by rw[et,eb];rfl));have y1:y∈wayB W x z:=by
     rw[←Q1];cases b1 with
     | nil=>simp at eb;simp[eb.1]
     | cons c' b1=>simp at eb;simp[eb.1]
    obtain⟨d1,d2,ed⟩:=Er hz1;have R:=LA w hx hp;have er:=Qk w hp hx;rw[ed] at er;have Q2:=Lc w (R.pre (a:=d2.reverse) (x:=z) (b:=d1.reverse) (by rw[er];simp));rw[←Q2] at y1;refine hnot ?_;rw[ed];simp at y1 ⊢;rcases y1 with h | h
    · exact .inr (.inr h)
    · exact .inr (.inl h)
   have P:Path W (a++x::y::t) post c:=by
    refine⟨?_,?_,?_,?_,?_⟩
    · have:=P1.first
      rw[ea] at this;cases a with
      | nil=>simpa using this
      | cons u a=>simpa using this
    · have:=P2.last;rw[et] at this;rw[List.getLast?_append,this];rfl
    · have n1:=P1.nd;have n2:=P2.nd;rw[ea] at n1;rw[et] at n2;rw[Bf] at n1 ⊢;refine⟨n1.1,n2,λu hu v hv=>?_⟩;rintro rfl;rw[Ar] at hv;rcases hv with h | h
      · exact n1.2.2 u hu x (by simp) h
      · exact Lx u (by rw[ea];simp[hu]) h
    · intro u hu;rcases As.mp hu with h | h
      · exact P1.posts u (by rw[ea];simp[h])
      · exact P2.posts u (by rw[et];exact h)
    · have j1:=P1.adj;have j2:=P2.adj;rw[ea] at j1;rw[et] at j2;exact Adjs.join a j1 j2
   exact⟨a,t,(Lc w P).symm⟩
end
end RC
namespace RC
open WB
section
variable{W:List Int}
def src(W:List Int)(post x:Int):Int:=if x=post then post else(wayB W x post).getD 1 0
theorem US(post:Int):src W post post=post:=if_pos rfl
theorem Nx(w:Web W){post x:Int}(hp:Post W post)(hx:Post W x)(n:x≠post):Post W (src W post x)∧Adj W x (src W post x)∧(wayB W x post).take 2=[x,src W post x]:=by
 obtain⟨t,e⟩:=Nc w hx hp;have h:=LA w hx hp;unfold src;rw[if_neg n];cases t with
 | nil=> rw[e] at h;have:=h.last;simp at this;exact absurd this n
 | cons y t=>
  have ey:(wayB W x post).getD 1 0=y:=by rw[e];rfl
  rw[ey];refine⟨h.posts y (by rw[e];simp),?_,by rw[e];rfl⟩;have:=h.adj;rw[e] at this;exact this.1
theorem Um(w:Web W){post x y:Int}(hp:Post W post)(hx:Post W x):Awy W post x y↔y∈roads W x∧y≠src W post x:=by
 constructor
 · rintro⟨_,hy,ha,hn⟩;refine⟨adj_roads w hx hy ha,λe=>?_⟩;by_cases c:x=post
   · subst c;rw[US] at e;exact Ox w hx hy ha e
   · refine hn (side_mem.mpr ⟨hp,(M8 w hx hp hy ha).mpr ⟨c,?_⟩⟩);rw[(Nx w hp hx c).2.2,e]
 · rintro⟨hm,hn⟩;obtain⟨hy,ha⟩:=roads_adj w hx hm;refine⟨hx,hy,ha,λhs=>?_⟩;obtain⟨c,ht⟩:=(M8 w hx hp hy ha).mp (side_mem.mp hs).2;rw[(Nx w hp hx c).2.2] at ht;simp at ht;exact hn ht.symm
theorem awy_src(w:Web W){post x y:Int}(hp:Post W post)(h:Awy W post x y):y≠post∧src W post y=x:=by
 obtain⟨hx,hy,ha,hn⟩:=h;have hs:=VU w hx hy ha;have n1:y≠post:=λe=>hn (by rw[←e];exact side_self w hx hy ha);have hm:post∈sideL W y x:=by
  have:post∈sideL W x y++sideL W y x:=hs.mem_iff.mpr (by simp only[Ax,Be];exact⟨post.toNat,by obtain⟨a,b⟩:=hp;omega,by obtain⟨a,b⟩:=hp;omega⟩);rcases As.mp this with h | h
  · exact absurd h hn
  · exact h
 obtain⟨c,ht⟩:=(M8 w hy hp hx ha.symm).mp (side_mem.mp hm).2;rw[(Nx w hp hy c).2.2] at ht;simp at ht;exact⟨n1,ht⟩
theorem YA(w:Web W){post y:Int}(hp:Post W post)(hy:Post W y)(n:y≠post):Awy W post (src W post y) y:=by obtain⟨h1,h2,h3⟩:=Nx w hp hy n;refine⟨h1,hy,h2.symm,λhs=>?_⟩;have h4:post∈sideL W y (src W post y):=side_mem.mpr ⟨hp,(M8 w hy hp h1 h2).mpr ⟨n,h3⟩⟩;have nd:(sideL W (src W post y) y++sideL W y (src W post y)).Nodup:=(VU w h1 hy h2.symm).nodup_iff.mpr (rise_nodup (R0 _));rw[Bf] at nd;exact nd.2.2 post hs post h4 rfl
def KR(W:List Int)(post p:Int):List (Int×Int):=((roads W p).filter λq=>decide (q≠src W post p)).map λq=>(p,q)
theorem NC(w:Web W){post p:Int}(hp:Post W post)(h:Post W p){x y:Int}:(x,y)∈KR W post p↔x=p∧Awy W post p y:=by
 unfold KR;rw[Um w hp h];simp only[Ax,BJ,decide_eq_true_eq,Prod.mk.injEq];constructor
 · rintro⟨q,h1,h2,h3⟩;exact⟨h2.symm,h3 ▸ h1⟩
 · rintro⟨h1,h2⟩;exact⟨y,h2,h1.symm,rfl⟩
structure Wk(W:List Int)(post:Int)(D:List Int)(S F:List (Int×Int)):Prop where
 posts:∀x∈D++S.map (·.1),Post W x
 nd:(D++S.map (·.1)).Nodup
 from_:∀e∈S,e.2=src W post e.1
 up:∀x∈D++S.map (·.1),x=post∨src W post x∈D
 found:F=D.flatMap (KR W post)
 start:post∈D++S.map (·.1)
 down:∀x∈D,∀y,Awy W post x y→y∈D++S.map (·.1)
theorem wk_start{post:Int}(hp:Post W post):Wk W post [] [(post,post)] []:=by
 refine⟨?_,by simp,?_,?_,rfl,by simp,λx h=>by simp at h⟩
 · intro x h;simp at h;subst h;exact hp
 · intro e h;simp at h;subst h;exact(US _).symm
 · intro x h;simp at h;exact .inl h
theorem wk_step(w:Web W){post p s:Int}{D:List Int}{S F:List (Int×Int)}(hp:Post W post)(k:Wk W post D (S++[(p,s)]) F):
 Wk W post (D++[p]) (S++((roads W p).filter λq=>decide (q≠s)).map λq=>(q,p)) (F++((roads W p).filter λq=>decide (q≠s)).map λq=>(p,q)):=by
 have es:s=src W post p:=k.from_ (p,s) (by simp);have hpp:Post W p:=k.posts p (by simp);have nd:=k.nd;have em:(((roads W p).filter λq=>decide (q≠s)).map λq=>(q,p)).map (·.1)=(roads W p).filter λq=>decide (q≠s):=by rw[BY];exact List.map_id _
 have kid:∀q,q∈(roads W p).filter (λq=>decide (q≠s))↔Awy W post p q:=λq=>by rw[Um w hp hpp,BJ,es];simp
 have old:∀x,x∈(D++[p])++S.map (·.1)↔x∈D++(S++[(p,s)]).map (·.1):=λx=>by
  simp only[As,Aq,AC,DC,Ak];constructor
  · rintro((h | h) | h)
    · exact .inl h
    · exact .inr (.inr h)
    · exact .inr (.inl h)
  · rintro(h | h | h)
    · exact .inl (.inl h)
    · exact .inr h
    · exact .inl (.inr h)
 have all:∀x,x∈(D++[p])++(S++((roads W p).filter λq=>decide (q≠s)).map λq=>(q,p)).map (·.1)↔x∈D++(S++[(p,s)]).map (·.1)∨Awy W post p x:=λx=>by rw[Aq,em,←BE,As,kid,old]
 have pD:p ∉ D:=λh=>by rw[Bf] at nd;exact nd.2.2 p h p (by simp) rfl
 have new:∀q,Awy W post p q→q ∉ D++(S++[(p,s)]).map (·.1):=λq hq hm=>by
  obtain⟨a,b⟩:=awy_src w hp hq;rcases k.up q hm with h | h
  · exact a h
  · rw[b] at h;exact pD h
 refine⟨λx hx=>?_,?_,λe he=>?_,λx hx=>?_,?_,(all _).mpr (.inl k.start),λx hx y hy=>?_⟩
 · rcases(all x).mp hx with h | h
   · exact k.posts x h
   · exact h.2.1
 · rw[Aq,em,←BE,Bf];refine⟨?_,?_,λa ha b hb=>?_⟩
   · have pm:((D++[p])++S.map (·.1)).Perm (D++(S++[(p,s)]).map (·.1)):=by
      rw[Aq,BE];exact GE _ DH
     exact pm.nodup_iff.mpr nd
   · exact(rise_nodup (roads_rise w hpp)).sublist Hb
   · rintro rfl;exact new a ((kid a).mp hb) ((old a).mp ha)
 · rcases As.mp he with h | h
   · exact k.from_ e (by simp[h])
   · obtain⟨q,hq,rfl⟩:=Ax.mp h;exact(awy_src w hp ((kid q).mp hq)).2.symm
 · rcases(all x).mp hx with h | h
   · rcases k.up x h with g | g
     · exact .inl g
     · exact .inr (by simp[g])
   · exact .inr (by rw[(awy_src w hp h).2];simp)
 · rw[k.found,Ha,es];simp[KR]
 · rw[all];rcases As.mp hx with h | h
   · exact .inl (k.down x h y hy)
   · rw[Ak] at h;subst h;exact .inr hy
theorem wk_few{post:Int}{D:List Int}{S F:List (Int×Int)}(w:Web W)(k:Wk W post D S F):D.length+S.length≤24:=by
 have:=nodup_len (W.length+1) _ k.nd λx hx=>by obtain⟨a,b⟩:=k.posts x hx;omega
 have:=w.1;simp at*;omega
theorem wk_found(w:Web W){post:Int}{D:List Int}{S F:List (Int×Int)}(hp:Post W post)(k:Wk W post D S F):(∀x y,(x,y)∈F→Awy W post x y)∧F.Nodup∧F.length≤24:=by
 have hD:∀x∈D,Post W x:=λx hx=>k.posts x (by simp[hx]);have ndD:D.Nodup:=(List.nodup_append.mp k.nd).1;have mem:∀x y,(x,y)∈F→Awy W post x y:=by intro x y h;rw[k.found,DS] at h;obtain⟨p,hpD,h⟩:=h;obtain⟨rfl,h⟩:=(NC w hp (hD p hpD)).mp h;exact h
 have nd2:(F.map (·.2)).Nodup:=by
  rw[k.found];clear mem k;have key:∀L:List Int,L.Nodup→(∀x∈L,Post W x)→((L.flatMap (KR W post)).map (·.2)).Nodup:=by
   intro L
   induction L with
   | nil=>intro _ _;simp
   | cons p L ih=>
    intro n q;rw[Cg] at n;have hq:Post W p:=q p (by simp);rw[List.flatMap_cons,Aq,Bf];refine⟨?_,ih n.2 λx hx=>q x (by simp[hx]),λa ha b hb=>?_⟩
    · unfold KR;rw[BY];have:((λe:Int×Int=>e.2)∘λq=>(p,q))=id:=rfl;rw[this,List.map_id];exact(rise_nodup (roads_rise w hq)).sublist Hb
    · rintro rfl;obtain⟨⟨x1,y1⟩,h1,e1⟩:=Ax.mp ha;obtain⟨⟨x2,y2⟩,h2,e2⟩:=Ax.mp hb;dsimp only at e1 e2;subst e1;subst e2;obtain⟨u,hu,h2⟩:=DS.mp h2;obtain⟨_,g1⟩:=(NC w hp hq).mp h1;obtain⟨_,g2⟩:=(NC w hp (q u (by simp[hu]))).mp h2;have:=(awy_src w hp g1).2;rw[(awy_src w hp g2).2] at this;subst this;exact n.1 hu
  exact key D ndD hD
 refine⟨mem,?_,?_⟩
 · exact(List.pairwise_map.mp nd2).imp λh e=>h (by rw[e])
 · have:=nodup_len (W.length+1) _ nd2 λy hy=>by
    obtain⟨⟨x,y'⟩,h1,rfl⟩:=Ax.mp hy;obtain⟨a,b⟩:=(mem x y' h1).2.1;dsimp only;omega
   have:=w.1;simp at*;omega
theorem wk_end(w:Web W){post:Int}{D:List Int}{F:List (Int×Int)}(hp:Post W post)(k:Wk W post D [] F):(∀x y,(x,y)∈F↔Awy W post x y)∧F.Nodup∧F.length≤24:=by
 have hD:∀x∈D,Post W x:=λx hx=>k.posts x (by simp[hx]);have ndD:D.Nodup:=by have:=k.nd;simpa using this
 have all:∀x,Post W x→x∈D:=by
  have:∀(n:Nat)x,Post W x→(wayB W x post).length≤n→x∈D:=by
   intro n
   induction n with
   | zero=> intro x hx hl;obtain⟨t,e⟩:=Nc w hx hp;rw[e] at hl;simp at hl
   | succ n ih=>
    intro x hx hl;by_cases c:x=post
    · subst c;have:=k.start;simpa using this
    · obtain⟨h1,h2,h3⟩:=Nx w hp hx c;have P:=LA w hx hp;obtain⟨t,et⟩:∃t,wayB W x post=x::src W post x::t:=by
       rcases e:wayB W x post with _ | ⟨u,_ | ⟨v,t⟩⟩
       · rw[e] at h3;simp at h3
       · rw[e] at h3;simp at h3
       · rw[e] at h3;simp at h3;exact⟨t,by rw[h3.1,h3.2]⟩
      rw[et] at P;have e2:=Lc w P.tail;have:src W post x∈D:=ih _ h1 (by rw[←e2];rw[et] at hl;simp at hl ⊢;omega);have:=k.down _ this x (YA w hp hx c);simpa using this
  exact λx hx=>this _ x hx (Af _)
 have mem:∀x y,(x,y)∈F↔Awy W post x y:=by
  intro x y;rw[k.found,DS];constructor
  · rintro⟨p,hpD,h⟩;obtain⟨rfl,h⟩:=(NC w hp (hD p hpD)).mp h;exact h
  · intro h;exact⟨x,all x h.1,(NC w hp h.1).mpr ⟨rfl,h⟩⟩
 exact⟨mem,(wk_found w hp k).2⟩
end
end RC
namespace ST
open PySem.SetTable
def pos(t:A0)(h:Int)(k:Nat):Nat:=(Jj t k (t.probeStart h)).j
theorem zgX{t t':A0}(e:t.mask=t'.mask)(p:Probe):t.advance p=t'.advance p:=by unfold De;rw[e]
theorem UA{t t':A0}(e:t.mask=t'.mask):∀(k:Nat)(p:Probe),Jj t k p=Jj t' k p
 | 0,p=>rfl
 | k+1,p=>by show Jj t k (t.advance p)=Jj t' k (t'.advance p);rw[zgX e,UA e]
theorem UP{t t':A0}(e:t.mask=t'.mask)(h:Int)(k:Nat):pos t h k=pos t' h k:=by unfold pos;rw[UA e];unfold SetTable.probeStart;rw[e]
def Rch(t:A0)(occ:Nat→Prop)(h:Int)(j:Nat):Prop:=∃N,pos t h N=j∧∀k,k<N→occ (pos t h k)
theorem Rch.mono{t t':A0}{occ occ':Nat→Prop}{h:Int}{j:Nat}(e:t.mask=t'.mask)(x:Rch t occ h j)(m:∀q,occ q→occ' q):Rch t' occ' h j:=by obtain⟨N,h1,h2⟩:=x;exact⟨N,by rw[←UP e];exact h1,λk hk=>m _ (by rw[←UP e];exact h2 k hk)⟩
structure RTab(t:A0)(es:Array (Int×Value)):Prop where
 tab:Tab t es.size
 rch:∀(i:Nat)(e:Int×Value)(j:Nat),es[i]?=some e→t.place[i]?=some j→Rch t (λq=>q∈t.place.toList) e.1 j
theorem WA{t:A0}(T:Tab t n){hs:Int}{N:Nat}(hN:t.slot (Jj t N (t.probeStart hs)).j= .empty)(hb:∀k,k<N→t.slot (Jj t k (t.probeStart hs)).j≠ .empty)(hashAt:Nat→Int):∀(d k fuel:Nat),N - k=d→k≤N→d<fuel→
 (probe.go t hashAt hs fuel (Jj t k (t.probeStart hs))=some (.empty (Jj t N (t.probeStart hs)).j none)∧∀m i,k≤m→m<N→t.slot (Jj t m (t.probeStart hs)).j= .live i→hashAt i≠hs)∨
 ∃m i,k≤m∧m<N∧t.slot (Jj t m (t.probeStart hs)).j= .live i∧probe.go t hashAt hs fuel (Jj t k (t.probeStart hs))=some (.candidate (Jj t m (t.probeStart hs)).j i (Jj t (m+1) (t.probeStart hs)))∧∀m' i',k≤m'→m'<m→t.slot (Jj t m' (t.probeStart hs)).j= .live i'→hashAt i'≠hs
 | d,k,0,_,_,h=>by omega
 | d,k,fuel+1,hd,hk,hf=>by
  unfold probe.go;by_cases e:k=N
  · subst e
    left
    rw[hN];dsimp only;rw[QW];exact⟨rfl,λm i h1 h2=>by omega⟩
  · have hk':k<N:=by omega
    cases hsl:t.slot (Jj t k (t.probeStart hs)).j with
    | empty=>exact absurd hsl (hb k hk')
    | dummy=>exact absurd hsl T.no_dummy
    | live i=>
     dsimp only;by_cases q:(hashAt i==hs)=true
     · right
       rw[if_pos q];exact⟨k,i,Af _,hk',hsl,by rw[M6],λm' i' h1 h2=>by omega⟩
     · have qn:hashAt i≠hs:=λz=>q (by rw[z];exact beq_self_eq_true _);have at':∀m i',k≤m→t.slot (Jj t m (t.probeStart hs)).j= .live i'→(m=k→hashAt i'≠hs):=λm i' _ h3 e=>by
        subst e;rw[hsl] at h3;cases h3;exact qn
       rw[if_neg q,←M6];rcases WA T hN hb hashAt (d - 1) (k+1) fuel (by omega) (by omega) (by omega) with⟨z,z2⟩ | ⟨m,i',h1,h2,h3,h4,h5⟩
       · exact .inl ⟨z,λm i' a1 a2 a3=>if c:m=k then at' m i' a1 a3 c else z2 m i' (by omega) a2 a3⟩
       · exact .inr ⟨m,i',by omega,h2,h3,h4,λm' i'' a1 a2 a3=>if c:m'=k then at' m' i'' a1 a3 c else h5 m' i'' (by omega) a2 a3⟩
theorem Y7{o:Obj}{es:Array (Int×Value)}{ep:Nat}{t:A0}{x:Value}{hs:Int}{Q:SetFound→Shared→Prop}(ho:s.heap.get? a=some o)(hd:o.data= .set es ep t)(RT:RTab t es)
 (refs:∀e∈es.toList,∃b,e.2= .ref b) (b:Int×Value→Bool) (heq:∀e∈es.toList,∀R:Bool→Shared→Prop,R (b e) s→wpAny (model prog w) A (eqBool e.2 x) R E s)
 (hbh:∀e∈es.toList,b e=true→e.1=hs)
 (hseen:∀ys:List Value,(∀y∈ys,∃e∈es.toList,e.2=y)→∀R:Bool→Shared→Prop,R false s→wpAny (model prog w) A (searchCouldBeSeen x ys) R E s)
 (h1:(∃e∈es.toList,b e=true)→Q (.there none) s)
 (h0:(∀e∈es.toList,b e=false)→∀j,j≤t.mask→j ∉ t.place.toList→Rch t (λq=>q∈t.place.toList) hs j→Q (.free j false) s):wpAny (model prog w) A (setSearch a x hs true) Q E s:=by
 have T:=RT.tab;obtain⟨N,hl,hN,hb⟩:=T.ends hs;have jl:(Jj t N (t.probeStart hs)).j≤t.mask:=by have:=Qd t N _ (UT t hs);omega
 have occ:∀k,k<N→pos t hs k∈t.place.toList:=λk hk=>Ef λz=>hb k hk (T.slot_of.mpr z);have fin:(∀m i e,m<N→t.slot (Jj t m (t.probeStart hs)).j= .live i→es[i]?=some e→b e=false)→Q (.free (Jj t N (t.probeStart hs)).j false) s:=λno=>by
  refine h0 (λe he=>?_) _ jl (T.slot_of.mp hN) ⟨N,rfl,occ⟩;cases c:b e with
  | false=>rfl
  | true=>
   obtain⟨i,hi⟩:=DI.mp he;rw[A7] at hi;have hil:i<es.size:=(Bj.mp hi).1;have hpl:i<t.place.size:=by rw[T.size];exact hil
   have hj:t.place[i]?=some t.place[i]:=by simp
   obtain⟨M,m1,m2⟩:=RT.rch i e _ hi hj;rw[hbh e he c] at m1 m2;have hM:M<N:=by
    rcases E4 M N with z | z | z
    · exact z
    · subst z;exact absurd (show pos t hs M∈t.place.toList by rw[m1];exact F_ _) (T.slot_of.mp hN)
    · exact absurd (m2 N z) (T.slot_of.mp hN)
   have sl:t.slot (Jj t M (t.probeStart hs)).j= .live i:=by
    have hm:pos t hs M∈t.place.toList:=by rw[m1];exact F_ _
    cases q:t.slot (pos t hs M) with
    | empty=>exact absurd hm (T.slot_of.mp q)
    | dummy=>exact absurd q T.no_dummy
    | live i'=>
     have:=(T.slot_live q).1;rw[m1] at this;show t.slot (pos t hs M)=_;rw[q];congr 1;rcases E4 i' i with y | y | y
     · have:=MW T.ris y this hj;omega
     · exact y
     · have:=MW T.ris y hj this;omega
   rw[no M i e hM sl hi] at c;cases c
 have tl:10*turns t.mask≤1420:=by unfold turns;rcases T.mask with e | e | e<;>rw[e]<;>decide
 have main:∀(d k fuel:Nat)(st:Option Probe),N - k=d→k≤N→d<fuel→st.getD (t.probeStart hs)=Jj t k (t.probeStart hs)→(∀m i e,m<k→t.slot (Jj t m (t.probeStart hs)).j= .live i→es[i]?=some e→b e=false)→wpAny (model prog w) A (setSearchFrom a x hs true fuel st) Q E s:=by
  intro d
  induction d using Nat.strongRecOn with
  | _ d ih=>
   intro k fuel st hk1 hk2 hf hst no;cases fuel with
   | zero=>omega
   | succ fuel=>
    unfold setSearchFrom;refine Aa (AN ho hd T.fits ?_);dsimp only;rw[T.stays,hst];simp only[Ay,if_false];generalize hp:SetTable.probe t _ hs (Jj t k (t.probeStart hs))=pr;have hf':t.probe (λi=>(es[i]?.map (·.1)).getD 0) hs (Jj t k (t.probeStart hs))=pr:=hp;have off:∀m i e,t.slot (Jj t m (t.probeStart hs)).j= .live i→es[i]?=some e→((λi=>(es[i]?.map (·.1)).getD 0) i≠hs)→b e=false:=λm i e h1 h2 h3=>by
     cases c:b e with
     | false=>rfl
     | true=> have:=hbh e (by rw[Array.mem_toList_iff];exact GH h2) c;dsimp only at h3;rw[h2] at h3;exact absurd this h3
    rcases WA T hN hb (λi=>(es[i]?.map (·.1)).getD 0) _ k _ rfl hk2 (show N - k<10*turns t.mask by omega) with⟨z,z2⟩ | ⟨m,i,g1,g2,g3,z,z2⟩
    · have z:=z.symm.trans hf';subst z;refine Ac (fin λm i e a1 a2 a3=>?_);by_cases c:m<k
      · exact no m i e c a2 a3
      · exact off m i e a2 a3 (z2 m i (by omega) a1 a2)
    · have z:=z.symm.trans hf';subst z;obtain⟨_,hi⟩:=T.slot_live g3;have ei:es[i]?=some es[i]:=by simp[hi]
      have mi:es[i]∈es.toList:=by simp
      obtain⟨c,ec⟩:=refs _ mi;have no':b es[i]=false→∀m' i' e,m'<m+1→t.slot (Jj t m' (t.probeStart hs)).j= .live i'→es[i']?=some e→b e=false:=λhbe m' i' e a1 a2 a3=>by
       by_cases c1:m'<k
       · exact no m' i' e c1 a2 a3
       · by_cases c2:m'=m
         · subst c2;rw[g3] at a2;cases a2;rw[ei] at a3;cases a3;exact hbe
         · exact off m' i' e a2 a3 (z2 m' i' (by omega) (by omega) a2)
      have rest:b es[i]=false→wpAny (model prog w) A (setSearchFrom a x hs true fuel (some (Jj t (m+1) (t.probeStart hs)))) Q E s:=λhbe=>ih (N - (m+1)) (by omega) (m+1) fuel _ rfl (by omega) (by omega) rfl (no' hbe);have body:wpAny (model prog w) A (holding [es[i].2] (eqBool es[i].2 x)) (λequal s1=>wpAny (model prog w) A (do
       let(es',_,t') ←setState a
       if true && equal then return SetFound.there none
       let some same:=t'.sameMemory t.moves t.mask | unsupported "set.changed-during-lookup:is-the-new-block-at-the-old-address"
       let still ←match(if same then t'.slot (Jj t m (t.probeStart hs)).j else .empty) with
        | .live i'=>match es'[i']? with
         | some (_,y')=>do pure (if ←isSame y' es[i].2 then some i' else none)
         | none=>pure none
        | _=>pure none
       match still with
       | none=>rule "set.search.anew";setSearchFrom a x hs true fuel none
       | some i'=>if equal then return .there (some i') else setSearchFrom a x hs true fuel (some (Jj t (m+1) (t.probeStart hs)))) Q E s1) E s:=by
       refine AF (heq _ mi _ ?_);refine Aa (AN ho hd T.fits ?_);cases hbe:b es[i] with
       | true=>exact Ac (h1 ⟨_,mi,hbe⟩)
       | false=>
        simp only[DD,Ay,if_false];have sm:t.sameMemory t.moves t.mask=some true:=by unfold Fc;simp
        rw[sm];simp only[if_true,g3];rw[ei];dsimp only;rw[ec];refine Aa (EH ?_);exact Aa (Ac (rest hbe))
      by_cases hled:(!t.led)=true
      · dsimp only;rw[if_pos hled];refine Aa (hseen _ (λy hy=>?_) _ ?_)
        · obtain⟨e,he,rfl⟩:=Ax.mp hy;exact⟨e,by have:=CQ.mp he;exact CQ.mpr (Hd.mp this).1,rfl⟩
        · simp only[Ay,if_false];rw[ei];dsimp only;exact Aa body
      · dsimp only;rw[if_neg hled];rw[ei];dsimp only;exact Aa body
 exact main _ 0 100000 none rfl (Bc _) (by omega) rfl λm i e h=>absurd h (Ea _)
end ST
namespace ST
open PySem.SetTable
theorem PX(t:A0):∀(m:Nat)(p:Probe),m≤p.more→Jj t m p={p with j:=p.j+m,more:=p.more - m}
 | 0,p,h=>rfl
 | m+1,p,h=>by
  show Jj t m (t.advance p)=_;have e:t.advance p={p with j:=p.j+1,more:=p.more - 1}:=by unfold De;rw[if_pos (by omega)]
  rw[e,PX t m _ (by show m≤p.more - 1;omega)];simp only[Probe.mk.injEq,and_true,true_and];omega
structure AtR(t:A0)(p:Probe)(i q:Nat):Prop where
 j:p.j=i
 ii:p.i=i
 pe:p.perturb=q
 mo:p.more=runEnd t.mask i - i
 le:i≤t.mask
theorem AtR.start(t:A0)(h:Int):AtR t (t.probeStart h) (bits h%(t.mask+1)) (bits h):=
 ⟨rfl,rfl,rfl,rfl,by have:=CI (bits h) (show t.mask+1>0 by omega);omega⟩
theorem AtR.next{t:A0}{p:Probe}{q:Nat}(h:AtR t p i q):AtR t (Jj t (p.more+1) p) (leap t.mask i q).1 (leap t.mask i q).2:=by
 rw[M6,PX t p.more p (Af _)];have e:t.advance {p with j:=p.j+p.more,more:=p.more - p.more}={p with j:=(leap t.mask p.i p.perturb).1,more:=runEnd t.mask (leap t.mask p.i p.perturb).1 - (leap t.mask p.i p.perturb).1,i:=(leap t.mask p.i p.perturb).1,perturb:=(leap t.mask p.i p.perturb).2}:=by unfold De;rw[if_neg (by show ¬(p.more - p.more>0);omega)]
 rw[e,h.ii,h.pe];refine⟨rfl,rfl,rfl,rfl,?_⟩;have:=CI (i*5+1+q / 32) (show t.mask+1>0 by omega);show(i*5+1+q / 32)%(t.mask+1)≤_;omega
theorem zjI(mask i:Nat):i≤runEnd mask i:=by
 unfold runEnd
 split<;>omega
def KA(owner:Array (Option Nat))(q:Nat):Prop:=∃u,owner[q]?=some (some u)
theorem UJ{t:A0}{h:Int}{owner:Array (Option Nat)}(hz:owner.size=t.mask+1):∀(f i q k0:Nat){j:Nat},AtR t (Jj t k0 (t.probeStart h)) i q→layClean.free t.mask owner f i q=some j→
 ∃N,k0≤N∧pos t h N=j∧owner[j]?=some none∧∀k,k0≤k→k<N→KA owner (pos t h k)
 | 0,i,q,k0,j,a,e=>by unfold layClean.free at e;cases e
 | f+1,i,q,k0,j,a,e=>by
  have ge:=zjI t.mask i;have le:=QA a.le;have inr:∀k',k'≤runEnd t.mask i - i→pos t h (k0+k')=i+k':=λk' hk=>by unfold pos;rw[Nz,PX t k' _ (by rw[a.mo];exact hk)];show(Jj t k0 (t.probeStart h)).j+k'=_;rw[a.j]
  have full:∀k',k'≤runEnd t.mask i - i→¬(owner.getD (i+k') (some 0)).isNone=true→KA owner (pos t h (k0+k')):=λk' hk hn=>by
   rw[inr k' hk];have hlt:i+k'<owner.size:=by omega
   cases ho:owner[i+k'] with
   | none=> exfalso;apply hn;rw[AW,AL hlt,ho];rfl
   | some u=>exact⟨u,by rw[AL hlt,ho]⟩
  unfold layClean.free at e;cases hf:(AG (runEnd t.mask i+1 - i)).find? (λk=>(owner.getD (i+k) (some 0)).isNone) with
  | some k=>
   rw[hf] at e;dsimp only at e;cases e;obtain⟨p1,as,bs,e1,p2⟩:=List.find?_eq_some_iff_append.mp hf;have hk:k<runEnd t.mask i+1 - i:=Be.mp (FK hf);refine⟨k0+k,by omega,inr k (by omega),?_,λk2 h1 h2=>?_⟩
   · rw[AW] at p1;cases ho:owner[i+k]? with
     | none=>rw[ho] at p1;cases p1
     | some v=>
      rw[ho] at p1;cases v with
      | none=>rfl
      | some v=>cases p1
   · have hk2:k2 - k0<k:=by omega
     have mem:k2 - k0∈as:=by
      have hk0:as.length=k:=by
       have:=congrArg (λl=>l[as.length]?) e1;simp only[Ct (Af _),EO] at this;have hlt:as.length<(AG (runEnd t.mask i+1 - i)).length:=by rw[e1];simp
       rw[BF] at hlt;rw[DW hlt] at this;simpa using this
      have:(AG (runEnd t.mask i+1 - i))[k2 - k0]?=some (k2 - k0):=DW (by omega);rw[e1,BQ (by omega)] at this;exact Av this
     have:=p2 _ mem;have:=full (k2 - k0) (by omega) (λz=>by rw[z] at this;cases this);rw[show k0+(k2 - k0)=k2 by omega] at this;exact this
  | none=>
   rw[hf] at e;dsimp only at e;have nx:=a.next
   rw[←Nz] at nx;obtain⟨N,n1,n2,n3,n4⟩:=UJ hz f _ _ _ nx e;refine⟨N,by omega,n2,n3,λk h1 h2=>?_⟩;by_cases c:k<k0+((Jj t k0 (t.probeStart h)).more+1)
   · rw[a.mo] at c;have:=full (k - k0) (by omega) (by
      have:=Fp.mp hf (k - k0) (Be.mpr (by omega));exact this)
     rw[show k0+(k - k0)=k by omega] at this;exact this
   · exact n4 k (by omega) h2
def MJ(t:A0)(done:List Int)(owner:Array (Option Nat)):Prop:=∀j k,owner[j]?=some (some k)→∃h,done[k]?=some h∧Rch t (KA owner) h j
theorem TV{t:A0}(hm:Ms t.mask):∀(hs done:List Int)(owner:Array (Option Nat)),Own t.mask done.length owner→MJ t done owner→done.length+hs.length≤t.mask→
 ∃ow,Own t.mask (done.length+hs.length) ow∧MJ t (done++hs) ow∧hs.foldl (λ(acc:Option (Array (Option Nat)×Nat))h=>do
  let(owner,k) ←acc
  let j ←layClean.free t.mask owner (turns t.mask) (bits h%(t.mask+1)) (bits h)
  pure (owner.setIfInBounds j (some k),k+1)) (some (owner,done.length))=some (ow,done.length+hs.length)
 | [],done,owner,O,R,_=>⟨owner,O,by rw[CG];exact R,rfl⟩
 | h::hs,done,owner,O,R,hl=>by
  rw[AA] at hl;obtain⟨e,he⟩:=QE (l:=owner.toList) (by have h1:=O.all.length_eq;have h2:=O.size;rw[BF] at h1;rw[h1];show done.length<owner.size;omega);rw[A7] at he;have el:e<t.mask+1:=by have:=(Bj.mp he).1;rw[O.size] at this;exact this
  obtain⟨m,hm2,hr⟩:=Py hm (i:=bits h%(t.mask+1)) (p:=bits h) (CI _ (by omega)) (Qf h) el;obtain⟨j,hj,ho⟩:=Qh O.size he (turns t.mask) (bits h%(t.mask+1)) (bits h) m (by unfold turns;omega) (by have:=CI (bits h) (show t.mask+1>0 by omega);omega) hr;obtain⟨N,_,n2,_,n4⟩:=UJ (h:=h) O.size _ _ _ 0 (AtR.start t h) hj;have jlt:j<owner.size:=(Bj.mp ho).1;have O':Own t.mask (done++[h]).length (owner.setIfInBounds j (some done.length)):=by rw[A5,BB];refine⟨by rw[FZ];exact O.size,?_⟩;rw[Fz];refine(Qv (by rw[A7];exact ho)).trans ?_;refine(O.all.cons done.length).trans ?_;rw[ES];exact DH (l₁:=[done.length]) (l₂:=AG done.length)
  have more:∀q,KA owner q→KA (owner.setIfInBounds j (some done.length)) q:=λq ⟨u,hu⟩=>by
   unfold KA;rw[Fj];by_cases c:j=q
   · rw[if_pos c,if_pos jlt];exact⟨_,rfl⟩
   · rw[if_neg c];exact⟨u,hu⟩
  have R':MJ t (done++[h]) (owner.setIfInBounds j (some done.length)):=λj' k hjk=>by
   rw[Fj] at hjk;by_cases c:j=j'
   · rw[if_pos c] at hjk;by_cases c2:j<owner.size
     · rw[if_pos c2] at hjk;injection hjk with hjk
       injection hjk with hjk
       subst hjk;refine⟨h,by simp,?_⟩;rw[←c];exact⟨N,n2,λk hk=>more _ (n4 k (Bc _) hk)⟩
     · exact absurd jlt c2
   · rw[if_neg c] at hjk;obtain⟨h',g1,g2⟩:=R j' k hjk;refine⟨h',?_,g2.mono rfl more⟩;rw[BQ (Au.mp g1).1];exact g1
  obtain⟨ow,h1,h2,h3⟩:=TV hm hs (done++[h]) _ O' R' (by rw[A5,BB];omega);rw[BE] at h2;rw[A5,BB] at h1 h3;refine⟨ow,?_,h2,?_⟩
  · rw[AA];have:done.length+(hs.length+1)=done.length+1+hs.length:=by omega
    rw[this];exact h1
  · rw[Ec,AA];have:done.length+(hs.length+1)=done.length+1+hs.length:=by omega
    rw[this,←h3];congr 1;show(layClean.free t.mask owner (turns t.mask) (bits h%(t.mask+1)) (bits h)>>=_)=_;rw[hj];rfl
end ST
namespace ST
open PySem.SetTable
theorem Th{α β:Type}{f:α→Option β}:∀{l:List α},(∀x∈l,(f x).isSome=true)→∀i:Nat,(l.filterMap f)[i]?=l[i]?.bind f
 | [],_,i=>by simp
 | x::l,h,i=>by
  have hx:=h x Ai;cases e:f x with
  | none=>rw[e] at hx;cases hx
  | some y=>
   rw[List.filterMap_cons_some e];cases i with
   | zero=>simp[e]
   | succ i=>simpa using Th (λz hz=>h z (Aj _ hz)) i
theorem Yy{t:A0}{es:Array (Int×Value)}{wanted M:Nat}(hM:Ms M)(hm:sizeAbove wanted=M+1)(hl:es.size*5<M*3):
 ∃t' order,t.relaid (es.map (·.1)) wanted=some (t',order)∧RTab t' (order.filterMap (es[·]?))∧(order.filterMap (es[·]?)).toList.Perm es.toList∧t'.led=t.led∧t'.plain=t.plain:=by
 obtain⟨ow,O,R,e⟩:=TV (t:={t with mask:=M}) hM (es.map (·.1)).toList [] (Array.replicate (M+1) none) ⟨by simp,by simp⟩ (λj k h=>by
  rw[Array.getElem?_replicate] at h
  split at h<;>cases h) (by
  show 0+(es.map (·.1)).toList.length≤M;rw[Ah,DF];omega)
 rw[List.length_nil,FY,Ah,DF] at O e;rw[List.nil_append] at R;have O1:Own M es.size ow:=O;have lc:layClean M (es.map (·.1))=some ow:=by
  unfold layClean;rw[←Array.foldl_toList]
  erw [e]
  rfl
 unfold SetTable.relaid;rw[hm];unfold Fv;rw[show M+1 - 1=M from rfl,lc];obtain⟨LV,hLV⟩:∃LV,LV=(AG (M+1)).filterMap λj=>(ow.getD j none).map (j, ·):=⟨_,rfl⟩;have mem:∀j k,(j,k)∈LV↔j<M+1∧ow.getD j none=some k:=λj k=>by
  rw[hLV,List.mem_filterMap];constructor
  · rintro⟨j',h1,h2⟩;cases q:ow.getD j' none with
    | none=>rw[q] at h2;cases h2
    | some u=> rw[q] at h2;cases h2;exact⟨Be.mp h1,q⟩
  · rintro⟨h1,h2⟩;exact⟨j,Be.mpr h1,by rw[h2];rfl⟩
 have ord:(LV.map (·.2)).Perm (AG es.size):=by refine List.Perm.trans (ET ?_) O1.all;rw[hLV,D6,←TX ow O1.size];congr 1;funext j;cases ow.getD j none<;>rfl
 have at':∀{j k:Nat},ow.getD j none=some k→ow[j]?=some (some k):=λ{j k}h=>by
  rw[AW] at h;cases q:ow[j]? with
  | none=>rw[q] at h;cases h
  | some v=>rw[q] at h;exact congrArg some h
 have lLV:LV.length=es.size:=by have:=ord.length_eq;rw[Ab,BF] at this;exact this
 have ksm:∀k∈LV.map (·.2),(es[k]?).isSome=true:=λk hk=>by have:=Be.mp (ord.mem_iff.mp hk);simp[this]
 have perm:((LV.map (·.2)).toArray.filterMap (es[·]?)).toList.Perm es.toList:=by rw[E9];refine(ord.filterMap _).trans (ET ?_);exact filterMap_getElem?_range es
 have sz:((LV.map (·.2)).toArray.filterMap (es[·]?)).size=es.size:=by rw[←Ah,perm.length_eq,Ah]
 refine⟨{mask:=M,place:=(LV.map (·.1)).toArray,dummies:=#[],finger:=t.finger,led:=t.led,moves:=t.movedTo M,plain:=t.plain},(LV.map (·.2)).toArray,by rw[hLV];rfl,⟨⟨hM,?_,?_,?_,rfl,?_⟩,?_⟩,perm,rfl,rfl⟩
 · show(LV.map (·.1)).toArray.size=_;rw[sz];simpa using lLV
 · show((LV.map (·.1)).toArray).toList.Pairwise (· < ·);rw[Ck,hLV,D6,Go];refine List.Pairwise.imp ?_ D8;intro a b hab x hx y hy;cases ha:ow.getD a none with
   | none=>rw[ha] at hx;cases hx
   | some u=>
    cases hb:ow.getD b none with
    | none=>rw[hb] at hy;cases hy
    | some v=> rw[ha] at hx;rw[hb] at hy;cases hx;cases hy;exact hab
 · show ∀j∈((LV.map (·.1)).toArray).toList,j≤M;rw[Ck];intro j hj;obtain⟨x,hx,rfl⟩:=Ax.mp hj;have:=((mem x.1 x.2).mp hx).1;omega
 · show _*5<M*3;rw[sz];exact hl
 · intro i e j h1 h2;rw[←A7,E9,Ck,Th ksm,Am] at h1;have h2:(LV.map (·.1))[i]?=some j:=by
    have:=h2;rw[←A7] at this;exact this
   rw[Am] at h2;cases q:LV[i]? with
   | none=>rw[q] at h2;cases h2
   | some x=>
    rw[q] at h1 h2;obtain⟨j',k⟩:=x;have hk:es[k]?=some e:=h1;have hj:j'=j:=AD h2;subst hj;obtain⟨hlt,hg⟩:=(mem j' k).mp (Av q);obtain⟨h,g1,g2⟩:=R j' k (at' hg);have eh:h=e.1:=by rw[A7,Array.getElem?_map,hk] at g1;exact(AD g1).symm
    subst eh;refine Rch.mono (t:={t with mask:=M}) (occ:=KA ow) rfl g2 λq' hq'=>?_
    obtain⟨u,hu⟩:=hq';show q'∈((LV.map (·.1)).toArray).toList;rw[Ck];refine Ax.mpr ⟨(q',u),(mem q' u).mpr ⟨?_,?_⟩,rfl⟩
    · have:=(Bj.mp hu).1;rw[O1.size] at this;exact this
    · rw[AW,hu];rfl
theorem RTab.congr{t t':A0}{es:Array (Int×Value)}(R:RTab t es)(h1:t'.mask=t.mask)(h2:t'.place=t.place)(h3:t'.dummies=t.dummies):RTab t' es:=by obtain⟨⟨a1,a2,a3,a4,a5,a6⟩,r⟩:=R;refine⟨⟨by rw[h1];exact a1,by rw[h2];exact a2,by rw[h2];exact a3,by rw[h2,h1];exact a4,by rw[h3];exact a5,by rw[h1];exact a6⟩,λi e j g1 g2=>?_⟩;rw[h2] at g2;exact(r i e j g1 g2).mono h1.symm λq hq=>by rw[h2];exact hq
theorem ins_get{α:Type}{xs:Array α}{p:Nat}{x:α}(hp:p≤xs.size)(i:Nat):(insertAt xs p x)[i]?=if i<p then xs[i]? else if i=p then some x else xs[i - 1]?:=by
 rw[←A7,Qz hp];by_cases c:i<p
 · rw[if_pos c,BQ (by rw[AE,Ah];omega),D7,if_pos c,A7]
 · rw[if_neg c,Ct (by rw[AE,Ah];omega),AE,Ah,ER hp];by_cases c2:i=p
   · rw[if_pos c2,c2,EO];rfl
   · rw[if_neg c2];obtain⟨d,hd⟩:∃d,i - p=d+1:=⟨i - p - 1,by omega⟩;rw[hd,Dy,Es,A7];congr 1;omega
theorem RY{t:A0}{es:Array (Int×Value)}(R:RTab t es){e:Int×Value}{j:Nat}(hj:j ∉ t.place.toList)(hl:j≤t.mask)(hr:Rch t (λq=>q∈t.place.toList) e.1 j)(few:(es.size+1)*5<t.mask*3):
 RTab (t.put j).1 (insertAt es (t.put j).2 e):=by
 have T:=R.tab;obtain⟨p1,p2,p3,p4,p5⟩:=T.put_ok hj hl;have B:=N5 T.ris j;have hb:AI t.place j≤t.place.size:=B.le;have hbe:AI t.place j≤es.size:=by rw[←T.size];exact hb
 have pl:(t.put j).1.place=insertAt t.place (AI t.place j) j:=rfl;have pe:(t.put j).2=AI t.place j:=rfl;have sz:(insertAt es (t.put j).2 e).size=es.size+1:=by rw[←Ah,(Dg _ _ _).length_eq,Ah,EU]
 have sub:∀q,q∈t.place.toList→q∈(t.put j).1.place.toList:=λq hq=>by rw[pl,(Dg _ _ _).mem_iff,Dm];exact AO _ hq
 refine⟨⟨by rw[p1];exact T.mask,by rw[sz,p2],p3,by rw[p1];exact p4,p5,by rw[sz,p1];exact few⟩,λi e' j' h1 h2=>?_⟩;rw[pe,ins_get hbe] at h1;rw[pl,ins_get hb] at h2;by_cases c:i<AI t.place j
 · rw[if_pos c] at h1 h2;exact(R.rch i e' j' h1 h2).mono p1.symm sub
 · rw[if_neg c] at h1 h2;by_cases c2:i=AI t.place j
   · rw[if_pos c2] at h1 h2;cases h1;cases h2;exact hr.mono p1.symm sub
   · rw[if_neg c2] at h1 h2;exact(R.rch _ e' j' h1 h2).mono p1.symm sub
end ST
namespace ST
open PySem.SetTable
theorem WQ{ks:List L0}{Q:Bool→Shared→Prop}(hk:IsTupleKey (Kt prog w) s.heap ks b)(h:∀c,Q c s):wpAny (model prog w) A (hashByValue (n+1) (.ref b)) Q E s:=by
 have ty:=hk.typeIs;obtain⟨o,its,m,h1,_,h2,h3⟩:=hk;unfold hashByValue;refine Aa (BV ty Cr.lookup ?_);dsimp only;refine Aa (Ba h1 h2 (Aa ?_));show wpAny _ _ (forIn its _ _) _ _ s;rw[←BS];refine BZ _ (λrest r s'=>s'=s∧∀v∈rest,carriedByValue v=true) _ ?step ?done _ _ ⟨rfl,h3.byValue⟩
 case step=>
  rintro v rest r s' ⟨rfl,al⟩;have hv:∃c,hashByValue n v=pure c:=by have:=al v Ai;cases v<;>first | (exact⟨_,by unfold hashByValue;rfl⟩) | (cases this)
  obtain⟨c,hc⟩:=hv;rw[hc];refine Aa (Ac ?_);cases c with
  | false=>exact Ac (Ac (h false))
  | true=>exact Ac ⟨rfl,λu hu=>al u (Aj _ hu)⟩
 case done=>
  rintro⟨r1,r2⟩ s' ⟨rfl,_⟩;cases r1 with
  | none=>exact Ac (h _)
  | some c=>exact Ac (h _)
theorem Ua{ks:List L0}{Q:Bool→Shared→Prop}(hk:IsTupleKey (Kt prog w) s.heap ks b)(h:Q false s):wpAny (model prog w) A (ofAClassStatement (n+1) (.ref b)) Q E s:=by
 have ty:=hk.typeIs;obtain⟨o,its,m,h1,_,h2,h3⟩:=hk;unfold ofAClassStatement;refine Aa (C7 ty ?_);dsimp only;rw[if_pos (by decide)];refine Aa (Ac ?_);simp only[Ce,Ay,if_false];refine Aa (Ba h1 h2 ?_);dsimp only;refine Aa ?_;rw[←BS];refine BZ _ (λrest r s'=>r.1=none∧s'=s∧∀v∈rest,carriedByValue v=true) _ ?step ?done _ _ ⟨rfl,rfl,h3.byValue⟩
 case step=>
  rintro v rest r s' ⟨hr,rfl,al⟩;have hv:ofAClassStatement n v=pure false:=by have:=al v Ai;cases v<;>first | (unfold ofAClassStatement;rfl) | (cases this)
  rw[hv];refine Aa (Ac ?_);simp only[Ay,if_false];exact Ac ⟨rfl,rfl,λu hu=>al u (Aj _ hu)⟩
 case done=> rintro⟨r1,r2⟩ s' ⟨hr,rfl,_⟩;simp only at hr;subst hr;exact Ac h
theorem Zf{ks:List L0}{ys:List Value}{Q:Bool→Shared→Prop}(hk:IsTupleKey (Kt prog w) s.heap ks a)(hy:∀y∈ys,∃ks' b,y= .ref b∧IsTupleKey (Kt prog w) s.heap ks' b)(h:Q false s):
 wpAny (model prog w) A (searchCouldBeSeen (.ref a) ys) Q E s:=by
 unfold searchCouldBeSeen;refine Aa ?_;refine BZ _ (λrest r s'=>r.1=none∧s'=s∧∀y∈rest,∃ks' b,y= .ref b∧IsTupleKey (Kt prog w) s.heap ks' b) _ ?step ?done _ _ ⟨rfl,rfl,hy⟩
 case step=>
  rintro v rest r s' ⟨hr,rfl,al⟩;have al':=λu hu=>al u (Aj _ hu);obtain⟨ks',b,rfl,hb⟩:=al v Ai;dsimp only
  split
  · exact Ac ⟨rfl,rfl,al'⟩
  · refine Aa (wpAny_eqIsQuiet_tuple hk ?_);simp only[Ce,Ay,if_false];refine Aa (wpAny_eqIsQuiet_tuple hb ?_);simp only[Ce,Ay,if_false];refine Aa (Ua hk ?_);simp only[Ay,if_false];refine Aa (Ua hb ?_);simp only[Ay,if_false];exact Ac ⟨rfl,rfl,al'⟩
 case done=> rintro⟨r1,r2⟩ s' ⟨hr,rfl,_⟩;simp only at hr;subst hr;exact Ac h
abbrev PR:=Int×Int
def LW(k:PR):List L0:=[.inl (some k.1),.inl (some k.2)]
theorem U0{k k':PR}(h:LW k=LW k'):k=k':=by unfold LW at h;simp at h;exact Prod.ext h.1 h.2
def MD(prog:Bw)(w:World)(k:PR):Int:=tupleKeyHash (Kt prog w) (LW k)
def Nf(prog:Bw)(w:World)(k:Addr×PR):Int×Value:=(MD prog w k.2,.ref k.1)
def PTab(prog:Bw)(w:World)(h:Heap)(a:Addr)(ks:List (Addr×PR)):Prop:=∃(es:Array (Int×Value))(ep:Nat)(t:A0),
 h.get? a=some {cls:= .type "set",dict:=none,data:= .set es ep t}∧RTab t es∧es.toList=ks.map (Nf prog w)∧t.led=!Jc w∧(ks.map (·.2)).Nodup
theorem PTab.kept{h':Heap}{ks:List (Addr×PR)}(T:PTab prog w h a ks)(k:∀o,h.get? a=some o→h'.get? a=some o):PTab prog w h' a ks:=by obtain⟨es,ep,t,h1,h2⟩:=T;exact⟨es,ep,t,k _ h1,h2⟩
theorem ziK(e:h.get? a=some {cls:= .type "set",dict:=none,data:= .set #[] 0 (.fresh 0 0 (!Jc w))}):PTab prog w h a []:=
 ⟨#[],0,_,e,⟨⟨.inl rfl,rfl,.nil,λj hj=>by simp[SetTable.fresh] at hj,rfl,by show 0*5<7*3;decide⟩,λi e j h=>by simp at h⟩,rfl,rfl,Fe⟩
theorem Y_{S:Addr}{ks:List (Addr×PR)}{k:PR}{Q:Bool→Shared→Prop}(hu:A.units+1<cLine)(T:PTab prog w s.heap S ks)(hks:∀x∈ks,IsTupleKey (Kt prog w) s.heap (LW x.2) x.1)(hk:IsTupleKey (Kt prog w) s.heap (LW k) b)(hl:ks.length<70)
 (h:∀h' ks' c,BO S s.heap h'→PTab prog w h' S ks'→ks'.Perm (if k∈ks.map (·.2) then ks else ks++[(b,k)])→Q c {s with heap:=h'}):
 wpAny (model prog w) A (setAddHashed S (.ref b) (MD prog w k)) Q E s:=by
 obtain⟨es,ep,t,ho,R,he,hled,hnd⟩:=T;have tab:=R.tab;have hz:es.size=ks.length:=by rw[←Ah,he,Ab]
 have hel:∀e∈es.toList,∃x∈ks,e=Nf prog w x:=λe hm=>by rw[he] at hm;obtain⟨x,hx,rfl⟩:=Ax.mp hm;exact⟨x,hx,rfl⟩
 obtain⟨bb,hbb⟩:∃bb:Int×Value→Bool,∀x∈ks,bb (Nf prog w x)=decide (x.2=k):=by
  refine⟨λe=>ks.any λx=>decide (Nf prog w x=e) && decide (x.2=k),λx hx=>?_⟩;rw[Cf,DN,decide_eq_true_eq];constructor
  · rintro⟨y,hy,hc⟩;rw[AX,decide_eq_true_eq,decide_eq_true_eq] at hc;have e1:y.1=x.1:=by
     have:=congrArg Prod.snd hc.1;injection this
    have k1:=hks y hy;have k2:=hks x hx;rw[e1] at k1;rw[←U0 (k1.inj k2)];exact hc.2
  · intro hc;exact⟨x,hx,by rw[decide_eq_true rfl,decide_eq_true hc];rfl⟩
 unfold setAddHashed setAddHashedIn;refine AF (Aa (AN ho rfl tab.fits ?_));dsimp only;rw[if_neg (by unfold byScan;simp[Value.scannable])];refine Aa (Y7 ho rfl R (λe he'=>?_) bb (λe he' Rr hR=>?_) (λe he' hb=>?_) (λys hy Rr hR=>?_) (λ⟨e,he',hb⟩=>?_) (λno j hj1 hj2 hj3=>?_))
 · obtain⟨x,hx,rfl⟩:=hel e he';exact⟨_,rfl⟩
 · obtain⟨x,hx,rfl⟩:=hel e he';rw[hbb x hx] at hR;refine wpAny_eqBool_tuple (by omega) (hks x hx) hk ?_;rw[show decide (LW x.2=LW k)=decide (x.2=k) from by
    rw[Cf,decide_eq_true_eq,decide_eq_true_eq];exact⟨U0,λz=>by rw[z]⟩]
   exact hR
 · obtain⟨x,hx,rfl⟩:=hel e he';rw[hbb x hx,decide_eq_true_eq] at hb;show MD prog w x.2=_;rw[hb]
 · refine Zf hk (λy hy'=>?_) hR;obtain⟨e,he',rfl⟩:=hy y hy';obtain⟨x,hx,rfl⟩:=hel e he';exact⟨_,_,rfl,hks x hx⟩
 · obtain⟨x,hx,rfl⟩:=hel e he';rw[hbb x hx,decide_eq_true_eq] at hb;refine Ac ?_;have:=h s.heap ks false (FE S s.heap) ⟨es,ep,t,ho,R,he,hled,hnd⟩ (by rw[if_pos (Ax.mpr ⟨x,hx,hb⟩)]);exact this
 · have nk:k ∉ ks.map (·.2):=λz=>by
    obtain⟨x,hx,ex⟩:=Ax.mp z;have:=no (Nf prog w x) (by rw[he];exact Bs hx);rw[hbb x hx,ex] at this;simp at this
   dsimp only;refine Aa (AN ho rfl tab.fits ?_);dsimp only;have P2:(es.size+1)*5<t.mask*3→RTab (t.put j).1 (insertAt es (t.put j).2 (MD prog w k,Value.ref b)):=λfew=>RY R hj2 hj1 hj3 few;obtain⟨p1,p2,p3,p4,p5⟩:=tab.put_ok hj2 hj1;have pb:(t.put j).2≤es.size:=by show AI t.place j≤es.size;rw[←tab.size];exact(N5 tab.ris j).le
   have pled:(t.put j).1.led=t.led:=rfl;generalize hP:t.put j=P at p1 p2 p3 p4 p5 P2 pb pled ⊢;obtain⟨t1,pp⟩:=P;dsimp only at p1 p2 p3 p4 p5 P2 pb pled ⊢;have li:=Qz (x:=(MD prog w k,Value.ref b)) pb;have e1:(FG es pp (MD prog w k,Value.ref b)).toList=(ks.take pp++(b,k)::ks.drop pp).map (Nf prog w):=by rw[li,he,Aq,AC,EE,F7];rfl
   have pk:(ks.take pp++(b,k)::ks.drop pp).Perm (ks++[(b,k)]):=by refine List.perm_middle.trans ?_;rw[GI];exact DH (l₁:=[(b,k)]) (l₂:=ks)
   generalize hE:FG es pp (MD prog w k,Value.ref b)=es1 at e1 P2 ⊢;have sz1:es1.size=es.size+1:=by rw[←Ah,e1,Ab,pk.length_eq,A5,hz];rfl
   have fin:∀(h':Heap)(es2:Array (Int×Value))(ep2:Nat)(t2:A0),BO S s.heap h'→h'.get? S=some {cls:= .type "set",dict:=none,data:= .set es2 ep2 t2}→es2.toList.Perm es1.toList→RTab t2 es2→t2.led=t.led→Q true {s with heap:=h'}:=λh' es2 ep2 t2 sb ho2 q2 R2 l2=>by rw[e1] at q2;obtain⟨ks2,pm2,ek2⟩:=OP q2 _ rfl;have pm:=pm2.trans pk;refine h h' ks2 true sb ⟨es2,ep2,t2,ho2,R2,ek2.symm,l2.trans hled,?_⟩ (by rw[if_neg nk];exact pm);rw[(pm.map (·.2)).nodup_iff,Aq,Bf];exact⟨hnd,by simp,λx hx y hy e=>nk (by rw[Ak.mp hy] at e;rw[show x=k from e] at hx;exact hx)⟩
   have tail:∀(t2:A0),t2.mask=t1.mask→t2.place=t1.place→t2.dummies=t1.dummies→t2.led=t1.led→wpAny (model prog w) A (do
    storeSet S es1 t2
    if(!false && t2.tooFull)=true then
     setRelay S (Cd (es.size+1))
     pure true
    else pure true) Q E s:=λt2 m1 m2 m3 m4=>by
    refine Aa (Dn (es':=es1) (t':=t2) ho rfl ?_ (by rw[sizeLine_eq];omega));have ho2:=MV s.heap S es es1 ep t t2 ho;have sb:=AJ s.heap S (FH es1 t2);have fl:t2.fill=es1.size:=by unfold SetTable.fill;rw[m2,m3,p2,p5,sz1];rfl
    by_cases tf:t2.tooFull=true
    · rw[if_pos (by rw[tf];rfl)];unfold EG at tf;rw[fl,m1,p1] at tf;simp at tf;have few:=tab.few;obtain⟨M,hM,hsa,hf,hnot⟩:∃M,Ms M∧SetTable.sizeAbove (Cd (es.size+1))=M+1∧es1.size*5<M*3∧M+1≤128:=by
       rcases tab.mask with e | e | e
       · rw[e] at tf few;have n4:es.size=4:=by omega
         exact⟨31,.inr (.inl rfl),by rw[n4];decide,by rw[sz1,n4];decide,by decide⟩
       · rw[e] at tf few;have n4:es.size=18:=by omega
         exact⟨127,.inr (.inr rfl),by rw[n4];decide,by rw[sz1,n4];decide,by decide⟩
       · rw[e] at tf few;omega
      unfold setRelay;refine Aa (Aa (AN ho2 rfl ?_ ?_))
      · unfold ED;rw[fl,m2,m1,p1,p2,sz1];rcases tab.mask with e | e | e<;>rw[e] at few ⊢ <;>simp<;>omega
      · dsimp only;rw[if_neg (by rw[hsa,sizeLine_eq];omega)];obtain⟨t3,order,g1,R3,per,l3,_⟩:=Yy (t:=t2) (es:=es1) hM hsa hf;rw[g1];have sz3:(order.filterMap (es1[·]?)).size=es1.size:=by rw[←Ah,per.length_eq,Ah]
        have Kq:¬((order.filterMap (es1[·]?)).size !=es1.size)=true:=by rw[sz3];simp
        refine Aa ?_;show wpAny _ _ (if((order.filterMap (es1[·]?)).size !=es1.size)=true then _ else _) _ _ _
        rw[if_neg Kq];refine Ac ?_;dsimp only;refine Dn ho2 rfl ?_ (by rw[sz3,sizeLine_eq];omega);exact Ac (fin _ _ _ t3 (sb.trans (AJ _ S _)) (MV _ S es1 _ (ep+1) t2 t3 ho2) per R3 (l3.trans (m4.trans pled)))
    · rw[if_neg (by rw[Dc] at tf;rw[tf];exact A3)];unfold EG at tf;rw[fl,m1,p1,sz1] at tf;exact Ac (fin _ es1 (ep+1) t2 sb ho2 (Ds _) ((P2 (by simpa using tf)).congr m1 m2 m3) (m4.trans pled))
   by_cases hp:t1.plain=true
   · rw[if_pos hp];refine Aa (WQ hk λc=>?_);cases c with
     | true=>exact tail t1 rfl rfl rfl rfl
     | false=>exact tail {t1 with plain:=false} rfl rfl rfl rfl
   · rw[if_neg hp];exact Aa (Ac (tail t1 rfl rfl rfl rfl))
end ST
namespace ST
open PySem.SetTable
def MC(t:A0)(i:Nat):Nat:=if i=0 then 0 else t.place.getD (i - 1) 0+1
theorem Vz{t:A0}(T:Tab t n)(hi:i≤n):AI t.place (MC t i)=i:=by
 have B:=N5 T.ris (MC t i);have hb:=B.le;rw[T.size] at hb;have at':∀k,k<n→t.place[k]?=some (t.place.getD k 0):=λk hk=>by
  have:k<t.place.size:=by rw[T.size];exact hk
  rw[AW,AL this];rfl
 generalize hB:AI t.place (MC t i)=b at B hb;unfold MC at B;by_cases c:i=0
 · rw[if_pos c] at B;subst c;rcases Nat.eq_zero_or_pos b with z | z
   · exact z
   · have:=B.lo 0 _ z (at' 0 (by omega));omega
 · rw[if_neg c] at B;have h1:i - 1<b:=by
    rcases Nat.lt_or_ge (i - 1) b with z | z
    · exact z
    · have:=B.hi (i - 1) _ z (at' (i - 1) (by omega));omega
   rcases Nat.lt_or_ge i b with z | z
   · have h2:=B.lo i _ z (at' i (by omega));have h3:=MW T.ris (show i - 1<i by omega) (at' (i - 1) (by omega)) (at' i (by omega));omega
   · omega
def Pq(I a:Addr)(es:Array (Int×Value))(ep:Nat)(t:A0)(i:Nat)(h:Heap):Prop:=
 Na h I a (rawInt (MC t i)) i es.size ep∧h.get? a=some {cls:= .type "set",dict:=none,data:= .set es ep t}
set_option maxHeartbeats 1000000 in
theorem ziY{I a:Addr}{es:Array (Int×Value)}{ep:Nat}{t:A0}{i:Nat}{e:Int×Value}{Q:Option Value→Shared→Prop}
 (h0:Jc w=false) (hpl:t.plain=true) (T:Tab t es.size) (hl:t.led=!Jc w) (hne:a≠I) (hS:Pq I a es ep t i s.heap) (hv:es[i]?=some e)
 (hQ:∀h',Pq I a es ep t (i+1) h'→BO I s.heap h'→Q (some e.2) {s with heap:=h'}):
 wpAny (model prog w) A (pyNext (.ref I)) Q E s:=by
 have hf:=T.fits;obtain⟨hi,ha⟩:=hS;have hT:s.TypeIs (.ref I) "set_iterator":=⟨_,hi,rfl⟩;have hil:i<es.size:=(Bj.mp hv).1;unfold pyNext;refine Aa (Dj (Bn (name:=C6 "__next__") hT FS.slot_si_next
  (AT FS.slot_si_next hT FS.entry_si_next ?_ (FS.args_si_next _))))
 unfold Builtin.«set_iterator.__next__»;refine Aa (m:=slotArgs _ _ _) (Ac ?_);dsimp only;refine Aa (Fh hi rfl ?_);dsimp only;refine Aa (CZ ha rfl hf ?_);rw[if_neg (by simp)];show wpAny _ _ (setNext a (MC t i:Int).toNat (i:Int).toNat (ep:Int).toNat>>=_) _ _ _;rw[M_,AU,AU,AU];refine Aa (Aa (AN ha rfl hf (Aa (LD ?_))));rw[if_neg (by rw[h0];simp)];dsimp only;rw[if_neg (by simp[hpl])];rw[hl,h0];refine Aa (m:=ite _ _ _) ?_;rw[if_neg (by simp)];refine Ac ?_;have hp:t.place[i]?=some (t.place.getD i 0):=by
  have:i<t.place.size:=by rw[T.size];exact hil
  rw[AW,AL this];rfl
 rw[Vz T (AZ hil),hv,hp];obtain⟨eh,ev⟩:=e;dsimp only;refine Ac ?_;dsimp only;refine Aa (BU hi rfl (by simp) ?_);have hi1:=Mh (x:=ev) (k:=0) hi (·.setIfInBounds 0 (rawInt (t.place.getD i 0+1:Nat)));refine Aa (BU (s:={s with heap:=s.heap.update I (DU (·.setIfInBounds 0 (rawInt (t.place.getD i 0+1:Nat))))}) hi1 rfl (by simp) ?_)
 refine Ac ⟨_,rfl,Ac ?_⟩;have hi2:=Mh (x:=ev) (k:=0) (i:=i) (first:=rawInt (t.place.getD i 0+1:Nat)) (n:=es.size) (ep:=ep) (a:=a) (by exact hi1) (·.setIfInBounds 1 (rawInt (i+1:Nat)))
 refine hQ _ ⟨?_,?_⟩ ((AJ ..).trans (AJ ..))
 · exact hi2
 · rw[((AJ s.heap I _).trans (AJ _ I _)).2 a hne];exact ha
set_option maxHeartbeats 1000000 in
theorem ZZ{I a:Addr}{es:Array (Int×Value)}{ep:Nat}{t:A0}{Q:Option Value→Shared→Prop}(hh:A.handled=none)
 (h0:Jc w=false) (hpl:t.plain=true) (T:Tab t es.size) (hl:t.led=!Jc w) (hS:Pq I a es ep t es.size s.heap)
 (hQ:∀h',G1 I s.heap h'→Q none {s with heap:=h'}):
 wpAny (model prog w) A (pyNext (.ref I)) Q E s:=by
 have hf:=T.fits;obtain⟨hi,ha⟩:=hS;have hT:s.TypeIs (.ref I) "set_iterator":=⟨_,hi,rfl⟩;unfold pyNext;refine Aa (Dj (Bn (name:=C6 "__next__") hT FS.slot_si_next
  (AT FS.slot_si_next hT FS.entry_si_next ?_ (FS.args_si_next _))))
 unfold Builtin.«set_iterator.__next__»;refine Aa (m:=slotArgs _ _ _) (Ac ?_);dsimp only;refine Aa (Fh hi rfl ?_);dsimp only;refine Aa (CZ ha rfl hf ?_);rw[if_neg (by simp)];show wpAny _ _ (setNext a (MC t es.size:Int).toNat (es.size:Int).toNat (ep:Int).toNat>>=_) _ _ _;rw[M_,AU,AU,AU];refine Aa (Aa (AN ha rfl hf (Aa (LD ?_))));rw[if_neg (by rw[h0];simp)];dsimp only;rw[if_neg (by simp[hpl])];rw[hl,h0];refine Aa (m:=ite _ _ _) ?_;rw[if_neg (by simp)];refine Ac ?_;rw[Vz T (Af _),CH (Af _)];refine Ac ?_;show wpAny _ _ (setField (.ref I) 2 .none>>=_) _ _ _;refine Aa (BU hi rfl (by simp) ?_);exact OJ (s:=s) (I:=I) hh (AJ ..) hQ
theorem zg0{prog:Bw}{w:World}{I a:Addr}{es:Array (Int×Value)}{ep:Nat}{t:A0}(hh:A.handled=none)
 (h0:Jc w=false) (hpl:t.plain=true) (T:Tab t es.size) (hl:t.led=!Jc w) (hne:a≠I):
 Walks prog w A I [I,a] [I] es.size (λi v=>(es.toList.map (·.2))[i]?=some v) (Pq I a es ep t) where
 sub:=λb hb=>by simp at hb;simp[hb]
 frame:=λi h h' st hk=>⟨hk I (by simp) _ st.1,hk a (by simp) _ st.2⟩
 item:=λi s Q E hi st hQ=>by refine ziY h0 hpl T hl hne st (e:=es[i]) (AL hi) λh' st' sb=>?_;exact hQ _ h' s.toks (by rw[Am,A7,AL hi];rfl) st' λb o hb e=>sb.extBut b o (λh=>hb (by simp[h])) e
 done:=λs Q E st hQ=>ZZ hh h0 hpl T hl st λh' he'=>hQ h' s.toks λb o hb e=>he' b o (λh=>hb (by simp[h])) e
 self:=λ_ _ _ _ st hQ=>Vv st.1 hQ
end ST
open PySem PySem.Spec PyProof.Rows PySem.W
namespace ST
def KM(a b:PR):Bool:=decide (a.1<b.1) || (decide (a.1=b.1) && decide (a.2<b.2))
theorem Ny{a b:PR}:KM a b=true↔a.1<b.1∨(a.1=b.1∧a.2<b.2):=by unfold KM;simp
theorem SX(k:Nat→PR):KS.Ord λi j=>KM (k i) (k j):=by
 refine⟨λa b h=>?_,λa b c h1 h2=>?_⟩
 · rw[←Dc,Ny];rw[Ny] at h;omega
 · rw[←Dc,Ny] at*;omega
abbrev P3:=Addr×PR
def dP:P3:=(0,0,0)
def PrObj(h:Heap)(p:P3):Prop:=∃o n t u,h.get? p.1=some o∧o.cls= .type "tuple"∧o.data= .seq #[.int p.2.1 t,.int p.2.2 u] n
theorem PrObj.kept{h':Heap}{p:P3}(x:PrObj h p)(k:∀o,h.get? p.1=some o→h'.get? p.1=some o):PrObj h' p:=by obtain⟨o,n,t,u,e,r⟩:=x;exact⟨o,n,t,u,k _ e,r⟩
theorem PrObj.key{p:P3}(x:PrObj h p):IsTupleKey (Kt prog w) h (LW p.2) p.1:=by
 obtain⟨o,n,t,u,e,c,d⟩:=x;refine⟨o,_,n,e,c,d,?_⟩;have is:∀(i:Int)(t:Tok),(Kt prog w).is (.inl (some i)) (.int i t)=true:=λi t=>by simp[Kt,Np,Gw]
 exact .cons (is _ _) (.cons (is _ _) .nil)
theorem OL(I:Inv X pins σ H s){p:P3}(h:H p.1=some (.tup [.int p.2.1,.int p.2.2])):PrObj s.heap p:=by
 obtain⟨z,its,r,o,e,c,_,n,hd⟩:=(show ObjOk X.prog X.w H s.heap p.1 (.tup [.int p.2.1,.int p.2.2]) from I.hok _ _ h);cases r with
 | cons r1 r=>
  cases r with
  | cons r2 r=> cases r;obtain⟨t,rfl⟩:=r1;obtain⟨u,rfl⟩:=r2;exact⟨o,n,t,u,e,c,hd⟩
theorem UI:∀(ps:List P3),(∀p∈ps,PrObj h p)→∃fs:List Value,KatTups h (ps.map λp=>Value.ref p.1) fs∧fs.length=ps.length∧∀v∈fs,∃x t,v=Value.int x t
 | [],_=>⟨[],.nil,rfl,λv hv=>by simp at hv⟩
 | p::ps,hp=>by
  obtain⟨fs,h1,h2,h3⟩:=UI ps λq hq=>hp q (Aj _ hq);obtain⟨o,n,t,u,e,c,d⟩:=hp p Ai;refine⟨.int p.2.1 t::fs,.cons e c d rfl h1,by rw[AA,h2,AA],λv hv=>?_⟩;rcases Ar.mp hv with z | z
  · exact⟨_,_,z⟩
  · exact h3 v z
theorem XW{a b:Int}{t u:Tok}{Q:Bool→Shared→Prop}(h:Q (decide (a<b)) s):wpAny (model prog w) A (oneLt' false (.int a t) (.int b u)) Q E s:=by refine kat_one _ _ ?_;exact lt_int h
theorem Tj{ps:List P3}{Q:SortKind→Shared→Prop}(hp:∀p∈ps,PrObj s.heap p)(h0:0<ps.length)(q:Q (tuples' true) s):wpAny (model prog w) A (keyKind' (ps.map λp=>Value.ref p.1).toArray) Q E s:=by obtain⟨fs,f1,f2,f3⟩:=UI ps hp;exact kat_kind (T:= .type "int") f1 (by omega) (λv hv=>by obtain⟨x,t,rfl⟩:=f3 v hv;exact Looks.of_pure rfl) (by rfl) q
theorem Oj{p q:P3}{C:Bool→Shared→Prop}(hp:PrObj s.heap p)(hq:PrObj s.heap q)(h:C (KM p.2 q.2) s):wpAny (model prog w) A (keyLt' (tuples' true) (.ref p.1) (.ref q.1)) C (λ_ _=>False) s:=by
 obtain⟨o,n,t,u,e,c,d⟩:=hp;obtain⟨o',n',t',u',e',c',d'⟩:=hq;refine kat_lt e d e' d' (kat_cons (EF ?_));by_cases h1:p.2.1=q.2.1
 · rw[h1,beq_self_eq_true];refine kat_yes (kat_cons (EF ?_));by_cases h2:p.2.2=q.2.2
   · rw[h2,beq_self_eq_true];refine kat_yes (kat_nil ?_);have:KM p.2 q.2=false:=by rw[←Dc,Ny];omega
     rw[this] at h;simpa using h
   · rw[beq_eq_false_iff_ne.mpr h2];refine kat_no (XW ?_);have:KM p.2 q.2=decide (p.2.2<q.2.2):=by unfold KM;simp[h1]
     rw[this] at h;exact h
 · rw[beq_eq_false_iff_ne.mpr h1];refine kat_no (oneLt_int ?_);have:KM p.2 q.2=decide (p.2.1<q.2.1):=by unfold KM;simp[h1]
   rw[this] at h;exact h
def Kn(qs:List PR):Prop:=qs.Pairwise λa b=>KM b a=false
theorem SR{ps:List P3}{p:Array Nat}(ok:KS.Ok ps.length p)(srt:KS.Srt (λi j=>KM (ps.getD i dP).2 (ps.getD j dP).2) p ps.length):Kn ((p.toList.map λi=>ps.getD i dP).map (·.2)):=by
 have sz:=ok.size;unfold Kn;rw[List.pairwise_iff_getElem];intro i j hi hj hij;simp only[Ab,Ah] at hi hj;simp only[DQ,GR];have s1:=srt i j hij (by omega);have k1:KS.K p i=p[i]:=by show p.getD i 0=_;simp[FI,hi]
 have k2:KS.K p j=p[j]:=by show p.getD j 0=_;simp[FI,hj]
 rw[k1,k2] at s1;exact s1
theorem SY{ps:List P3}{p:Array Nat}(ok:KS.Ok ps.length p):M1 (ps.map λp=>Value.ref p.1) p=((p.toList.map λi=>ps.getD i dP).map λq=>Value.ref q.1).toArray:=by unfold M1;rw[BY];congr 1;refine List.map_congr_left λi hi=>?_;have hi':i<ps.length:=Be.mp (ok.perm.mem_iff.mp hi);rw[N6 _ dP _ _ hi'];rfl
theorem PU:∀qs:List P3,Vals (qs.map λq=>V.ref q.1) (qs.map λq=>Value.ref q.1)
 | []=> .nil
 | q::qs=> .cons rfl (PU qs)
theorem Ow{ps:List P3}(hi:i<ps.length):ps.getD i dP∈ps:=by
 have:ps.getD i dP=ps[i]:=by simp[hi]
 rw[this];exact FQ _
def Yc(K:Ae):List V→Hp→VK→Prop:=λxs H Q=>∃(a:Addr)(ps:List P3),xs=[.ref a]∧SqL K H a (ps.map λp=>V.ref p.1)∧(∀p∈ps,H p.1=some (.tup [.int p.2.1,.int p.2.2]))∧ps.length<64∧
 ∀(r:Addr)(qs:List P3),qs.Perm ps→Kn (qs.map (·.2))→H r=none→Q (.ref r) (IU H r (.lst (qs.map λq=>V.ref q.1)))
theorem call_sortedP:Ko X (.builtin "sorted") (Yc X.K):=by
 intro pins s σ H xs us Q I r h;obtain⟨a,ps,rfl,hq,hT,h64,q⟩:=h;obtain⟨u,rfl,rx⟩:=KC r;cases rx;obtain⟨its,rv,ht,hz⟩:=I.list hq;obtain rfl:=Rb rv;have hl:(ps.map λp=>Value.ref p.1).length=ps.length:=Ab _;have obj:∀p∈ps,PrObj s.heap p:=λp hp=>OL I (hT p hp);refine zjz (κ:=tuples' true) (lt:=λi j=>KM (ps.getD i dP).2 (ps.getD j dP).2) (SX _) ht.isList (by omega) (λh2 h' kp A E Q' q'=>?_) (λh' kp i j hi hj C hC=>?_) λp ok srt=>?_
 · exact Tj (s:={s with heap:=h'}) (λp hp=>(obj p hp).kept λo e=>kp _ _ e) (by omega) q'
 · rw[hl] at hi hj;rw[N6 _ dP _ _ hi,N6 _ dP _ _ hj];exact Oj (s:={s with heap:=h'}) ((obj _ (Ow hi)).kept λo e=>kp _ _ e) ((obj _ (Ow hj)).kept λo e=>kp _ _ e) hC
 · obtain⟨e,he⟩:=sortedAll_at s.heap (ps.map λp=>Value.ref p.1) (M1 (ps.map λp=>Value.ref p.1) p);have hn:H (s.heap.objs.size+1)=none:=I.hok.fresh (CD _);rw[hl] at ok srt;have pm:=UO dP ok;have hlen:=pm.length_eq;rw[SY ok] at he ⊢;refine⟨.ref (s.heap.objs.size+1),IU H (s.heap.objs.size+1) (.lst ((p.toList.map λi=>ps.getD i dP).map λq=>V.ref q.1)),I.laid (t':=s.toks) (λb o e=>sortedAll_old e) (CD _) ?_,rfl,q _ _ pm (SR ok srt) hn⟩;have hz':ps.length≤Az:=by rw[Ab] at hz;exact hz
   exact⟨by rw[Ab];omega,_,e,PU _,he⟩
end ST
open PySem PySem.Spec PyProof.Rows PySem.W
namespace ST
theorem ZN{es:Array (Int×Value)}{ep:Nat}{t:A0}{Q:Value→Shared→Prop}(A':Cw)(hh:A'.handled=none)(ho:s.heap.get? a=some {cls:= .type "set",dict:=none,data:= .set es ep t})
 (T:Tab t es.size) (hl:t.led=!Jc w) (hz:es.size≤Az)
 (hQ:∀(h':Heap)(d':Drawn)(I:Addr)(vs:List Value)(fp:List Addr)(St':Nat→Heap→Prop),vs.Perm (es.toList.map (·.2))→Walks prog w A' I fp [I] es.size (λi v=>vs[i]?=some v) St'→St' 0 h'→s.heap.objs.size≤I→(∀b∈fp,b=a∨s.heap.objs.size≤b)→
  (∀b o,s.heap.get? b=some o→h'.get? b=some o)→Q (.ref I) {s with heap:=h',drawn:=d'}):
 wpAny (model prog w) A (pyIter (.ref a)) Q E s:=by
 have hf:=T.fits;have hT:s.TypeIs (.ref a) "set":=⟨_,ho,rfl⟩;have haS:a<s.heap.objs.size:=Ag ho;refine FF hT DE (AT DE hT FS.entry_set_iter ?_ (Gh _));unfold Builtin.«frozenset.__iter__» Gi FU;refine Aa (Aa (m:=slotArgs _ _ _) (Ac (Ac ?_)));refine Aa (Aa (CZ ho rfl hf (Ac ?_)));dsimp only;rw[VT];refine Aa (Aa (AN ho rfl hf (Aa (LD (Ac ?_)))));by_cases hd:(!Jc w && (!t.plain && decide (es.size>1)))=true
 · rw[if_pos hd];have hd':Jc w=false∧1<es.size:=by
    simp only[AX,Dl,decide_eq_true_eq] at hd;exact⟨hd.1,hd.2.2⟩
   refine Aa (QI _ _ _ (by simp) λys d' hy=>?_);refine Aa (Eu ?_ (by rw[Ab,hy.length_eq,BF];exact hz));have ho2:(s.heap.push {cls:= .type "tuple",data:= .seq (ys.map λ(i:Nat)=>rawInt i).toArray}).get? a=some {cls:= .type "set",dict:=none,data:= .set es ep t}:=Ad _ ho;refine Aa (E2 (s:={s with drawn:=d',heap:=s.heap.push {cls:= .type "tuple",data:= .seq (ys.map λ(i:Nat)=>rawInt i).toArray}}) ho2 rfl hf ?_)
   refine Aa (Bo (Ac ⟨_,rfl,"set_iterator",_,⟨_,Al _ rfl,rfl⟩,FS.slot_si_next.lookup,?_⟩));have hO:SOrd w a es ep t _ _ _:= .drawn s.heap.objs.size ys hd'.1 hy hd'.2;have hne:a≠(s.heap.push {cls:= .type "tuple",data:= .seq (ys.map λ(i:Nat)=>rawInt i).toArray}).objs.size:=An (by rw[AS];exact Ca haS);have hob:∀p∈[(s.heap.objs.size,({cls:= .type "tuple",data:= .seq (ys.map λ(i:Nat)=>rawInt i).toArray}:Obj))],p.1≠(s.heap.push {cls:= .type "tuple",data:= .seq (ys.map λ(i:Nat)=>rawInt i).toArray}).objs.size:=λp hp=>by rw[Ak.mp hp,AS];exact An (BX _)
   refine hQ _ d' _ _ _ _ hO.perm (OO (prog:=prog) (A:=A') hh hO hf hl hne hob) ⟨Al _ rfl,Ad _ ho2,λp hp=>?_⟩ ?_ (λb hb=>?_) (λb o e=>Ad _ (Ad _ e))
   · rw[Ak.mp hp];exact Ad _ (Al _ rfl)
   · rw[AS];exact CD _
   · simp only[AC,DC,Ar,A6,or_false] at hb;rcases hb with rfl | rfl | rfl
     · exact .inr (by rw[AS];exact CD _)
     · exact .inl rfl
     · exact .inr (Af _)
 · rw[if_neg hd];refine Aa (Ac ?_);refine Aa (E2 ho rfl hf ?_);refine Aa (Bo (Ac ⟨_,rfl,"set_iterator",_,⟨_,Al _ rfl,rfl⟩,FS.slot_si_next.lookup,?_⟩));have hne:a≠s.heap.objs.size:=An haS;have fpk:∀b∈[s.heap.objs.size,a],b=a∨s.heap.objs.size≤b:=λb hb=>by
    simp only[Ar,A6,or_false] at hb;rcases hb with rfl | rfl
    · exact .inr (Af _)
    · exact .inl rfl
   cases hb:Jc w with
   | true=> have hO:SOrd w a es ep t _ _ _:= .text hb;exact hQ _ s.drawn _ _ _ _ hO.perm (OO (prog:=prog) (A:=A') hh hO hf hl hne (λp hp=>nomatch hp)) ⟨Al _ rfl,Ad _ ho,λp hp=>nomatch hp⟩ (Af _) fpk (λb o e=>Ad _ e)
   | false=>
    cases hp:t.plain with
    | true=>exact hQ _ s.drawn _ _ _ _ (Ds _) (zg0 (prog:=prog) (A:=A') hh hb hp T hl hne) ⟨Al _ rfl,Ad _ ho⟩ (Af _) fpk (λb o e=>Ad _ e)
    | false=> have hO:SOrd w a es ep t _ _ _:= .few hb (by simp[hb,hp] at hd;exact hd);exact hQ _ s.drawn _ _ _ _ hO.perm (OO (prog:=prog) (A:=A') hh hO hf hl hne (λp hp=>nomatch hp)) ⟨Al _ rfl,Ad _ ho,λp hp=>nomatch hp⟩ (Af _) fpk (λb o e=>Ad _ e)
theorem zgL{es:Array (Int×Value)}{ep:Nat}{t:A0}{Q:List Value→Shared→Prop}(hh:A.handled=none)(ho:s.heap.get? a=some {cls:= .type "set",dict:=none,data:= .set es ep t})(T:Tab t es.size)(hled:t.led=!Jc w)(hz:es.size≤Az)
 (hQ:∀h' d' tk vs,vs.Perm (es.toList.map (·.2))→s.heap.objs.size<h'.objs.size→(∀b o,s.heap.get? b=some o→h'.get? b=some o)→Q vs {s with heap:=h',drawn:=d',toks:=tk}):
 wpAny (model prog w) A (collect (.ref a)) Q E s:=by
 have haS:a<s.heap.objs.size:=Ag ho;unfold collect;refine Aa (Fg (Br Fl ?_));rw[AY Fm _];show wpAny _ A.in1 (newList []>>=λl=>again (.builtin "list.__iadd__" ⟨[l,.ref a],[]⟩)) _ _ s;refine Aa (Bo ?_);refine Ac ⟨BW Dz _,Br Gj ?_⟩;rw[AY Dz _];generalize hh1:s.heap.push {cls:= .type "list",data:= .seq ([]:List Value).toArray}=h1;have hk1:∀b o,s.heap.get? b=some o→h1.get? b=some o:=λb o e=>by rw[←hh1];exact Ad _ e
 have hS1:h1.get? s.heap.objs.size=some {cls:= .type "list",data:= .seq ([]:List Value).toArray}:=by rw[←hh1];exact Al _ rfl
 have hz1:s.heap.objs.size<h1.objs.size:=Ag hS1;show wpAny _ A.in1 (BI (.ref s.heap.objs.size) (.ref a) (.ref s.heap.objs.size)) _ _ {s with heap:=h1}
 unfold BI;have hT1:EC {s with heap:=h1} (.ref a) "set":=⟨_,hk1 _ _ ho,rfl⟩
 refine Aa (C7 hT1 ?_);have e1:CB (.ref s.heap.objs.size) (.ref a)=false:=by unfold CB;exact beq_eq_false_iff_ne.mpr (Bi (An haS))
 rw[if_neg (by rw[e1];decide)];refine Aa (ZN (s:={s with heap:=h1}) A.in1 (by simpa using hh) (hk1 _ _ ho) T hled hz λh2 d2 I vs fp St' hperm W0 st0 hI hfp hk2=>?_)
 refine Aa (AF (V8 (s:={s with heap:=h2,drawn:=d2}) ⟨_,hk2 _ _ (hk1 _ _ ho),rfl⟩ ?_))
 rw[if_pos (by decide)];refine Aa (Cm ?_);have hS2:h2.get? s.heap.objs.size=some {cls:= .type "list",data:= .seq ([]:List Value).toArray}:=hk2 _ _ hS1;refine Aa ?_;show wpAny _ A.in1 (updateSeq s.heap.objs.size (·.push .none)>>=λ_=>updateSeq s.heap.objs.size (·.pop)) _ _ {s with heap:=h2,drawn:=d2}
 refine Aa (CT hS2 rfl ?_);have hS3:=Bz (A_ (·.push Value.none)) hS2 rfl;refine CT hS3 rfl ?_;have hS4:=Bz (A_ (·.pop)) hS3 rfl;have oth:∀b o,b≠s.heap.objs.size→h2.get? b=some o→((h2.update s.heap.objs.size (A_ (·.push Value.none))).update s.heap.objs.size (A_ (·.pop))).get? b=some o:=
  λb o hb e=>(BG _ _ (Bi hb)).trans ((BG _ _ (Bi hb)).trans e)
 have hI1:h1.objs.size≤I:=hI;have hIne:I≠s.heap.objs.size:=Bi (An (A8 hz1 hI1));have fpne:∀b∈fp,b≠s.heap.objs.size:=λb hb=>by
  rcases hfp b hb with rfl | z
  · exact An haS
  · have z:h1.objs.size≤b:=z;exact AV (A8 hz1 z)
 have W:=W0.toS;have hlen:vs.length=es.size:=by rw[hperm.length_eq,Ab,Ah]
 refine Ac ⟨BW Cj _,codeAny_extend_loopS W hz s.heap.objs.size (λhm=>fpne _ hm rfl) _ es.size 0 _ _ _ rfl (Bc _)
  (W0.frame 0 _ _ st0 λb hb o e=>oth b o (fpne b hb) e) hS4 (ItemsOf.nil _) λs' acc' c' hm hS' hacc=>?_⟩
 show wpAny _ A (load s.heap.objs.size>>=_) _ _ s';refine Aa (wpAny_load hS' ?_);have hav:acc'.toList=vs:=by
  apply List.ext_getElem?;intro j;by_cases hj:j<es.size
  · have hj':j<acc'.size:=by rw[hacc.1];exact hj
    have h1:acc'.toList[j]?=some acc'[j]:=by rw[A7];exact AL hj'
    rw[h1];exact(hacc.2 j _ (AL hj')).symm
  · rw[C5 (by rw[Ah,hacc.1];omega),C5 (by omega)]
 obtain⟨h',g',d',tk',os'⟩:=s';have eg:g'=s.gens:=hm.gens;have ed:d'=d2:=hm.drawn;have eo:os'=s.os:=hm.os;subst eg;subst ed;subst eo;refine Ac ?_;rw[hav];refine hQ h' d' tk' vs hperm (Ag hS') λb o e=>?_;have hb:b<s.heap.objs.size:=Ag e;refine hm.heap b o ?_ (oth b o (An hb) (hk2 _ _ (hk1 _ _ e)));simp only[Ar,A6,or_false,not_or];exact⟨An hb,An (A8 hb (AM (AZ hz1) hI1))⟩
theorem zg6{ks:List P3}{Q:Value→Shared→Prop}(hh:A.handled=none)(T:PTab prog w s.heap a ks)(hp:∀p∈ks,PrObj s.heap p)(h64:ks.length<64)
 (h:∀(p:Addr)(h':Heap)(d':Drawn)(tk:Nat)(qs:List P3)(e:Nat),qs.Perm ks→Kn (qs.map (·.2))→s.heap.objs.size≤p→h'.get? p=some (BD "list" (qs.map λq=>Value.ref q.1).toArray e)→
  (∀b o,s.heap.get? b=some o→h'.get? b=some o)→Q (.ref p) {s with heap:=h',drawn:=d',toks:=tk}):
 wpAny (model prog w) A (call (.builtin "sorted") [.ref a]) Q E s:=by
 obtain⟨es,ep,t,ho,R,he,hled,hnd⟩:=T;have hz:es.size=ks.length:=by rw[←Ah,he,Ab]
 refine Eb kind_sorted plain_sorted entry_sorted (args_sorted1 _) ?_;unfold FV;refine Aa (m:=checkCount "sorted" 1 1 _) (Ac ?_);refine Aa (zgL (by simpa using hh) ho R.tab hled (by rw[sizeLine_eq];omega) λh1 d1 tk1 vs hv hz1 hk=>?_);have em:es.toList.map (·.2)=ks.map λp=>Value.ref p.1:=by rw[he,BY];rfl
 rw[em] at hv;obtain⟨ps,pp,rfl⟩:=OP hv ks rfl;have lp:=pp.length_eq;have hl:(ps.map λp=>Value.ref p.1).length=ps.length:=Ab _;refine Aa (Fx ?_ (by rw[hl,sizeLine_eq];omega));have hoL:(h1.push (BD "list" (ps.map λp=>Value.ref p.1).toArray 0)).get? h1.objs.size=some (BD "list" (ps.map λp=>Value.ref p.1).toArray 0):=Al _ rfl;have obj:∀h':Heap,(∀b o,b≠h1.objs.size→(h1.push (BD "list" (ps.map λp=>Value.ref p.1).toArray 0)).get? b=some o→h'.get? b=some o)→∀p∈ps,PrObj h' p:=λh' kp p hm=>(hp p (pp.mem_iff.mp hm)).kept λo e=>kp _ _ (An (Ag (hk _ _ e))) (Ad _ (hk _ _ e));show wpAny _ _ (holding _ _>>=_) _ _ {s with heap:=h1.push (BD "list" (ps.map λp=>Value.ref p.1).toArray 0),drawn:=d1,toks:=tk1}
 refine Aa (AF (AT GG ⟨_,hoL,rfl⟩ Gu (Wq (κ:=tuples' true) (lt:=λi j=>KM (ps.getD i dP).2 (ps.getD j dP).2) (SX _) hoL (by omega) (λh2 h' kp Q' q'=>?_) (λh' kp i j hi hj C hC=>?_) λp ok srt=>⟨_,rfl,?_⟩) (args_list_sort _)))
 · exact Tj (s:={s with heap:=h',drawn:=d1,toks:=tk1}) (obj h' kp) (by omega) q'
 · rw[hl] at hi hj;rw[N6 _ dP _ _ hi,N6 _ dP _ _ hj];exact Oj (s:={s with heap:=h',drawn:=d1,toks:=tk1}) (obj h' kp _ (Ow hi)) (obj h' kp _ (Ow hj)) hC
 · rw[hl] at ok srt;obtain⟨e,he'⟩:=sortedHeap_at (out:=M1 (ps.map λp=>Value.ref p.1) p) hoL;rw[SY ok] at he' ⊢;refine Ac ⟨_,rfl,h h1.objs.size _ d1 tk1 _ e ((UO dP ok).trans pp) (SR ok srt) (AZ hz1) he' λb o eb=>?_⟩;have hb:b<h1.objs.size:=Ag (hk b o eb);rw[sortedHeap_old (An hb) (by rw[size_push'];exact Ca hb)];exact Ad _ (hk b o eb)
end ST
open PySem PySem.Spec PyProof.Rows ST
theorem Qr{ks:List P3}(T:PTab prog w h a ks):∃o,h.get? a=some o∧∀v,o.data≠ .cell v:=by obtain⟨es,ep,t,ho,_⟩:=T;exact⟨_,ho,λv z=>by cases z⟩
theorem zjU{ks:List P3}(T:PTab prog w s.heap a ks):s.TypeIs (.ref a) "set":=by obtain⟨es,ep,t,ho,_⟩:=T;exact⟨_,ho,rfl⟩
theorem zfR{ks:List P3}{k:PR}{Q:Value→Shared→Prop}(hu:A.units+20<cLine)(T:PTab prog w s.heap a ks)(hks:∀x∈ks,PrObj s.heap x)(hk:PrObj s.heap (b,k))(hl:ks.length<70)
 (h:∀h' ks',BO a s.heap h'→PTab prog w h' a ks'→ks'.Perm (if k∈ks.map (·.2) then ks else ks++[(b,k)])→Q .none {s with heap:=h',toks:=s.toks+3}):
 wpAny (model prog w) A (call (.builtin "set.add") [.ref a,.ref b]) Q E s:=by
 refine AT PySem.F.slot_set_add (zjU T) PySem.F.entry_set_add ?_ (PySem.F.args_set_add_2 _ _);unfold Builtin.«set.add» Builtin.Frozenset.oneOther;simp only[List.isEmpty_nil,bind_assoc];unfold Builtin.Frozenset.addrOf setAdd;refine Aa (Ac ?_)
 try dsimp only
 refine Aa (Ac ?_)
 try dsimp only
 refine Aa ?_;refine AF ?_;refine Aa (wpAny_pyHash_tuple (knd:=Kt prog w) (by simp only[C_];omega) hk.key ?_);refine Y_ (s:={s with toks:=s.toks+3}) (by simp only[C_];omega) T (λx hx=>(hks x hx).key) hk.key hl λh' ks' c sb T' pm=>?_
 show wpAny _ _ (ret Value.none) _ _ _;exact Ac ⟨_,rfl,h h' ks' sb T' pm⟩
def Uk(J:It)(g:TG)(tc:TT)(te:TE)(σ:St)(ks:List P3)(H:Hp)(M:St→List P3→Hp→Prop):Prop:=
 ∃W:Nat→Nat→St→List P3→Hp→Prop,(∃m,W 0 m σ ks H)∧∀i m σ' zs H,W i m σ' zs H→
  ((J.stop i H∧M σ' zs H)∨(J.go i H∧zs.length<70∧∀x H',J.yld i H x H'→g x σ' H' λσ2 H2=>tc σ2 H2 λb H3=>
    if b=true then te σ2 H3 λy H4=>∃(a:Addr)(k:PR),y= .ref a∧H4 a=some (.tup [.int k.1,.int k.2])∧(∀z∈zs,H4 z.1=some (.tup [.int z.2.1,.int z.2.2]))∧∀zs':List P3,zs'.Perm (if k∈zs.map (·.2) then zs else zs++[(a,k)])→∃m',m'<m∧W (i+1) m' σ2 zs' H4
    else ∃m',m'<m∧W (i+1) m' σ2 zs H3))
def Qb(J:It)(js:JF)(g:TG)(tc:TT)(wi1:TI)(g1:TG)(tc1:TT)(te:TE)(σ:St)(H:Hp)(M:List P3→Hp→Prop):Prop:=
 ∃W:Nat→Nat→St→List P3→Hp→Prop,(∃m,W 0 m (Kh js σ) [] H)∧∀i m σ' ys H,W i m σ' ys H→
  ((J.stop i H∧M ys H)∨(J.go i H∧∀x H',J.yld i H x H'→g x σ' H' λσ2 H2=>tc σ2 H2 λb H3=>
    if b=true then wi1 σ2 H3 λJ1 H4=>Uk J1 g1 tc1 te σ2 ys H4 λσ3 zs H5=>∃m',m'<m∧W (i+1) m' σ3 zs H5
    else ∃m',m'<m∧W (i+1) m' σ2 ys H3))
section
variable{p:Addr}{ks:List P3}
theorem V9(I:Inv X pins σ H s)(f:Je X pins H p)(T:PTab X.prog X.w s.heap p ks):Inv X (pins++Kf [p] s.heap) σ H s:=
 I.pinned (λb hb=>by rw[Ak.mp hb];exact f) (λb hb=>by rw[Ak.mp hb];exact Qr T)
theorem OF{s':Shared}{σ':St}{H':Hp}(I:Inv X (pins++Kf [p] s.heap) σ' H' s')(f:Je X pins H p)(T:PTab X.prog X.w s.heap p ks):Inv X pins σ' H' s'∧Je X pins H' p∧PTab X.prog X.w s'.heap p ks:=by obtain⟨o,ho,_⟩:=Qr T;have hp:=I.pin (p,o) (Ao _ (Ao _ (KL (Ak.mpr rfl) ho)));exact⟨I.unpinned,⟨hp.2.1,f.2⟩,T.kept λo' e=>by rw[ho] at e;cases e;exact hp.1⟩
theorem ZI{elt t0 i0 t1 i1:Expr}{f0 f1:List Expr}{scope:Scope}{pos:Pos}{g1:TG}{tc1:TT}{te:TE}{J:It}{it:Addr}{fp:List Addr}{tn:Nat→Heap→Prop}{M:St→List P3→Hp→Prop}
 (hr:Kz X) (hc:X.calm=true) (hx:X.xe=λ_ _=>False) (hg:PG X t1 g1) (ht:J5 X f1 tc1) (he:PE X elt te) (I:Inv X pins σ H s) (T:Turn X.prog X.w X.K t1 J fp it tn) (st:tn 0 s.heap) (hf:∀b∈fp,Je X pins H b) (hnp:p ∉ fp) (fp0:Je X pins H p) (Tx:PTab X.prog X.w s.heap p ks) (hw:Uk J g1 tc1 te σ ks H M):
 codeAny (model X.prog X.w) X.A (.compStart (.SetComp elt [⟨t0,i0,f0,0⟩,⟨t1,i1,f1,0⟩] scope pos) 1 (.ref it) (.ref p) X.env) (λr s'=>r= .ok .next∧∃σ' zs H',Inv X pins σ' H' s'∧Je X pins H' p∧PTab X.prog X.w s'.heap p zs∧M σ' zs H') s:=by
 obtain⟨W,⟨m0,w0⟩,turn⟩:=hw;have nep:∀b∈fp,b≠p:=λb hb z=>hnp (z ▸ hb);have stat:∀{H':Hp}{h:Heap},(∀b∈fp,H' b=none)→∀b∈fp,Je X (pins++Kf [p] h) H' b:=λhn b hb=>Uj ⟨hn b hb,(hf b hb).2⟩ (nep b hb);have loop:codeAny (model X.prog X.w) X.A (.compLoop (.SetComp elt [⟨t0,i0,f0,0⟩,⟨t1,i1,f1,0⟩] scope pos) 1 (.ref it) (.ref p) X.env) (λr s'=>r= .ok .next∧∃σ' zs H',Inv X pins σ' H' s'∧Je X pins H' p∧PTab X.prog X.w s'.heap p zs∧M σ' zs H') s:=by
  refine Y3 (λn s'=>∃i σ' ys H',Inv X pins σ' H' s'∧tn i s'.heap∧(∀b∈fp,H' b=none)∧Je X pins H' p∧PTab X.prog X.w s'.heap p ys∧W i n σ' ys H') ?_ m0 ⟨0,σ,ks,H,I,st,λb hb=>(hf b hb).1,fp0,Tx,w0⟩;rintro n s5 ⟨i,σ5,zs,H5,I5,st5,fr5,fp5,T5,w5⟩;have I5p:=V9 I5 fp5 T5;rcases turn i n σ5 zs H5 w5 with⟨stop,qn⟩ | ⟨go,hz,step⟩
  · refine I_ (T.done X rfl rfl rfl hc i _ s5 σ5 H5 (λ_ _=>False) I5p (stat fr5) st5 stop) λr s6 ⟨hr,I6⟩=>?_;subst hr;obtain⟨I6',f6,T6⟩:=OF I6 fp5 T5;exact⟨rfl,σ5,zs,H5,I6',f6,T6,qn⟩
  · refine I_ (T.item X rfl rfl rfl hc i _ s5 σ5 H5 (λ_ _=>False) I5p (stat fr5) st5 go) λr s6 ⟨u,hr,h6⟩=>?_;subst hr;refine I_ h6 λ_ s7 ⟨x,H7,I7,r7,y7,st7,fr7⟩=>?_;have I7':=I7.pinned (stat fr7) (T.obj _ _ st7);have G:=hg _ s7 σ5 H7 x u _ I7' r7 (step x H7 y7);rw[hx] at G;refine I_ G λ_ s8 ⟨σ8,H8,I8,q8⟩=>?_;have Tt:=ht _ s8 σ8 H8 _ I8 q8;rw[hx] at Tt;refine I_ Tt λb s9 ⟨H9,I9,q9⟩=>?_;have again:∀{s':Shared}{H':Hp},Inv X (pins++Kf [p] s5.heap++Kf fp s7.heap) σ8 H' s'→tn (i+1) s'.heap∧(∀b∈fp,H' b=none)∧Inv X pins σ8 H' s'∧Je X pins H' p∧PTab X.prog X.w s'.heap p zs:=λ{s' H'}I'=>by
     obtain⟨a1,a2,a3⟩:=OF I'.unpinned fp5 T5;refine⟨T.keep _ _ _ st7 λb hb o e=>(I'.pin (b,o) (Ao _ (Ao _ (KL hb e)))).1,λb hb=>?_,a1,a2,a3⟩;obtain⟨o,e,d⟩:=T.obj _ _ st7 b hb;exact(I'.pin (b,o) (Ao _ (Ao _ (KL hb e)))).2.1
    cases b with
    | false=> obtain⟨m',hm,w'⟩:=q9;obtain⟨a1,a2,a3,a4,a5⟩:=again I9;exact⟨m',hm,i+1,σ8,zs,H9,a3,a1,a2,a4,a5,w'⟩
    | true=> have Ee:=he _ s9 σ8 H9 _ I9 q9;rw[hx] at Ee;show wpAny _ _ _ _ _ _;refine I_ Ee λxv s10 ⟨y,H10,I10,r10,ka,k,hk,hka,hzs,q10⟩=>?_;subst hk;obtain rfl:=(show xv=Value.ref ka from r10);obtain⟨a1,a2,a3,a4,a5⟩:=again I10;refine zfR (by have:=hr;simp only[Kz] at this;omega) a5 (λz hz=>OL a3 (hzs z hz)) (OL (p:=(ka,k)) a3 hka) hz λh' zs' sb T' pm=>?_;obtain⟨m',hm,w'⟩:=q10 zs' pm;obtain⟨g0,g1',g2,g3,g4,g5⟩:=a4;refine⟨m',hm,i+1,σ8,zs',H10,a3.turned (t':=s10.toks+3) (λb o hb e=>(sb.2 b hb).trans e) g0 g1' g3 g4 g5,T.keep _ _ _ a1 λb hb o e=>(sb.2 b (nep b hb)).trans e,a2,⟨g0,g1',g2,g3,g4,g5⟩,T',w'⟩
 exact U7 1 (.inr rfl) loop (T.self _ 0 _ _ _ st loop)
end
section
variable{tg iter tg1 iter1 elt:Expr}{ifs ifs1:List Expr}{wi wi1:TI}{js:JF}{g g1:TG}{tc tc1:TT}{te:TE}{N':List Str}{pos:Pos}
theorem zjq{pins:List (Addr×Obj)}{σ:St}{H:Hp}{s:Shared}{E:Value→Shared→Prop}{M:List P3→Hp→Prop}{J:It}{it:Addr}{fp:List Addr}{tn:Nat→Heap→Prop}{cl:List (Str×Addr)}
 (hr:Kz X) (hc:X.calm=true) (ok:CapOk X N' js scope) (hs1:∀(e:Env)x,B_ iter1 e x=pure x)
 (h2:∀x c,cl.lookup x=some c→X.env.cells.lookup x=some c) (h3:∀p∈scope.names,p.2= .free→(cl.lookup p.1).isSome=true)
 (hg:∀cl C s₀ H₀ ex,PG (J4 X N' scope cl C s₀ H₀ ex) tg g) (ht:∀cl C s₀ H₀ ex,J5 (J4 X N' scope cl C s₀ H₀ ex) ifs tc) (hi1:∀cl C s₀ H₀ ex,PI (J4 X N' scope cl C s₀ H₀ ex) tg1 iter1 wi1) (hg1:∀cl C s₀ H₀ ex,PG (J4 X N' scope cl C s₀ H₀ ex) tg1 g1) (ht1:∀cl C s₀ H₀ ex,J5 (J4 X N' scope cl C s₀ H₀ ex) ifs1 tc1) (he:∀cl C s₀ H₀ ex,PE (J4 X N' scope cl C s₀ H₀ ex) elt te)
 (I:Inv X pins σ H s) (T:Turn X.prog X.w X.K tg J fp it tn) (st:tn 0 s.heap) (hf:∀b∈fp,Je X pins H b)
 (hw:Qb J js g tc wi1 g1 tc1 te σ H M):
 wpAny (model X.prog X.w) X.A (newSet (.type "set")) (λacc s₃=>wpAny (model X.prog X.w) X.A (newFunctionEnv scope X.env.globals cl [] X.env.qual none .none (some X.env)) (λcenv s₄=>
  codeAny (model X.prog X.w) X.A (.compStart (.SetComp elt [⟨tg,iter,ifs,0⟩,⟨tg1,iter1,ifs1,0⟩] scope pos) 0 (.ref it) acc {cenv with scope:=relabel scope X.env})
   (λr s'=>r= .ok .next∧(∃m,s'.heap.Ns cenv.locals m)∧∃p ks H',acc= .ref p∧p≠cenv.locals∧Inv X pins σ H' s'∧Je X pins H' cenv.locals∧PTab X.prog X.w s'.heap p ks∧M ks H') s₄) E s₃) E s:=by
 have objs:=T.obj _ _ st;refine zj9 ?_;obtain⟨W,⟨m0,w0⟩,turn⟩:=hw;have fpP:Je X pins H s.heap.objs.size:=I.fpOk (Af _) (I.hok.fresh (Af _));have kp:∀b u,s.heap.get? b=some u→(s.heap.push {cls:= .type "set",dict:=none,data:= .set #[] 0 (.fresh 0 0 (!Jc X.w))}).get? b=some u:=λb u e=>Ad _ e;have T3:PTab X.prog X.w (s.heap.push {cls:= .type "set",dict:=none,data:= .set #[] 0 (.fresh 0 0 (!Jc X.w))}) s.heap.objs.size []:=ziK (Al s.heap rfl);have lt0:s.heap.objs.size<(s.heap.push {cls:= .type "set",dict:=none,data:= .set #[] 0 (.fresh 0 0 (!Jc X.w))}).objs.size:=Ag (Al s.heap (o:={cls:= .type "set",dict:=none,data:= .set #[] 0 (.fresh 0 0 (!Jc X.w))}) rfl);have I3:Inv X pins σ H {s with heap:=s.heap.push {cls:= .type "set",dict:=none,data:= .set #[] 0 (.fresh 0 0 (!Jc X.w))}}:=I.kept (t':=s.toks) kp
 generalize hp:s.heap.objs.size=p at*;have fne:∀b∈fp,b≠p:=λb hb=>by obtain⟨o,e,_⟩:=objs b hb;have:=Ag e;rw[←hp];exact An this
 have hf3:∀b∈p::fp,Je X pins H b:=λb hb=>(Ar.mp hb).elim (λz=>z ▸ fpP) (hf b);have st3:tn 0 (s.heap.push {cls:= .type "set",dict:=none,data:= .set #[] 0 (.fresh 0 0 (!Jc X.w))}):=T.keep _ _ _ st λb _ o e=>kp b o e;have lt3:∀b∈p::fp,b<(s.heap.push {cls:= .type "set",dict:=none,data:= .set #[] 0 (.fresh 0 0 (!Jc X.w))}).objs.size:=λb hb=>by
  rcases Ar.mp hb with rfl | hb
  · exact lt0
  · obtain⟨o,e,_⟩:=objs b hb;exact Ag (kp b o e)
 generalize hs3:({s with heap:=s.heap.push {cls:= .type "set",dict:=none,data:= .set #[] 0 (.fresh 0 0 (!Jc X.w))}}:Shared)=s3 at*
 have eh:s.heap.push {cls:= .type "set",dict:=none,data:= .set #[] 0 (.fresh 0 0 (!Jc X.w))}=s3.heap:=by rw[←hs3]
 rw[eh] at st3 lt3 T3 lt0;refine OZ ok.cells λcl h₁ hns₁ k4 oc=>?_;have I4:=OG (cl:=cl) (h₁:=h₁) (t':=s3.toks+([]:List (Str×Value)).length) ok I3 h2 h3 hf3 lt3 k4 hns₁ oc;have T4:PTab X.prog X.w h₁ p []:=T3.kept λo e=>k4 p o e;have st4:tn 0 h₁:=T.keep _ _ _ st3 λb _ o e=>k4 b o e;generalize hX:J4 X N' scope cl s3.heap.objs.size s3 H (p::fp)=X' at I4;have hg':PG X' tg g:=by rw[←hX];exact hg _ _ _ _ _
 have ht':J5 X' ifs tc:=by rw[←hX];exact ht _ _ _ _ _
 have he':PE X' elt te:=by rw[←hX];exact he _ _ _ _ _
 have hi1':PI X' tg1 iter1 wi1:=by rw[←hX];exact hi1 _ _ _ _ _
 have hg1':PG X' tg1 g1:=by rw[←hX];exact hg1 _ _ _ _ _
 have ht1':J5 X' ifs1 tc1:=by rw[←hX];exact ht1 _ _ _ _ _
 have hs1':∀x,B_ iter1 (compEnvC scope cl s3.heap.objs.size X.env) x=pure x:=hs1 _;have eP:X'.prog=X.prog:=by rw[←hX];rfl
 have ew:X'.w=X.w:=by rw[←hX];rfl
 have eK:X'.K=X.K:=by rw[←hX];rfl
 have ec:X'.calm=true:=by rw[←hX];exact hc
 have eA:X'.A=X.A:=by rw[←hX];rfl
 have hr':Kz X':=by unfold Kz;rw[eA];exact hr
 have ex:X'.xe=λ_ _=>False:=by rw[←hX];rfl
 have eE:X'.env=compEnvC scope cl s3.heap.objs.size X.env:=by rw[←hX];rfl
 have eEx:X'.ex=p::fp:=by rw[←hX];rfl
 have eN:X'.pn=[]:=by rw[←hX];rfl
 have stat:∀{H':Hp}{b:Addr},b∈p::fp→H' b=none→Je X' [] H' b:=λ{H' b}hb hn=>by have okc:=I4.ok;refine⟨hn,(okc.exf b (by rw[eEx];exact hb)).1,okc.exfs b (by rw[eEx];exact hb),.inl (by rw[eEx];exact hb),(okc.exf b (by rw[eEx];exact hb)).2,λq hq=>?_⟩;rw[eN] at hq;cases hq
 have loop:∀s₄:Shared,s₄={s3 with heap:=h₁,toks:=s3.toks+([]:List (Str×Value)).length}→
  codeAny (model X.prog X.w) X.A (.compLoop (.SetComp elt [⟨tg,iter,ifs,0⟩,⟨tg1,iter1,ifs1,0⟩] scope pos) 0 (.ref it) (.ref p) (compEnvC scope cl s3.heap.objs.size X.env))
   (λr s'=>r= .ok .next∧(∃m,s'.heap.Ns s3.heap.objs.size m)∧∃p' ks H',Value.ref p= .ref p'∧p'≠s3.heap.objs.size∧Inv X pins σ H' s'∧Je X pins H' s3.heap.objs.size∧PTab X.prog X.w s'.heap p' ks∧M ks H') s₄:=by
  rintro s₄ rfl;have wpin:∀{h:Heap}{H':Hp},(∀b∈fp,H' b=none)→∀b∈fp,Je X' ([]++Kf [p] h) H' b:=λ{h H'}hn b hb=>Uj (stat (Aj _ hb) (hn b hb)) (fne b hb);refine Y2 hs1' (λn s'=>∃i σ' ys H',Inv X' [] σ' H' s'∧tn i s'.heap∧(∀b∈fp,H' b=none)∧Je X' [] H' p∧PTab X'.prog X'.w s'.heap p ys∧W i n σ' ys H') ?_ m0 ⟨0,_,[],_,I4,st4,λb hb=>(hf b hb).1,stat Ai fpP.1,by rw[eP,ew];exact T4,w0⟩;rintro n s5 ⟨i,σ5,ys,H5,I5,st5,fr5,fp5,T5,w5⟩;have I5p:=V9 I5 fp5 T5;rcases turn i n σ5 ys H5 w5 with⟨stop,qn⟩ | ⟨go,step⟩
  · have D:=T.done X' eP ew eK ec i _ s5 σ5 H5 (λ_ _=>False) I5p (wpin fr5) st5 stop;rw[eA] at D;refine I_ D λr s6 ⟨hr,I6p⟩=>?_;subst hr;obtain⟨I6,f6,T6⟩:=OF I6p fp5 T5;refine⟨rfl,?_,p,ys,H5,rfl,An lt0,?_,?_,by rw[eP,ew] at T6;exact T6,qn⟩
    · obtain⟨m,hm,_⟩:=I6.loc;rw[eE] at hm;exact⟨m,hm⟩
    · have b6:=I6.base;have ho:=I6.os;have hk:=I6.hok;have hb:=I6.bare;subst hX;exact I3.call' (ch:=p::fp) ho b6 hk hb λb hb'=>⟨(hf3 b hb').2.2.2.1,(hf3 b hb').2.1,(hf3 b hb').2.2.2.2.1,(hf3 b hb').2.2.2.2.2⟩
    · have fr:=I6.free;rw[eE] at fr;exact I3.fpOk (Af _) fr
  · have D:=T.item X' eP ew eK ec i _ s5 σ5 H5 (λ_ _=>False) I5p (wpin fr5) st5 go;rw[eA] at D;refine I_ D λr s6 ⟨u,hr,h6⟩=>?_;subst hr;refine I_ h6 λ_ s7 ⟨x,H7,I7,r7,y7,st7,fr7⟩=>?_;have I7':=I7.pinned (wpin fr7) (T.obj _ _ st7);have G:=hg' _ s7 σ5 H7 x u _ I7' r7 (step x H7 y7);rw[eP,ew,eA,ex,eE] at G;refine I_ G λ_ s8 ⟨σ8,H8,I8,q8⟩=>?_;have Tt:=ht' _ s8 σ8 H8 _ I8 q8;rw[eP,ew,eA,ex,eE] at Tt;refine I_ Tt λb s9 ⟨H9,I9,q9⟩=>?_;have again:∀{s':Shared}{σ8:St}{ys':List P3}{H':Hp},Inv X' ([]++Kf fp s7.heap) σ8 H' s'→Je X' [] H' p→PTab X'.prog X'.w s'.heap p ys'→(∃m',m'<n∧W (i+1) m' σ8 ys' H')→
     ∃m,m<n∧∃i σ' ys H',Inv X' [] σ' H' s'∧tn i s'.heap∧(∀b∈fp,H' b=none)∧Je X' [] H' p∧PTab X'.prog X'.w s'.heap p ys∧W i m σ' ys H':=λ{s' σ8 ys' H'}I' f' T' ⟨m',hm,w'⟩=>by
     refine⟨m',hm,i+1,σ8,ys',H',I'.unpinned,T.keep _ _ _ st7 λb hb o e=>(I'.pin (b,o) (Ao _ (Ao _ (KL hb e)))).1,λb hb=>?_,f',T',w'⟩;obtain⟨o,e,d⟩:=T.obj _ _ st7 b hb;exact(I'.pin (b,o) (Ao _ (Ao _ (KL hb e)))).2.1
    have drop:∀{s':Shared}{σ8:St}{H':Hp},Inv X' ([]++Kf [p] s5.heap++Kf fp s7.heap) σ8 H' s'→Inv X' ([]++Kf fp s7.heap) σ8 H' s'∧Je X' [] H' p∧PTab X'.prog X'.w s'.heap p ys:=λ{s' σ8 H'}I'=>by obtain⟨a1,a2,a3⟩:=OF I'.unpinned fp5 T5;exact⟨I'.pins_of λq hq=>I'.pin q (Ao _ ((As.mp hq).elim (λz=>nomatch z) λz=>Ao _ z)),a2,a3⟩
    cases b with
    | false=> obtain⟨a1,a2,a3⟩:=drop I9;exact again a1 a2 a3 q9
    | true=>
     have Ei:=hi1' _ s9 σ8 H9 _ I9 q9;rw[eP,ew,eA,ex,eE] at Ei;show wpAny _ _ _ _ _ _;refine I_ Ei λxv s10 h10=>I_ h10 λitv s11 h11=>?_;obtain⟨it1,fp1,tn1,J1,H11,e11,I11,T1,st11,f11,hw11⟩:=h11;subst e11;obtain⟨a1,a2,a3⟩:=drop I11;obtain⟨o5,ho5,_⟩:=Qr T5;have npp:p ∉ fp1:=λhb=>(f11 p hb).2.2.2.2.2 (p,o5) (Ao _ (AO _ (Ao _ (KL (Ak.mpr rfl) ho5)))) rfl;have f11':∀b∈fp1,Je X' ([]++Kf fp s7.heap) H11 b:=λb hb=>by
      obtain⟨g0,g1',g2,g3,g4,g5⟩:=f11 b hb;refine⟨g0,g1',g2,g3,g4,λq hq=>g5 q ?_⟩;rcases As.mp hq with z | z
      · exact AO _ z
      · exact Ao _ ((As.mp z).elim (λz=>nomatch z) λz=>Ao _ z)
     have a2':Je X' ([]++Kf fp s7.heap) H11 p:=by
      obtain⟨g0,g1',g2,g3,g4,g5⟩:=a2;refine⟨g0,g1',g2,g3,g4,λq hq=>?_⟩;rcases As.mp hq with z | z
      · exact g5 q (AO _ z)
      · have:=(Q8 ((As.mp z).elim (λz=>nomatch z) id)).1;exact fne _ this
     have In:=ZI (X:=X') (elt:=elt) (t0:=tg) (i0:=iter) (t1:=tg1) (i1:=iter1) (f0:=ifs) (f1:=ifs1) (scope:=scope) (pos:=pos) hr' ec ex hg1' ht1' he' a1 T1 st11 f11' npp a2' a3 hw11;rw[eP,ew,eA,eE] at In;refine Cn In λr s12 ⟨hr,σ12,zs,H12,I12,f12,T12,m12⟩=>⟨hr,?_⟩;exact again I12 (stat Ai f12.1) (by rw[eP,ew];exact T12) m12
 exact U7 0 (.inl rfl) (loop _ rfl) (T.self _ 0 _ _ _ st4 (loop _ rfl))
def Zk(wi:TI)(js:JF)(g:TG)(tc:TT)(wi1:TI)(g1:TG)(tc1:TT)(te:TE):TE:=λσ H Q=>wi σ H λJ H1=>Qb J js g tc wi1 g1 tc1 te σ H1 λks H2=>ks.length<64∧(∀z∈ks,H2 z.1=some (.tup [.int z.2.1,.int z.2.2]))∧
 ∀(p:Addr)(qs:List P3),qs.Perm ks→Kn (qs.map (·.2))→H2 p=none→Q (.ref p) (IU H2 p (.lst (qs.map λq=>V.ref q.1)))
theorem ziP{p4 pos':Pos}(hr:Kz X)(hg0:Gl X "sorted")(hm0:X.mg "sorted"=none)(hc:X.calm=true)(ok:CapOk X N' js scope)(hi:PI X tg iter wi)
 (hg:∀cl C s₀ H₀ ex,PG (J4 X N' scope cl C s₀ H₀ ex) tg g) (ht:∀cl C s₀ H₀ ex,J5 (J4 X N' scope cl C s₀ H₀ ex) ifs tc) (hi1:∀cl C s₀ H₀ ex,PI (J4 X N' scope cl C s₀ H₀ ex) tg1 iter1 wi1) (hg1:∀cl C s₀ H₀ ex,PG (J4 X N' scope cl C s₀ H₀ ex) tg1 g1) (ht1:∀cl C s₀ H₀ ex,J5 (J4 X N' scope cl C s₀ H₀ ex) ifs1 tc1) (he:∀cl C s₀ H₀ ex,PE (J4 X N' scope cl C s₀ H₀ ex) elt te)
 (hs:∀x,B_ iter X.env x=pure x:=by intro _;rfl) (hs1:∀(e:Env)x,B_ iter1 e x=pure x:=by intro _ _;rfl)
 (h2:A9 [.SetComp elt [⟨tg,iter,ifs,0⟩,⟨tg1,iter1,ifs1,0⟩] scope pos'] X.env=(false,eval (.SetComp elt [⟨tg,iter,ifs,0⟩,⟨tg1,iter1,ifs1,0⟩] scope pos') X.env)::A9 [] X.env:=by rfl)
 (h4:(backTo pos (A9 [] X.env)).any (·.1)=false:=by rfl):
 PE X (.Call (.Name "sorted" p4) [.SetComp elt [⟨tg,iter,ifs,0⟩,⟨tg1,iter1,ifs1,0⟩] scope pos'] [] pos) (Zk wi js g tc wi1 g1 tc1 te):=by
 intro pins s σ H Q I h;refine Bq (K2 I hg0 hm0 OE ?_ (by decide) (by decide));refine Cy ?_ h2 h4;rw[h2];show wpAny _ _ (spliced ((false,eval (.SetComp elt [⟨tg,iter,ifs,0⟩,⟨tg1,iter1,ifs1,0⟩] scope pos') X.env)::backTo pos (A9 [] X.env))) _ _ s;refine CK ?_;obtain⟨cl,c1,c2,c3⟩:=N4 (scope:=scope) I.ok.has ok.free;rw[arm_eval_SetComp];refine CS (use:=none) rfl hs c1 ok.kind ok.names (I_ (hi pins s σ H _ I h) λv s1 h1=>I_ h1 λitv s2 h2=>?_);obtain⟨it,fp,tn,J,H2,e,I2,T,st2,f2,hw⟩:=h2;subst e;refine AB (zjq (iter:=iter) (pos:=pos') hr hc ok hs1 c2 c3 hg ht hi1 hg1 ht1 he I2 T st2 f2 hw) (λacc s3 h3=>AB h3 (λcenv s4 h4=>?_) λ_ _ z=>z) λ_ _ z=>z;refine Cn h4 λr s5 h5=>?_;obtain⟨rfl,⟨m,hm⟩,p,ks,H5,rfl,npl,I5,f5,T5,h64,hks,q5⟩:=h5;refine⟨m,hm,λh' sb=>?_⟩;obtain⟨f0,f1,_,f3,f4,f6⟩:=f5;have I6:Inv X pins σ H5 {s5 with heap:=h',toks:=s5.toks}:=I5.turned (t':=s5.toks) (λb o hb e=>(sb.2 b hb).trans e) f0 f1 f3 f4 f6
 have T6:PTab X.prog X.w h' p ks:=T5.kept λo e=>(sb.2 p npl).trans e;refine CV ?_;refine zg6 (s:={s5 with heap:=h'}) (I.ok.hd hc) T6 (λz hz=>OL I6 (hks z hz)) h64 λp' h2 d2 tk2 qs ee a1 a2 a4 a5 a6=>?_
 have hn1:H5 p'=none:=I6.hok.fresh a4;have I7:Inv X pins σ H5 {s5 with heap:=h',drawn:=d2,toks:=s5.toks}:=⟨I6.ok,I6.os,I6.bare,I6.base,I6.loc,I6.cell,I6.free,I6.freeC,I6.pin,I6.hok,I6.len⟩
 refine⟨.ref p',IU H5 p' (.lst (qs.map λq=>V.ref q.1)),I7.laid (t':=tk2) a6 a4 ?_,rfl,q5 p' qs a1 a2 hn1⟩;have hlen:qs.length<64:=by rw[a1.length_eq];exact h64
 exact⟨by rw[Ab,sizeLine_eq];omega,_,ee,PU _,by simpa [BD] using a5⟩
end
open PySem PySem.Spec PyProof.Rows PySem.W
namespace ZL
abbrev LJ(h:Heap)(z TI TO T:Addr)(f:Bool):Prop:=
 h.get? z=some {cls:= .type "zip",dict:=none,data:= .fields #[rawInt T,.bool f,.bool false,.ref TI,.ref TO],slots:=#[]}
theorem V7{z TI TO T:Addr}{f:Bool}{oT:Obj}{Q:Bool→Shared→Prop}(hz:LJ s.heap z TI TO T f)(hT:s.heap.get? T=some oT)(h:∀h',LJ h' z TI TO T true→BO z s.heap h'→Q false {s with heap:=h'}):
 wpAny (model prog w) A (Bk (.ref z)) Q E s:=by
 unfold Bk;refine Aa (BA hz rfl (x:=rawInt T) rfl ?_);show wpAny _ _ (loadIfAlive ((T:Int).toNat)>>=_) _ _ _;rw[AU];refine Aa (kdx_alive hT ?_);simp only[Option.isNone_some,Ay,if_false];refine Aa (BA hz rfl (x:= .bool f) rfl ?_);cases f with
 | true=> rw[if_neg (show ¬((Value.bool true !=Value.bool true)=true) from A3)];exact Ac (h s.heap hz (FE _ _))
 | false=> rw[if_pos (show(Value.bool false !=Value.bool true)=true from rfl)];refine Aa (CN hz (by simp) λh₃ he₃ hs₃=>?_);exact Ac (h h₃ he₃ hs₃)
theorem zj8{z TI TO i1 i2 l1 l2 T:Addr}{f:Bool}{oT:Obj}{k1 k2:Nat}{xs ys:Array Value}{x y:Value}{Q:Value→Shared→Prop}(D:ZipApart z TI TO i1 i2 l1 l2)
 (hz:LJ s.heap z TI TO T f) (hTT:s.heap.get? T=some oT) (hTI:IsPair s.heap TI (.ref i1) (.ref i2))
 (h1:s.heap.IsListIter i1 l1 k1) (h2:s.heap.IsListIter i2 l2 k2) (hl1:s.heap.IsList l1 xs) (hl2:s.heap.IsList l2 ys) (hx:xs[k1]?=some x) (hy:ys[k2]?=some y)
 (hQ:∀h',LJ h' z TI TO T true→h'.IsListIter i1 l1 (k1+1)→h'.IsListIter i2 l2 (k2+1)→IsPair h' s.heap.objs.size x y→h'.objs.size=s.heap.objs.size+1→
  (∀c o,c≠z→c≠i1→c≠i2→s.heap.get? c=some o→h'.get? c=some o)→Q (.ref s.heap.objs.size) {s with heap:=h'}):
 wpAny (model prog w) A (Builtin.«zip.__next__» ⟨[.ref z],[]⟩) (λfin s'=>∃v,fin= .done (.ret v)∧Q v s') E s:=by
 show wpAny _ _ (field (.ref z) 2>>=_) _ _ _;refine Aa (BA hz rfl (x:= .bool false) rfl ?_);show wpAny _ _ (field (.ref z) 3>>=_) _ _ _;refine Aa (BA hz rfl (x:= .ref TI) rfl ?_);refine Aa (Ba hTI rfl ?_);show wpAny _ _ (Bk (.ref z)>>=_) _ _ _;refine Aa (V7 hz hTT λh₁ hz₁ hs₁=>?_);simp only[Ay,if_false];refine Aa ?_;rw[←BS];simp only[D_,Et];refine Aa (Aa (AF ?_));show wpAny _ _ (Bb (.ref i1)>>=_) _ _ _;refine Aa (EA (h1.extBut hs₁.extBut D.i1z) (hl1.extBut hs₁.extBut D.l1z) hx λh₂ h1₂ hs₂=>Ac ?_);refine Ac ?_;refine Aa (Aa (AF ?_));show wpAny _ _ (Bb (.ref i2)>>=_) _ _ _;refine Aa (EA ((h2.extBut hs₁.extBut D.i2z).extBut hs₂.extBut D.i12.symm) ((hl2.extBut hs₁.extBut D.l2z).extBut hs₂.extBut D.l2i1) hy λh₄ h2₄ hs₄=>Ac ?_);refine Ac (Ac ?_);refine Aa (Eu ?_ (by show 2≤Az;decide));have hsz:h₄.objs.size=s.heap.objs.size:=by rw[hs₄.1,hs₂.1,hs₁.1]
 have hk:∀c o,c≠z→c≠i1→c≠i2→s.heap.get? c=some o→h₄.get? c=some o:=λc o c1 c3 c4 e=>hs₄.extBut _ _ c4 (hs₂.extBut _ _ c3 (hs₁.extBut _ _ c1 e));refine Ac ⟨_,rfl,?_⟩;show Q (.ref h₄.objs.size) _;have hT:=Al h₄ (o:={cls:= .type "tuple",data:= .seq #[x,y]}) rfl;rw[hsz] at hT ⊢;exact hQ _ (Ad _ (hs₄.extBut _ _ D.i2z.symm (hs₂.extBut _ _ D.i1z.symm hz₁))) ((h1₂.extBut hs₄.extBut D.i12).at λo e=>Ad _ e) (h2₄.at λo e=>Ad _ e) hT (by rw[AS,hsz]) λc o c1 c3 c4 e=>Ad _ (hk c o c1 c3 c4 e)
theorem Z1{z TI TO i1 i2 l1 l2 T:Addr}{f:Bool}{oT:Obj}{k1 k2:Nat}{xs ys:Array Value}{Q:PySem.Fin→Shared→Prop}(hh:A.handled=none)(D:ZipApart z TI TO i1 i2 l1 l2)
 (hz:LJ s.heap z TI TO T f) (hTT:s.heap.get? T=some oT) (hTI:IsPair s.heap TI (.ref i1) (.ref i2))
 (h1:s.heap.IsListIter i1 l1 k1) (h2:s.heap.IsListIter i2 l2 k2) (hl1:s.heap.IsList l1 xs) (hl2:s.heap.IsList l2 ys) (hend:xs[k1]?=none∨ys[k2]?=none)
 (hE:∀h' e,(∀c o,c≠z→c≠i1→c≠i2→s.heap.get? c=some o→h'.get? c=some o)→(∃o,h'.get? e=some o∧o.cls= .type "StopIteration")→E (.ref e) {s with heap:=h'}):
 wpAny (model prog w) A (Builtin.«zip.__next__» ⟨[.ref z],[]⟩) Q E s:=by
 show wpAny _ _ (field (.ref z) 2>>=_) _ _ _;refine Aa (BA hz rfl (x:= .bool false) rfl ?_);show wpAny _ _ (field (.ref z) 3>>=_) _ _ _;refine Aa (BA hz rfl (x:= .ref TI) rfl ?_);refine Aa (Ba hTI rfl ?_);show wpAny _ _ (Bk (.ref z)>>=_) _ _ _;refine Aa (V7 hz hTT λh₁ hz₁ hs₁=>?_);simp only[Ay,if_false];refine Aa ?_;rw[←BS];simp only[D_,Et];refine Aa (Aa (AF ?_));show wpAny _ _ (Bb (.ref i1)>>=_) _ _ _;cases hx:xs[k1]? with
 | none=> refine Aa (wpAny_nextOf_list_end hh (h1.extBut hs₁.extBut D.i1z) (hl1.extBut hs₁.extBut D.l1z) hx λh₂ e hs₂ he=>?_);exact hE h₂ e (λc o c1 c3 _ x=>hs₂ _ _ c3 (hs₁.extBut _ _ c1 x)) he
 | some x=>
  have hy:ys[k2]?=none:=by rcases hend with h | h;rw[hx] at h;cases h;exact h
  refine Aa (EA (h1.extBut hs₁.extBut D.i1z) (hl1.extBut hs₁.extBut D.l1z) hx λh₂ h1₂ hs₂=>Ac ?_);refine Ac ?_;refine Aa (Aa (AF ?_));show wpAny _ _ (Bb (.ref i2)>>=_) _ _ _;refine Aa (wpAny_nextOf_list_end hh ((h2.extBut hs₁.extBut D.i2z).extBut hs₂.extBut D.i12.symm) ((hl2.extBut hs₁.extBut D.l2z).extBut hs₂.extBut D.l2i1) hy λh₄ e hs₄ he=>?_);exact hE h₄ e (λc o c1 c3 c4 x=>hs₄ _ _ c4 (hs₂.extBut _ _ c3 (hs₁.extBut _ _ c1 x))) he
end ZL
open PySem PySem.Spec PyProof.Rows PySem.W
namespace ZL
theorem zhd{z TI TO i1 i2 l1 l2 T:Addr}{f:Bool}{oT:Obj}{k1 k2:Nat}{xs ys:Array Value}{x y:Value}{Q:Option Value→Shared→Prop}(D:ZipApart z TI TO i1 i2 l1 l2)
 (hz:LJ s.heap z TI TO T f) (hTT:s.heap.get? T=some oT) (hTI:IsPair s.heap TI (.ref i1) (.ref i2))
 (h1:s.heap.IsListIter i1 l1 k1) (h2:s.heap.IsListIter i2 l2 k2) (hl1:s.heap.IsList l1 xs) (hl2:s.heap.IsList l2 ys) (hx:xs[k1]?=some x) (hy:ys[k2]?=some y)
 (hQ:∀h',LJ h' z TI TO T true→h'.IsListIter i1 l1 (k1+1)→h'.IsListIter i2 l2 (k2+1)→IsPair h' s.heap.objs.size x y→h'.objs.size=s.heap.objs.size+1→
  (∀c o,c≠z→c≠i1→c≠i2→s.heap.get? c=some o→h'.get? c=some o)→Q (some (.ref s.heap.objs.size)) {s with heap:=h'}):
 wpAny (model prog w) A (pyNext (.ref z)) Q E s:=by
 have hT:s.TypeIs (.ref z) "zip":=⟨_,hz,rfl⟩;unfold pyNext;exact Aa (Dj (Bn (name:=C6 "__next__") hT C9
  (AT C9 hT F.entry_zip_next (zj8 D hz hTT hTI h1 h2 hl1 hl2 hx hy λh' a1 a2 a3 a4 a5 a6=>Ac (hQ h' a1 a2 a3 a4 a5 a6)) (F.args_zip_next_1 _))))
theorem ziJ{z TI TO i1 i2 l1 l2 T:Addr}{f:Bool}{oT:Obj}{k1 k2:Nat}{xs ys:Array Value}{Q:Option Value→Shared→Prop}(hh:A.handled=none)(D:ZipApart z TI TO i1 i2 l1 l2)
 (hz:LJ s.heap z TI TO T f) (hTT:s.heap.get? T=some oT) (hTI:IsPair s.heap TI (.ref i1) (.ref i2))
 (h1:s.heap.IsListIter i1 l1 k1) (h2:s.heap.IsListIter i2 l2 k2) (hl1:s.heap.IsList l1 xs) (hl2:s.heap.IsList l2 ys) (hend:xs[k1]?=none∨ys[k2]?=none)
 (hQ:∀h',(∀c o,c≠z→c≠i1→c≠i2→s.heap.get? c=some o→h'.get? c=some o)→Q none {s with heap:=h'}):wpAny (model prog w) A (pyNext (.ref z)) Q E s:=by
 have hT:s.TypeIs (.ref z) "zip":=⟨_,hz,rfl⟩;unfold pyNext;refine Aa (Dj (Bn (name:=C6 "__next__") hT C9
  (AT C9 hT F.entry_zip_next (Z1 hh D hz hTT hTI h1 h2 hl1 hl2 hend λh' e hk he=>?_) (F.args_zip_next_1 _))))
 obtain⟨o,ho,hc⟩:=he;refine Aa (Da (T:="StopIteration") (b:=true) ⟨o,ho,hc⟩ isSubtype_stop ?_);exact Ac (hQ _ hk)
structure ZSt(h:Heap)(z TI TO i1 i2 l1 l2 S:Addr)(xs ys:Array Value)(i:Nat):Prop where
 zip:(i=0∧IsZip h z TI TO .none∧∃a b,IsPair h TO a b)∨∃T f oT,LJ h z TI TO T f∧h.get? T=some oT∧T≠z∧T≠i1∧T≠i2∧T≠S
 ti:IsPair h TI (.ref i1) (.ref i2)
 a1:h.IsListIter i1 l1 i
 a2:h.IsListIter i2 l2 i
 b1:h.IsList l1 xs
 b2:h.IsList l2 ys
theorem ZSt.keep{h':Heap}{z TI TO i1 i2 l1 l2 S:Addr}{xs ys:Array Value}(x:ZSt h z TI TO i1 i2 l1 l2 S xs ys i)(ns:S ∉ [z,TI,TO,i1,i2,l1,l2])(hk:∀b o,b≠S→h.get? b=some o→h'.get? b=some o):ZSt h' z TI TO i1 i2 l1 l2 S xs ys i:=by
 simp only[Ar,A6,or_false,not_or] at ns;obtain⟨n1,n2,n3,n4,n5,n6,n7⟩:=ns;refine⟨?_,hk _ _ (Bi n2) x.ti,x.a1.at λo e=>hk _ o (Bi n4) e,x.a2.at λo e=>hk _ o (Bi n5) e,x.b1.at λo e=>hk _ o (Bi n6) e,x.b2.at λo e=>hk _ o (Bi n7) e⟩;rcases x.zip with⟨e,hz,a,b,ho⟩ | ⟨T,f,oT,hz,hT,t1,t2,t3,t4⟩
 · exact .inl ⟨e,hk _ _ (Bi n1) hz,a,b,hk _ _ (Bi n3) ho⟩
 · exact .inr ⟨T,f,oT,hk _ _ (Bi n1) hz,hk _ _ t4 hT,t1,t2,t3,t4⟩
theorem YK{z TI TO i1 i2 l1 l2 S:Addr}{xs ys:Array Value}{x y:Value}{Q:Option Value→Shared→Prop}(D:ZipApart z TI TO i1 i2 l1 l2)(st:ZSt s.heap z TI TO i1 i2 l1 l2 S xs ys i)(hS:S<s.heap.objs.size)(hx:xs[i]?=some x)(hy:ys[i]?=some y)
 (hQ:∀h',ZSt h' z TI TO i1 i2 l1 l2 S xs ys (i+1)→IsPair h' s.heap.objs.size x y→h'.objs.size=s.heap.objs.size+1→(∀c o,c ∉ [z,TO,i1,i2]→s.heap.get? c=some o→h'.get? c=some o)→Q (some (.ref s.heap.objs.size)) {s with heap:=h'}):
 wpAny (model prog w) A (pyNext (.ref z)) Q E s:=by
 have lt1:s.heap.objs.size≠z:=by
  rcases st.zip with⟨_,hz,_⟩ | ⟨_,_,_,hz,_⟩
  · exact AV (Ag hz)
  · exact AV (Ag hz)
 have ME:s.heap.objs.size≠i1:=by obtain⟨_,e,_⟩:=st.a1;exact AV (Ag e)
 have lt3:s.heap.objs.size≠i2:=by obtain⟨_,e,_⟩:=st.a2;exact AV (Ag e)
 rcases st.zip with⟨e,hz,a,b,ho⟩ | ⟨T,f,oT,hz,hT,t1,t2,t3,t4⟩
 · refine wpAny_pyNext_zip_item D hz st.ti ho st.a1 st.a2 st.b1 st.b2 hx hy λh' c1 c2 c3 c4 c5 c6 hk=>hQ h' ⟨.inr ⟨_,false,_,c1,c5,lt1,ME,lt3,AV hS⟩,hk _ _ D.TIz D.TITO D.TIi1 D.TIi2 st.ti,c3,c4,st.b1.at λo e=>hk _ o D.l1z D.l1TO D.l1i1 D.l1i2 e,st.b2.at λo e=>hk _ o D.l2z D.l2TO D.l2i1 D.l2i2 e⟩ c5 c6 λc o hc e=>?_;simp only[Ar,A6,or_false,not_or] at hc;exact hk c o hc.1 hc.2.1 hc.2.2.1 hc.2.2.2 e
 · refine zhd D hz hT st.ti st.a1 st.a2 st.b1 st.b2 hx hy λh' c1 c3 c4 c5 c6 hk=>hQ h' ⟨.inr ⟨T,true,oT,c1,hk _ _ t1 t2 t3 hT,t1,t2,t3,t4⟩,hk _ _ D.TIz D.TIi1 D.TIi2 st.ti,c3,c4,st.b1.at λo e=>hk _ o D.l1z D.l1i1 D.l1i2 e,st.b2.at λo e=>hk _ o D.l2z D.l2i1 D.l2i2 e⟩ c5 c6 λc o hc e=>?_;simp only[Ar,A6,or_false,not_or] at hc;exact hk c o hc.1 hc.2.2.1 hc.2.2.2 e
theorem YH{z TI TO i1 i2 l1 l2 S:Addr}{xs ys:Array Value}{Q:Option Value→Shared→Prop}(hh:A.handled=none)(D:ZipApart z TI TO i1 i2 l1 l2)(st:ZSt s.heap z TI TO i1 i2 l1 l2 S xs ys i)(hend:xs[i]?=none∨ys[i]?=none)
 (hQ:∀h',(∀c o,c ∉ [z,TO,i1,i2]→s.heap.get? c=some o→h'.get? c=some o)→Q none {s with heap:=h'}):wpAny (model prog w) A (pyNext (.ref z)) Q E s:=by
 rcases st.zip with⟨e,hz,a,b,ho⟩ | ⟨T,f,oT,hz,hT,t1,t2,t3,t4⟩
 · refine wpAny_pyNext_zip_end hh D hz st.ti ho st.a1 st.a2 st.b1 st.b2 hend λh' hk=>hQ h' λc o hc e=>?_;simp only[Ar,A6,or_false,not_or] at hc;exact hk c o hc.1 hc.2.1 hc.2.2.1 hc.2.2.2 e
 · refine ziJ hh D hz hT st.ti st.a1 st.a2 st.b1 st.b2 hend λh' hk=>hQ h' λc o hc e=>?_;simp only[Ar,A6,or_false,not_or] at hc;exact hk c o hc.1 hc.2.2.1 hc.2.2.2 e
def ZG(ps:List (Value×Value))(lo:Addr)(h:Heap)(as:List Addr):Prop:=as.length=ps.length∧as.Pairwise (· < ·)∧∀(j:Nat)(a:Addr),as[j]?=some a→lo<a∧∃p,ps[j]?=some p∧IsPair h a p.1 p.2
section
variable{R:Result→Shared→Prop}
theorem Yu{z TI TO i1 i2 l1 l2 S:Addr}{xs ys:Array Value}(hh:A.handled=none)(D:ZipApart z TI TO i1 i2 l1 l2)(ns:S ∉ [z,TI,TO,i1,i2,l1,l2])(lo:Addr)(hlo:∀b∈[z,TO,i1,i2],b≤lo)(hSl:S≤lo)(hn:xs.size≤Az)(res:Value){h₁:Heap}
 (hR:∀h' tk acc c as,(∀b o,b≠S→b ∉ [z,TO,i1,i2]→h₁.get? b=some o→h'.get? b=some o)→h'.get? S=some {cls:= .type "list",dict:=none,data:= .seq acc c,slots:=#[]}→ZG (xs.toList.zip ys.toList) lo h' as→
  acc.toList=as.map Value.ref→R (.ok (.ret res)) {s with heap:=h',toks:=tk}):
 ∀(k i:Nat)(h:Heap)(tk c:Nat)(acc:Array Value)(as:List Addr),(xs.toList.zip ys.toList).length - i=k→i≤(xs.toList.zip ys.toList).length→ZSt h z TI TO i1 i2 l1 l2 S xs ys i→(∀b o,b≠S→b ∉ [z,TO,i1,i2]→h₁.get? b=some o→h.get? b=some o)→
  h.get? S=some {cls:= .type "list",dict:=none,data:= .seq acc c,slots:=#[]}→acc.toList=as.map Value.ref→ZG ((xs.toList.zip ys.toList).take i) lo h as→lo<h.objs.size→
  codeAny (model prog w) A (.builtin "list.extend.loop" ⟨[.ref S,.ref z,res],[]⟩) R {s with heap:=h,toks:=tk}:=by
 have nS:S ∉ [z,TO,i1,i2]:=λhm=>ns (by simp only[Ar,A6,or_false] at hm ⊢;rcases hm with h | h | h | h<;>simp[h])
 intro k
 induction k with
 | zero=>
  intro i h tk c acc as hk hi hst hkeep hS hacc hG hIs;have hin:i=(xs.toList.zip ys.toList).length:=by omega
  refine Br FL ?_;rw[AY Cj _];show wpAny _ A.in1 (pyNext (.ref z)>>=_) _ _ _;refine Aa (YH (s:={s with heap:=h,toks:=tk}) (A:=A.in1) hh D hst ?_ λh' he=>?_)
  · rw[EV,Ah,Ah] at hin;by_cases c1:xs.size≤ys.size
    · exact .inl (CH (by omega))
    · exact .inr (CH (by omega))
  · rw[hin,Bx] at hG;refine Ac (hR h' tk acc c as (λb o h1 h2 e=>he b o h2 (hkeep b o h1 h2 e)) (he S _ nS hS) ⟨hG.1,hG.2.1,λj a hj=>?_⟩ hacc);obtain⟨g1,p,g2,g3⟩:=hG.2.2 j a hj;exact⟨g1,p,g2,he a _ (λhm=>absurd (hlo a hm) (Ga g1)) g3⟩
 | succ k ih=>
  intro i h tk c acc as hk hi hst hkeep hS hacc hG hIs;have hlt:i<(xs.toList.zip ys.toList).length:=by omega
  have hlz:=hlt;rw[EV,Ah,Ah] at hlz;have hx:xs[i]?=some xs[i]:=AL (by omega);have hy:ys[i]?=some ys[i]:=AL (by omega);have hp:(xs.toList.zip ys.toList)[i]?=some (xs[i],ys[i]):=by rw[Eg];exact⟨by rw[A7];exact hx,by rw[A7];exact hy⟩
  have hal:as.length=i:=by rw[hG.1,AE];omega
  have hsz:acc.size=i:=by rw[←Ah,hacc,Ab,hal]
  refine Br FL ?_;rw[AY Cj _];show wpAny _ A.in1 (pyNext (.ref z)>>=_) _ _ _;have hSz:S<h.objs.size:=Ag hS;refine Aa (YK (s:={s with heap:=h,toks:=tk}) (S:=S) D hst hSz hx hy λh' hst' ht hz hkp=>?_)
  dsimp only at ht hz hkp ⊢;have hS':=hkp S _ nS hS;have up:∀b o,b≠S→h'.get? b=some o→(h'.update S (A_ (·.push (Value.ref h.objs.size)))).get? b=some o:=λb o hb e=>(BG _ _ (Bi hb)).trans e;show wpAny _ A.in1 (updateSeq S (·.push (Value.ref h.objs.size))>>=_) _ _ _;refine Aa ?_;refine CT hS' rfl (Ac ⟨BW Cj _,ih (i+1) _ tk _ (acc.push (Value.ref h.objs.size)) (as++[h.objs.size]) (by omega) hlt (hst'.keep ns up)
   (λb o h1 h2 e=>up b o h1 (hkp b o h2 (hkeep b o h1 h2 e))) (Bz _ hS' rfl) (by rw[Dm,hacc,Aq];rfl) ⟨by rw[A5,BB,hal,AE];omega,?_,λj b hj=>?_⟩ ?_⟩) (by rw[hsz];omega) (by show(acc.push (Value.ref h.objs.size)).size≤Az+1;rw[EU,hsz];omega)
  · refine List.pairwise_append.mpr ⟨hG.2.1,Gm _ _,λa ha b hb=>?_⟩;rw[Ak.mp hb];obtain⟨j,hj⟩:=DI.mp ha;obtain⟨_,p,_,g3⟩:=hG.2.2 j a hj;exact Ag g3
  · rcases E4 j as.length with q | q | q
    · rw[BQ q] at hj;obtain⟨g1,p,g2,g3⟩:=hG.2.2 j b hj;refine⟨g1,p,?_,up b _ (λz=>by rw[z] at g1;exact absurd hSl (Ga g1)) (hkp b _ (λhm=>absurd (hlo b hm) (Ga g1)) g3)⟩;rw[D7] at g2 ⊢;rw[if_pos (by omega)] at g2 ⊢;exact g2
    · subst q;have hb:h.objs.size=b:=by simpa using hj
      subst hb;refine⟨hIs,(xs[i],ys[i]),?_,up _ _ (AV hSz) ht⟩;rw[hal,D7,if_pos (BX _)];exact hp
    · have hnone:(as++[h.objs.size])[j]?=none:=C5 (by rw[A5,BB];omega);rw[hnone] at hj;cases hj
  · have e:(h'.update S (A_ (·.push (Value.ref h.objs.size)))).get? h.objs.size=_:=up _ _ (AV hSz) ht;exact Cu hIs (Ag e)
end
end ZL
open PySem PySem.Spec PyProof.Rows PySem.W
namespace ZL
theorem YG:typeLookup (.type "zip") "__len__"=pure none:=by rw[typeLookup_type,builtinLookup_eq_fast];kernel_rfl
theorem zk8:typeLookup (.type "zip") "__length_hint__"=pure none:=by rw[typeLookup_type,builtinLookup_eq_fast];kernel_rfl
theorem YI{z:Addr}(hT:s.TypeIs (.ref z) "zip"){Q:Bool→Shared→Prop}(h:Q true s):wpAny (model prog w) A (Dh (.ref z)) Q E s:=by unfold Dh;refine Aa (BV hT YG ?_);refine Gv (λhab=>absurd hab (by decide)) (λ_=>?_);refine Gv (λhab=>absurd hab (by decide)) (λ_=>?_);refine Aa (BV hT zk8 ?_);exact Ac h
theorem zi9{z TI TO i1 i2 l1 l2 S:Addr}{xs ys:Array Value}{R:Result→Shared→Prop}(hh:A.handled=none)(D:ZipApart z TI TO i1 i2 l1 l2)(ns:S ∉ [z,TI,TO,i1,i2,l1,l2])(hlo:∀b∈[z,TO,i1,i2],b≤S)
 (hz:IsZip s.heap z TI TO .none) (ho:IsPair s.heap TO .none .none) (hti:IsPair s.heap TI (.ref i1) (.ref i2)) (h1:s.heap.IsListIter i1 l1 0) (h2:s.heap.IsListIter i2 l2 0) (g1:s.heap.IsList l1 xs) (g2:s.heap.IsList l2 ys) (hn:xs.size≤Az)
 (res:Value) (c₀:Nat) (hS:s.heap.get? S=some {cls:= .type "list",data:= .seq #[] c₀})
 (hR:∀h' tk acc c as,(∀b o,b≠S→b ∉ [z,TO,i1,i2]→s.heap.get? b=some o→h'.get? b=some o)→h'.get? S=some {cls:= .type "list",dict:=none,data:= .seq acc c,slots:=#[]}→ZG (xs.toList.zip ys.toList) S h' as→
  acc.toList=as.map Value.ref→R (.ok (.ret res)) {s with heap:=h',toks:=tk}):
 wpAny (model prog w) A.in1 (BI (.ref S) (.ref z) res)
  (λfin s'=>match fin with | .done f=>R (.ok f) s' | .again c'=>c'.quiet=true∧codeAny (model prog w) A c' R s') (λe s'=>R (.error e) s') s:=by
 have hT:s.TypeIs (.ref z) "zip":=⟨_,hz,rfl⟩;have nz:S≠z:=λe=>ns (by rw[e];exact Ai ..);have st:ZSt s.heap z TI TO i1 i2 l1 l2 S xs ys 0:=⟨.inl ⟨rfl,hz,_,_,ho⟩,hti,h1,h2,g1,g2⟩;have key:∀(h:Heap)(c₁ tk:Nat),(∀b o,b≠S→s.heap.get? b=some o→h.get? b=some o)→
  h.get? S=some {cls:= .type "list",data:= .seq #[] c₁}→codeAny (model prog w) A (.builtin "list.extend.loop" ⟨[.ref S,.ref z,res],[]⟩) R {s with heap:=h,toks:=tk}:=by
  intro h c₁ tk hk hS₁;exact Yu (s:=s) (h₁:=s.heap) hh D ns S hlo (Af _) hn res hR _ 0 h tk c₁ #[] [] rfl (Bc _) (st.keep ns hk) (λb o hb _ e=>hk b o hb e) hS₁ rfl
   ⟨rfl,List.Pairwise.nil,λj a hj=>by simp at hj⟩ (Ag hS₁)
 unfold BI;refine Aa (C7 (T:="zip") hT ?_);have e1:CB (.ref S) (.ref z)=false:=by simp[CB,nz]
 have e2:(Value.type "zip"==Value.type "list")=false:=by decide
 have e3:(Value.type "zip"==Value.type "tuple")=false:=by decide
 simp only[e1,e2,e3,Bool.or_false,Ay,if_false];refine Aa (FR hz ?_);refine Aa (AF (YI hT ?_));refine Gv (λ_=>?_) (λ_=>Ac ⟨BW Cj _,key _ c₀ _ (λb o _ e=>e) hS⟩);refine Aa (Cm ?_);refine Aa ?_;show wpAny _ _ (updateSeq S (·.push .none)>>=λ_=>updateSeq S (·.pop)) _ _ _;refine Aa (CT hS rfl ?_);have hS₂:=Bz (A_ (·.push Value.none)) hS rfl;refine CT (hz:=by seq_fits) hS₂ rfl ?_;have hS₃:=Bz (A_ (·.pop)) hS₂ rfl;refine Ac ⟨BW Cj _,key _ _ _ (λb o hb e=>?_) hS₃⟩;exact(BG _ _ (Bi hb)).trans ((BG _ _ (Bi hb)).trans e)
theorem YJ{z TI TO i1 i2 l1 l2 S:Addr}{xs ys:Array Value}{R:Result→Shared→Prop}(hh:A.handled=none)(D:ZipApart z TI TO i1 i2 l1 l2)(ns:S ∉ [z,TI,TO,i1,i2,l1,l2])(hlo:∀b∈[z,TO,i1,i2],b≤S)
 (hz:IsZip s.heap z TI TO .none) (ho:IsPair s.heap TO .none .none) (hti:IsPair s.heap TI (.ref i1) (.ref i2)) (h1:s.heap.IsListIter i1 l1 0) (h2:s.heap.IsListIter i2 l2 0) (g1:s.heap.IsList l1 xs) (g2:s.heap.IsList l2 ys) (hn:xs.size≤Az)
 (hS:s.heap.get? S=some {cls:= .type "list",data:= .seq #[]})
 (hR:∀h' tk acc c as,(∀b o,b≠S→b ∉ [z,TO,i1,i2]→s.heap.get? b=some o→h'.get? b=some o)→h'.get? S=some {cls:= .type "list",dict:=none,data:= .seq acc c,slots:=#[]}→ZG (xs.toList.zip ys.toList) S h' as→
  acc.toList=as.map Value.ref→R (.ok (.ret .none)) {s with heap:=h',toks:=tk}):
 wpAny (model prog w) A.in1 (Builtin.«list.__init__» ⟨[.ref S,.ref z],[]⟩)
  (λfin s'=>match fin with | .done f=>R (.ok f) s' | .again c'=>c'.quiet=true∧codeAny (model prog w) A c' R s') (λe s'=>R (.error e) s') s:=by
 show wpAny _ _ (do let old ←GA (.ref S);Builtin.List.listUpdate (.ref S) (λ_=>#[]);letGo old.toList.reverse;BI (.ref S) (.ref z) .none) _ _ s
 refine Aa ?_;unfold GA;refine Aa (Ba hS rfl (Ac ?_));show wpAny _ _ (updateSeq S (λ_=>#[])>>=λ_=>letGo (#[]:Array Value).toList.reverse>>=λ_=>BI (.ref S) (.ref z) .none) _ _ s;refine Aa (CT hS rfl ?_);have hS₂:=Bz (A_ (λ_=>(#[]:Array Value))) hS rfl;have oth:∀b o,b≠S→s.heap.get? b=some o→(s.heap.update S (A_ (λ_=>(#[]:Array Value)))).get? b=some o:=
  λb o hb e=>(BG _ _ (Bi hb)).trans e
 have ns':=ns;simp only[Ar,A6,or_false,not_or] at ns';obtain⟨n1,n2,n3,n4,n5,n6,n7⟩:=ns';refine Aa (G3 ?_);refine zi9 (xs:=xs) (ys:=ys) hh D ns hlo (oth _ _ (Bi n1) hz) (oth _ _ (Bi n3) ho) (oth _ _ (Bi n2) hti) (h1.at λo e=>oth _ o (Bi n4) e) (h2.at λo e=>oth _ o (Bi n5) e) (g1.at λo e=>oth _ o (Bi n6) e) (g2.at λo e=>oth _ o (Bi n7) e) hn .none _ hS₂ (λh' tk acc c as hk hS' hG hacc=>?_);exact hR h' tk acc c as (λb o hb hc e=>hk b o hb hc (oth b o hb e)) hS' hG hacc
theorem zl_call{z TI TO i1 i2 l1 l2:Addr}{xs ys:Array Value}{Q:Value→Shared→Prop}(hh:A.handled=none)(D:ZipApart z TI TO i1 i2 l1 l2)
 (hz:IsZip s.heap z TI TO .none) (ho:IsPair s.heap TO .none .none) (hti:IsPair s.heap TI (.ref i1) (.ref i2)) (h1:s.heap.IsListIter i1 l1 0) (h2:s.heap.IsListIter i2 l2 0) (g1:s.heap.IsList l1 xs) (g2:s.heap.IsList l2 ys) (hn:xs.size≤Az)
 (hQ:∀h' tk acc c as,(∀b o,b ∉ [z,TO,i1,i2]→s.heap.get? b=some o→h'.get? b=some o)→h'.get? s.heap.objs.size=some {cls:= .type "list",dict:=none,data:= .seq acc c,slots:=#[]}→ZG (xs.toList.zip ys.toList) s.heap.objs.size h' as→
  acc.toList=as.map Value.ref→Q (.ref s.heap.objs.size) {s with heap:=h',toks:=tk}):
 wpAny (model prog w) A (call (.type "list") [.ref z]) Q E s:=by
 refine callType_codes (Q₁:=λobj s₁=>obj= .ref s.heap.objs.size∧s₁={s with heap:=s.heap.push {cls:= .type "list",data:= .seq #[]}}) PySem.F.called_list (PySem.F.typeCall_list_1 _) PySem.F.entry_list_init
  (code_list_new _ ⟨rfl,rfl⟩) λobj s₁ h₁=>?_
 obtain⟨rfl,rfl⟩:=h₁;have hS:(s.heap.push {cls:= .type "list",data:= .seq #[]}).get? s.heap.objs.size=some {cls:= .type "list",data:= .seq #[]}:=Al _ rfl;have t1:z<s.heap.objs.size:=Ag hz;have t2:TI<s.heap.objs.size:=Ag hti;have t3:TO<s.heap.objs.size:=Ag ho;have t4:i1<s.heap.objs.size:=by obtain⟨_,e,_⟩:=h1;exact Ag e
 have t5:i2<s.heap.objs.size:=by obtain⟨_,e,_⟩:=h2;exact Ag e
 have t6:l1<s.heap.objs.size:=by obtain⟨_,e,_⟩:=g1;exact Ag e
 have t7:l2<s.heap.objs.size:=by obtain⟨_,e,_⟩:=g2;exact Ag e
 have ns:s.heap.objs.size ∉ [z,TI,TO,i1,i2,l1,l2]:=by simp only[Ar,A6,or_false,not_or];exact⟨AV t1,AV t2,AV t3,AV t4,AV t5,AV t6,AV t7⟩
 have hlo:∀b∈[z,TO,i1,i2],b≤s.heap.objs.size:=by
  intro b hb;simp only[Ar,A6,or_false] at hb;rcases hb with rfl | rfl | rfl | rfl
  · exact AZ t1
  · exact AZ t3
  · exact AZ t4
  · exact AZ t5
 have up:∀b o,s.heap.get? b=some o→(s.heap.push {cls:= .type "list",data:= .seq #[]}).get? b=some o:=λb o e=>Ad _ e;refine⟨⟨_,hS,rfl⟩,PySem.F.args_list_init_2 _ _,YJ (xs:=xs) (ys:=ys) (A:=A.in1) hh D ns hlo (up _ _ hz) (up _ _ ho) (up _ _ hti) (h1.at λo e=>up _ o e) (h2.at λo e=>up _ o e) (g1.at λo e=>up _ o e) (g2.at λo e=>up _ o e) hn hS (λh' tk acc c as hk hS' hG hacc=>?_)⟩;exact⟨rfl,hQ h' tk acc c as (λb o hb e=>hk b o (An (Ag e)) hb (up _ _ e)) hS' hG hacc⟩
end ZL
open PySem PySem.Spec PyProof.Rows PySem.W
section
variable{σ0:St}{H0:Hp}{s1:Shared}
theorem Wg(I1:Inv X pins σ0 H0 s1):∀(as:List Addr)(ps:List (V×V))(H:Hp),Inv X pins σ H s→as.length=ps.length→as.Pairwise (· < ·)→(∀a∈as,s1.heap.objs.size≤a∧H a=none)→
 (∀(j:Nat)a p,as[j]?=some a→ps[j]?=some p→∃its:List Value,Vals [p.1,p.2] its∧IsTupP s.heap a its.toArray)→
 ∃H2:Hp,Inv X pins σ H2 s∧(∀b,b ∉ as→H2 b=H b)∧∀(j:Nat)a p,as[j]?=some a→ps[j]?=some p→H2 a=some (.tup [p.1,p.2])
 | [],ps,H,I,hl,hp,hf,ht=>⟨H,I,λ_ _=>rfl,λj a p e=>by simp at e⟩
 | a::as,[],H,I,hl,hp,hf,ht=>by simp at hl
 | a::as,p::ps,H,I,hl,hp,hf,ht=>by
  obtain⟨f1,f2⟩:=hf a (Ai ..);have h0:X.s₀.heap.get? a=none:=by
   rcases e:X.s₀.heap.get? a with _ | o
   · rfl
   · exact absurd (A8 (Ag e) (AM I1.sz f1)) (Cs _)
  have I2:Inv X pins σ (IU H a (.tup [p.1,p.2])) s:=I.track7 (I1.fpOk f1 f2) h0 ⟨by show 2≤Az;decide,ht 0 a p rfl rfl⟩;rw[En] at hp;have ne:∀b∈as,b≠a:=λb hb=>AV (hp.1 b hb);obtain⟨H2,J,k,g⟩:=Wg I1 as ps _ I2 (by simpa using hl) hp.2 (λb hb=>⟨(hf b (Aj _ hb)).1,by rw[Ji (ne b hb)];exact(hf b (Aj _ hb)).2⟩) λj b q e1 e2=>ht (j+1) b q (by simpa using e1) (by simpa using e2);refine⟨H2,J,λb hb=>?_,λj b q e1 e2=>?_⟩
  · rw[Ar,not_or] at hb;rw[k b hb.2,Ji hb.1]
  · cases j with
    | zero=> simp only[List.getElem?_cons_zero,Option.some.injEq] at e1 e2;subst e1 e2;rw[k a λhm=>ne a hm rfl,IX]
    | succ j=>exact g j b q (by simpa using e1) (by simpa using e2)
end
theorem Zo:∀{xs ys:List V}{us vs:List Value},Vals xs us→Vals ys vs→∀(j:Nat)(p:V×V)(q:Value×Value),(xs.zip ys)[j]?=some p→(us.zip vs)[j]?=some q→Vals [p.1,p.2] [q.1,q.2]:=by intro xs ys us vs r1 r2 j p q e1 e2;rw[Eg] at e1 e2;obtain⟨u,a1,a2⟩:=r1.get e1.1;obtain⟨v,b1,b2⟩:=r2.get e1.2;rw[e2.1] at a1;rw[e2.2] at b1;cases a1;cases b1;exact .cons a2 (.cons b2 .nil)
def Zj(K:Ae)(ta:TA):TE:=λσ H Q=>ta σ H λvs H1=>∃t u xs ys,vs=[.ref t,.ref u]∧SqL K H1 t xs∧SqL K H1 u ys∧
 ∀(as:List Addr)(H2:Hp)(l:Addr),as.length=(xs.zip ys).length→(∀a∈as,H1 a=none)→(∀b,b ∉ as→H2 b=H1 b)→(∀(j:Nat)a p,as[j]?=some a→(xs.zip ys)[j]?=some p→H2 a=some (.tup [p.1,p.2]))→H2 l=none→
  Q (.ref l) (IU H2 l (.lst (as.map V.ref)))
theorem Vr:∀as:List Addr,Vals (as.map V.ref) (as.map Value.ref)
 | []=> .nil
 | a::as=> .cons rfl (Vr as)
theorem ziQ{a b:Expr}{ta:TA}{pos p2 p3 p4:Pos}(hc:X.calm=true)(ha:PA X [a,b] ta)(hg:Gl X "list")(hm:X.mg "list"=none)(hg2:Gl X "zip")(hm2:X.mg "zip"=none)
 (h1:A9 [a,b] X.env=(false,eval a X.env)::A9 [b] X.env:=by rfl) (h2:A9 [.Call (.Name "zip" p2) [a,b] [] p3] X.env=(false,eval (.Call (.Name "zip" p2) [a,b] [] p3) X.env)::A9 [] X.env:=by rfl)
 (h3:(backTo p3 (A9 [b] X.env)).any (·.1)=false:=by rfl) (h4:(backTo pos (A9 [] X.env)).any (·.1)=false:=by rfl):
 PE X (.Call (.Name "list" p4) [.Call (.Name "zip" p2) [a,b] [] p3] [] pos) (Zj X.K ta):=by
 intro pins s σ H Q I h;refine Bq (K2 I hg hm KN ?_ (by decide) (by decide));refine Bp ?_ h2 h4;rw[h2];show wpAny _ _ (spliced ((false,eval (.Call (.Name "zip" p2) [a,b] [] p3) X.env)::backTo pos (A9 [] X.env))) _ _ s;refine CK ?_;refine Bq (K2 I hg2 hm2 Td ?_ (by decide) (by decide));refine Bp (I_ (ha p3 pins s σ H _ I h) λus s1 ⟨vs,H1,I1,r1,t,u,xs,ys,e,q1,q2,q⟩=>?_) h1 h3;subst e;obtain⟨u1,u2,rfl,v1,v2⟩:=M2 r1;cases v1;cases v2;obtain⟨its1,rv1,g1,z1⟩:=I1.list q1;obtain⟨its2,rv2,g2,z2⟩:=I1.list q2;refine call_zip_2 g1.isList g2.isList λh' e5 e3 e4 e1 e2 hz k5=>?_;refine CV ?_;have I2:Inv X pins σ H1 {s1 with heap:=h'}:=I1.kept (t':=s1.toks) k5
 have lt1:(id t:Nat)<s1.heap.objs.size:=by show t<s1.heap.objs.size;obtain⟨_,e,_⟩:=g1.isList;exact Ag e
 have ME:(id u:Nat)<s1.heap.objs.size:=by show u<s1.heap.objs.size;obtain⟨_,e,_⟩:=g2.isList;exact Ag e
 have D:ZipApart (s1.heap.objs.size+4) (s1.heap.objs.size+2) (s1.heap.objs.size+3) s1.heap.objs.size (s1.heap.objs.size+1) t u:=by simp only[id] at lt1 ME;constructor<;>exact λz=>by have:(_:Nat)=_:=z;clear z;first | omega | (subst this;omega)
 refine ZL.zl_call (s:={s1 with heap:=h'}) (I2.ok.hd hc) D e5 e4 e3 e1 e2 (g1.isList.at λo e=>k5 _ o e) (g2.isList.at λo e=>k5 _ o e) (by rw[←Ah];have:=rv1.length;simp;omega) λh2 tk acc c as hk hS hG hacc=>?_
 dsimp only at hk hS hG ⊢;have I3:Inv X pins σ H1 {s1 with heap:=h2,toks:=tk}:=I2.turnedN (t':=tk) [s1.heap.objs.size+4,s1.heap.objs.size+3,s1.heap.objs.size,s1.heap.objs.size+1] (λb hb=>?_) hk
 · have hal:as.length=(xs.zip ys).length:=by
    rw[hG.1];have:=rv1.length;have:=rv2.length;simp[EV];omega
   have hlo:∀x∈as,s1.heap.objs.size≤x∧h'.objs.size<x:=λx hx=>by obtain⟨j,hj⟩:=DI.mp hx;obtain⟨g,_⟩:=hG.2.2 j x hj;have g':h'.objs.size<x:=g;exact⟨by omega,g'⟩
   obtain⟨H2,I4,k4,t4⟩:=Wg (s:={s1 with heap:=h2,toks:=tk}) I1 as (xs.zip ys) H1 I3 hal hG.2.1 (λx hx=>⟨(hlo x hx).1,I1.hok.fresh (hlo x hx).1⟩) λj x p f1 f2=>by obtain⟨_,q',f3,f4⟩:=hG.2.2 j x f1;refine⟨[q'.1,q'.2],Zo rv1 rv2 j p q' f2 (by simpa using f3),_,f4,rfl,rfl,_,rfl⟩
   have nl:h'.objs.size ∉ as:=λhm=>Cs _ (hlo _ hm).2;have ln:s1.heap.objs.size≤h'.objs.size:=by omega
   have hn:H2 h'.objs.size=none:=by rw[k4 _ nl];exact I1.hok.fresh ln
   have h0:X.s₀.heap.get? h'.objs.size=none:=by
    rcases e:X.s₀.heap.get? h'.objs.size with _ | o
    · rfl
    · exact absurd (A8 (Ag e) (AM I1.sz ln)) (Cs _)
   refine⟨.ref h'.objs.size,IU H2 h'.objs.size (.lst (as.map V.ref)),I4.track7 (I1.fpOk ln hn) h0 ?_,rfl,q as H2 _ hal (λx hx=>I1.hok.fresh (hlo x hx).1) k4 t4 hn⟩;refine⟨by rw[Ab,hal,EV];omega,as.map Value.ref,c,Vr as,?_⟩;have:acc=(as.map Value.ref).toArray:=by rw[←hacc]
   rw[←this];exact hS
 · simp only[Ar,A6,or_false] at hb;have fp:∀c,s1.heap.objs.size≤c→Je X pins H1 c:=λc hc=>I1.fpOk hc (I1.hok.fresh hc);rcases hb with rfl | rfl | rfl | rfl
   all_goals exact fp _ (by first | exact Af _ | exact Db _ _)
open PySem PySem.Spec PyProof.Rows ST
structure RdsAt(H:Hp)(l:Addr)(ks:List P3):Prop where
 at':H l=some (.lst (ks.map λk=>V.ref k.1))
 ok:∀k∈ks,H k.1=some (.tup [.int k.2.1,.int k.2.2])
theorem RdsAt.same{H':Hp}{l:Addr}{ks:List P3}(h:RdsAt H l ks)(s:Same H H'):RdsAt H' l ks:=⟨s _ _ h.at',λk hk=>s _ _ (h.ok k hk)⟩
theorem zjp:∀{l m:List PR},Kn l→Kn m→l.Nodup→m.Nodup→(∀k,k∈l↔k∈m)→l=m:=by
 intro l m h1 h2 n1 n2 hm;have pm:l.Perm m:=(Fy n1 n2).mpr hm;refine pm.eq_of_pairwise (le:=λa b=>KM b a=false) ?_ h1 h2;intro a b ha hb g1 g2;rw[←Dc,Ny] at g1 g2
 ext<;>omega
theorem Y9{K:Ae}{js:JF}{wi1:TI}{te:TE}{M:List P3→Hp→Prop}{u v:Option V}(ps:List Int)(F:Int→List PR)(hq:SqL K H a (ps.map V.int))(hσ:Kh js σ=[none,none,u,v])
 (hB:∀zs:List PR,zs.Nodup→(∀k∈zs,∃c∈ps,k∈F c)→zs.length≤24)
 (hi:∀c∈ps,∀(y:Option V)(H':Hp)(R:It→Hp→Prop),Same H H'→(∀l ks H2,Same H' H2→RdsAt H2 l ks→ks.map (·.2)=F c→R (Lz K l) H2)→wi1 [some (.int c),y,u,v] H' R)
 (he:∀(x:Option V)(y:V)(H':Hp)(R:VK),R y H'→te [x,some y,u,v] H' R)
 (hM:∀ks H',Same H H'→(∀z∈ks,H' z.1=some (.tup [.int z.2.1,.int z.2.2]))→(ks.map (·.2)).Nodup→(∀k,k∈ks.map (·.2)↔∃c∈ps,k∈F c)→ks.length≤24→M ks H'):
 Qb (Lz K a) js (KY 0) LS wi1 (KY 1) LS te σ H M:=by
 have lq:(ps.map V.int).length=ps.length:=Ab _;refine⟨λi m σ' ys H'=>m=ps.length - i∧i≤ps.length∧(∃y0 y1,σ'=[y0,y1,u,v])∧Same H H'∧(∀z∈ys,H' z.1=some (.tup [.int z.2.1,.int z.2.2]))∧(ys.map (·.2)).Nodup∧∀k,k∈ys.map (·.2)↔∃c∈ps.take i,k∈F c,⟨ps.length,by simp,Bc _,⟨none,none,hσ⟩,λ_ _ e=>e,by simp,by simp,by simp⟩,?_⟩;rintro i m σ' ys H1 ⟨rfl,hi1,⟨y0,y1,rfl⟩,s1,t1,n1,m1⟩;by_cases hlt:i<ps.length
 · right
   have eq:ps[i]?=some ps[i]:=by simp
   have hx:(ps.map V.int)[i]?=some (V.int ps[i]):=by rw[Am,eq];rfl
   have hm:=Av eq;generalize ps[i]=c at*;refine⟨⟨_,_,s1.seq hq,hx⟩,?_⟩;rintro x H2 ⟨rfl,hx2⟩;have:some (V.int c)=some x:=hx.symm.trans (hx2 _ (s1.seq hq));cases this;refine UL ?_;refine hi c hm y1 H2 _ s1 λl ks H3 s3 P3' eF=>?_;have lk:(ks.map λk=>V.ref k.1).length=ks.length:=Ab _;refine⟨λj m1 σ3 zs H5=>m1=ks.length - j∧j≤ks.length∧(∃y1,σ3=[some (.int c),y1,u,v])∧Same H3 H5∧(∀z∈zs,H5 z.1=some (.tup [.int z.2.1,.int z.2.2]))∧(zs.map (·.2)).Nodup∧∀k,k∈zs.map (·.2)↔(∃c∈ps.take i,k∈F c)∨k∈(ks.take j).map (·.2),
    ⟨ks.length,by simp,Bc _,⟨_,rfl⟩,λ_ _ e=>e,λz hz=>s3 _ _ (t1 z hz),n1,λk=>by rw[m1];simp⟩,?_⟩
   rintro j m2 σ3 zs H5 ⟨rfl,hj,⟨y1',rfl⟩,s5,t5,n5,m5⟩;have P5:=P3'.same s5;have few:zs.length≤24:=by
    have:=hB (zs.map (·.2)) n5 λk hk=>by
     rcases(m5 k).mp hk with⟨c',hc',h⟩ | h
     · exact⟨c',Dr hc',h⟩
     · refine⟨c,hm,?_⟩;rw[←eF];obtain⟨z,hz,rfl⟩:=Ax.mp h;exact Bs (Dr hz)
    rw[Ab] at this;exact this
   by_cases hjl:j<ks.length
   · right
     have er:ks[j]?=some ks[j]:=by simp
     have hmk:=Av er;have hy:(ks.map λk=>V.ref k.1)[j]?=some (V.ref ks[j].1):=by rw[Am,er];rfl
     have tk:=KJ er;generalize ks[j]=z at*;refine⟨⟨_,_,SqL.of P5.at',hy⟩,by omega,?_⟩;rintro x H6 ⟨rfl,hx6⟩;have:some (V.ref z.1)=some x:=hy.symm.trans (hx6 _ (SqL.of P5.at'));cases this;refine UL ?_;refine he _ _ _ _ ⟨z.1,z.2,rfl,P5.ok z hmk,t5,λzs' pm=>⟨ks.length - (j+1),by omega,rfl,hjl,⟨_,rfl⟩,s5,?_,?_,?_⟩⟩
     · intro z' hz';have:=pm.mem_iff.mp hz'
       split at this
       · exact t5 z' this
       · rcases As.mp this with h | h
         · exact t5 z' h
         · rw[Ak] at h;subst h;exact P5.ok z hmk
     · refine(pm.map (·.2)).nodup_iff.mpr ?_
       split
       · exact n5
       · rename_i hn;rw[Aq,Bf];refine⟨n5,by simp,λp hp q hq=>?_⟩;simp at hq;rintro rfl;exact hn (hq ▸ hp)
     · intro k;rw[(pm.map (·.2)).mem_iff,tk,Aq,As (s:=(ks.take j).map _)]
       split
       · rename_i hk;rw[m5];constructor
         · rintro(h | h)
           · exact .inl h
           · exact .inr (.inl h)
         · rintro(h | h | h)
           · exact .inl h
           · exact .inr h
           · simp at h;subst h;exact(m5 _).mp hk
       · rw[Aq,As,m5];constructor
         · rintro((h | h) | h)
           · exact .inl h
           · exact .inr (.inl h)
           · exact .inr (.inr h)
         · rintro(h | h | h)
           · exact .inl (.inl h)
           · exact .inl (.inr h)
           · exact .inr h
   · left
     have e:j=ks.length:=by omega
     subst e;refine⟨⟨_,SqL.of P5.at',by rw[lk];exact Af _⟩,ps.length - (i+1),by omega,rfl,hlt,⟨_,_,rfl⟩,s1.trans (s3.trans s5),t5,n5,λk=>?_⟩;rw[m5,Bx,eF,KJ eq];simp only[As,Ak];constructor
     · rintro(⟨c',h1,h2⟩ | h)
       · exact⟨c',.inl h1,h2⟩
       · exact⟨c,.inr rfl,h⟩
     · rintro⟨c',h1 | h1,h2⟩
       · exact .inl ⟨c',h1,h2⟩
       · subst h1;exact .inr h2
 · left
   have e:i=ps.length:=by omega
   subst e;rw[Bx] at m1;refine⟨⟨_,s1.seq hq,by rw[lq];exact Af _⟩,hM ys H1 s1 t1 n1 m1 ?_⟩;have:=hB (ys.map (·.2)) n1 λk hk=>(m1 k).mp hk;rw[Ab] at this;exact this
theorem XC{W:List Int}{post:Int}(w:WB.Web W)(hp:WB.Post W post){zs:List PR}(n:zs.Nodup)(h:∀k∈zs,RC.Awy W post k.1 k.2):zs.length≤24:=by
 have nd:(zs.map (·.2)).Nodup:=by
  rw[List.nodup_iff_pairwise_ne,List.pairwise_map];refine n.imp_of_mem λ{a b}ha hb hne e=>hne ?_;have h1:=(RC.awy_src w hp (h a ha)).2;have h2:=(RC.awy_src w hp (h b hb)).2;rw[e,h2] at h1
  ext
  · exact h1.symm
  · exact e
 have:=WB.nodup_len (W.length+1) _ nd λy hy=>by obtain⟨k,hk,rfl⟩:=Ax.mp hy;obtain⟨a,b⟩:=(h k hk).2.1;omega
 have:=w.1;rw[Ab] at*;omega
def SN:Sp:=λvs H Q _=>∃(a:Addr)(W:List Int)(p q:Int),vs=[.ref a,.int p,.int q]∧WebAt H a W∧WB.Post W p∧WB.Post W q∧
 ∀(l:Addr)(ks:List P3)(H':Hp),Same H H'→H l=none→RdsAt H' l ks→ks.map (·.2)=RC.steps (WB.wayB W p q)→Q (.ref l) H'
def Kb(xs:List Stand)(p:List PP)(W:List Int)(k:PR):Prop:=∃x∈xs,KP x.ws p=true∧x.post∈WB.sideL W k.1 k.2
def Up:Sp:=λvs H Q _=>∃(a l c:Addr)(W:List Int)(xs:List Stand)(post:Int)(p:List PP),vs=[.ref a,.ref l,.int post,.ref c]∧WebAt H a W∧StsAt H W l xs∧WB.Post W post∧PieceAt H c p∧POk p∧
 ∀(r:Addr)(ks:List P3)(H':Hp),Same H H'→H r=none→RdsAt H' r ks→Kn (ks.map (·.2))→(ks.map (·.2)).Nodup→(∀k,k∈ks.map (·.2)↔RC.Awy W post k.1 k.2∧Kb xs p W k)→Q (.ref r) H'
def TC:Sp:=λvs H Q _=>∃(a:Addr)(W:List Int)(post:Int),vs=[.ref a,.int post]∧WebAt H a W∧WB.Post W post∧
 ∀(r:Addr)(ks:List P3)(H':Hp),Same H H'→H r=none→RdsAt H' r ks→Kn (ks.map (·.2))→(ks.map (·.2)).Nodup→(∀k,k∈ks.map (·.2)↔RC.Awy W post k.1 k.2)→ks.length≤24→Q (.ref r) H'
def Ky(a b:Int):DY:= .tup [.int a,.int b]
theorem Ye{t:Addr}{a b:Int}(h:H t=some (.tup [.int a,.int b])):RepY H (Ky a b) (.ref t):=MA h (RepYs.cons (by rw[RepY]) (RepYs.cons (by rw[RepY]) RepYs.nil)) (by simp)
theorem Zu(a b:Int):J6 (Ky a b)≤3:=by
 unfold Ky;rw[J6];have:Ki [.int a,.int b]≤1:=LC λd hd=>by simp only[Ar,A6,or_false] at hd;rcases hd with rfl | rfl<;>rw[J6]<;>first | omega | simp
 omega
mutual
def JX:DY→Bool
 | .dic=>false
 | .da _=>false
 | .lst ds=>JG ds
 | .tup ds=>JG ds
 | .non=>true
 | .bl _=>true
 | .int _=>true
 | .str _=>true
def JG:List DY→Bool
 | []=>true
 | d::ds=>JX d && JG ds
end
theorem MY:∀{ds:List DY},(∀d∈ds,JX d=true)→JG ds=true
 | [],_=>by rw[JG]
 | d::ds,h=>by rw[JG,h d Ai,MY λx hx=>h x (Aj _ hx)];rfl
theorem Q3:∀{ds:List DY}{i:Nat}{d:DY},JG ds=true→ds[i]?=some d→JX d=true
 | [],i,d,_,e=>by simp at e
 | x::ds,0,d,h,e=>by rw[JG,AX] at h;simp at e;exact e ▸ h.1
 | x::ds,i+1,d,h,e=>by rw[JG,AX] at h;exact Q3 h.2 (by simpa using e)
def Qm(m:Nat):Sp:=λvs H Q _=>∃(v v':V)(d:DY),vs=[v,v']∧m≤9∧RepY H d v∧RepY H d v'∧(J6 d≤m∧JX d=true)∧∀H',Same H H'→Q (.bl true) H'
theorem Xc(a b:Int):JX (Ky a b)=true:=by simp[Ky,JX,JG]
theorem Sa(w:List WP):JX (Lh w)=true:=by unfold Lh;rw[JX];refine MY λd hd=>?_;obtain⟨p,_,rfl⟩:=Ax.mp hd;obtain⟨f,lo,hi⟩:=p;cases lo<;>cases hi<;>simp[JX,JG,Lw,eD]
theorem Xd(ws:List (List WP)):JX (.lst (ws.map Lh))=true:=by rw[JX];refine MY λd hd=>?_;obtain⟨w,_,rfl⟩:=Ax.mp hd;exact Sa w
theorem Xe(W:List Int)(cs:List (Str×Int×List (Addr×List WP))):JX (KU W cs)=true:=by
 unfold KU;have h1:JG (W.map DY.int)=true:=MY λd hd=>by obtain⟨x,_,rfl⟩:=Ax.mp hd;rw[JX]
 have h2:JG (cs.map Kl)=true:=MY λd hd=>by obtain⟨c,_,rfl⟩:=Ax.mp hd;unfold Kl;have:=Xd (c.2.2.map (·.2));rw[JX] at this;simp only[JX,JG,this,Bool.and_self]
 simp only[JX,JG,h1,h2,Bool.and_self]
theorem LK{te:TE}{g:TG}{t2:TS}{D:Ends}(h:∀Z:VK,(∀v H1,g v σ H1 (λσ2 H2=>t2 D σ2 H2)→Z v H1)→te σ H Z):Lq (KQ te g) t2 D σ H:=h _ λ_ _ z=>z
theorem J7{v:V}{N:St→Hp→Prop}(h:let σ':=σ.set i (some v);N σ' H):KY i v σ H N:=h
open PySem PySem.Spec PyProof.Rows ST
def No(ps:List PR):DY:= .lst (ps.map λk=>Ky k.1 k.2)
theorem Vs:∀ks:List P3,(∀k∈ks,H k.1=some (.tup [.int k.2.1,.int k.2.2]))→RepYs H ((ks.map (·.2)).map λk=>Ky k.1 k.2) (ks.map λk=>V.ref k.1)
 | [],_=>RepYs.nil
 | k::ks,h=>RepYs.cons (Ye (h k (by simp))) (Vs ks λx hx=>h x (by simp[hx]))
theorem U6{l:Addr}{ks:List P3}(h:RdsAt H l ks)(n:ks.length≤24):RepY H (No (ks.map (·.2))) (.ref l):=O5 h.at' (Vs ks h.ok) (by rw[Ab];omega)
theorem ZY(ps:List PR):J6 (No ps)≤6:=by
 unfold No;rw[J6];have:Ki (ps.map λk=>Ky k.1 k.2)≤3:=LC λd hd=>by obtain⟨t,_,rfl⟩:=Ax.mp hd;exact Zu _ _
 omega
theorem Ym(ps:List PR):JX (No ps)=true:=by unfold No;rw[JX];refine MY λd hd=>?_;obtain⟨t,_,rfl⟩:=Ax.mp hd;exact Xc _ _
theorem Z4{W F:List Int}{xs:List Stand}{p:List PP}{k:PR}(h:∀x,x∈F↔x∈WB.sideL W k.1 k.2):((KG (WB.has F) xs).any λw=>Kg w.2 p)=true↔Kb xs p W k:=by
 unfold KG Kb KP;simp only[DN,DS,BJ,WB.has_iff,h];constructor
 · rintro⟨w,⟨x,⟨hx,hs⟩,hw⟩,ht⟩;exact⟨x,hx,⟨w,hw,ht⟩,hs⟩
 · rintro⟨x,hx,⟨w,hw,ht⟩,hs⟩;exact⟨w,⟨x,⟨hx,hs⟩,hw⟩,ht⟩
theorem ZC{W:List Int}{xs ys:List Stand}{p:List PP}{k:ST.PR}(h:ys.map JH=xs.map JH):Kb ys p W k↔Kb xs p W k:=by
 have key:∀zs:List Stand,Kb zs p W k↔∃c∈zs.map JH,KP c.2.2 p=true∧c.2.1∈WB.sideL W k.1 k.2:=λzs=>by
  unfold Kb;simp only[Ax];constructor
  · rintro⟨x,hx,h1,h2⟩;exact⟨JH x,⟨x,hx,rfl⟩,h1,h2⟩
  · rintro⟨_,⟨x,hx,rfl⟩,h1,h2⟩;exact⟨x,hx,h1,h2⟩
 rw[key,key,h]
end L2
set_option maxHeartbeats 4000000
namespace K62
open PySem PySem.Spec PyProof.Rows L2
theorem JR{α:Type}{l:List (Addr×α)}{x:V}(h:(l.map λy=>V.ref y.1)[i]?=some x):∃y,l[i]?=some y∧x=V.ref y.1:=by
 rw[Am] at h;cases e:l[i]? with
 | none=>rw[e] at h;cases h
 | some y=>rw[e] at h;exact⟨y,rfl,(AD h).symm⟩
def top(i:Nat):Stmt:=PySem.Challenge.pw_newsways_k62_roads_crossed.main.body.getD i (.Pass ⟨0,0,0,0⟩)
abbrev QL:Stmt:=top 7
abbrev Qt:Stmt:=top 8
abbrev QD:Stmt:=top 9
abbrev Rk:Stmt:=top 10
abbrev OV:Stmt:=top 13
abbrev Rz:Stmt:=top 14
abbrev R1:Stmt:=top 15
abbrev O_:Stmt:=top 16
abbrev OY:Stmt:=top 17
abbrev OW:Stmt:=top 18
abbrev Rp:Stmt:=top 19
abbrev Pc:Stmt:=top 20
abbrev R7:Stmt:=top 21
abbrev Pf:Stmt:=top 22
abbrev OR:Stmt:=top 23
abbrev QB:Stmt:=top 25
abbrev OI:Stmt:=top 28
abbrev Rs:Stmt:=top 29
abbrev QC:Stmt:=top 30
abbrev Re:Stmt:=top 31
abbrev QT:Stmt:=top 32
abbrev NF:Stmt:=top 33
abbrev QK:Stmt:=top 38
abbrev NE:Stmt:=top 39
abbrev Ry:Stmt:=top 40
abbrev R6:Stmt:=top 41
abbrev NJ:Stmt:=top 37
abbrev NI:Stmt:=top 43
abbrev QR:Stmt:=top 44
abbrev OX:Stmt:=top 45
abbrev Rg:Stmt:=top 46
abbrev QN:Stmt:=top 47
abbrev QO:Stmt:=top 48
abbrev QQ:Stmt:=top 49
abbrev QS:Stmt:=top 50
abbrev Rj:Stmt:=top 51
abbrev Rt:Stmt:=top 52
abbrev OQ:Stmt:=top 53
abbrev QP:Stmt:=top 54
abbrev Pd:Stmt:=top 55
abbrev OS:Stmt:=top 56
abbrev ON:Stmt:=top 57
abbrev Rf:Stmt:=top 58
abbrev Pe:Stmt:=top 59
abbrev Rh:Stmt:=top 60
abbrev Ri:Stmt:=top 61
abbrev Ph:Stmt:=top 62
abbrev Rx:Stmt:=top 63
abbrev Pi:Stmt:=top 64
abbrev R5:Stmt:=top 65
abbrev QM:Stmt:=top 66
abbrev Me:Stmt:=top 67
def Pj(m:Nat):Sp:=λvs H Q _=>∃(v v':V)(d:DY),vs=[v,v']∧m≤9∧RepY H d v∧RepY H d v'∧J6 d≤m∧∀H',Same H H'→Q (.bl true) H'
def RM:Sp:=λvs H Q _=>∃(a:Addr)(p:List PP),vs=[.ref a]∧PieceAt H a p∧POk p∧∀H',Same H H'→Q (.bl true) H'
def spPoints:Sp:=λvs H Q _=>∃(a t:Addr)(fs:List Str)(lo sz wide:Int),vs=[.ref a,.ref t,.int wide]∧H a=some (.lst (fs.map V.str))∧fs.length≤3∧(∀f∈fs,FieldOk f)∧fs.Pairwise Kr∧H t=some (.tup [.int lo,.int sz])∧1≤sz∧sz≤10^10∧1≤wide∧wide≤9∧
 ∀(r:Addr)(qs:List (Addr×List PP))(H':Hp),Same H H'→H' r=some (.lst (qs.map λq=>V.ref q.1))→qs.length≤8000→(∀q∈qs,PieceAt H' q.1 q.2∧POk q.2)→Q (.ref r) H'
def RN:Sp:=λvs H Q _=>∃(a l c:Addr)(w:List WP)(os:List (Addr×List WP))(p:List PP),vs=[.ref a,.ref l,.ref c]∧WishAt H a w∧WsAt H l os∧PieceAt H c p∧POk p∧∀H',Same H H'→Q (.bl (Kg w p && os.all λo=>!Kg o.2 p)) H'
def Ma(p:PP):DY:= .tup [.str p.1,.int p.2]
def L_(p:List PP):DY:= .tup (p.map Ma)
theorem UQ:∀ps:List (Addr×PP),(∀p∈ps,H p.1=some (.tup [.str p.2.1,.int p.2.2]))→(∀p∈ps,p.2.1.length≤8)→RepYs H ((ps.map (·.2)).map Ma) (ps.map λp=>V.ref p.1)
 | [],_,_=>RepYs.nil
 | p::ps,h,hl=>by refine RepYs.cons ?_ (UQ ps (λx hx=>h x (Aj _ hx)) λx hx=>hl x (Aj _ hx));refine MA (h p Ai) (RepYs.cons ?_ (RepYs.cons (by rw[RepY]) RepYs.nil)) (by simp);rw[RepY];exact⟨rfl,AM (hl p Ai) (by decide)⟩
theorem Yz{p:List PP}(h:PieceAt H a p)(ok:POk p):RepY H (L_ p) (.ref a):=by obtain⟨ps,rfl,e,f⟩:=h;refine MA e (UQ ps f λp hp=>?_) (by have:=ok.len;rw[Ab] at*;omega);exact(ok.ok p.2 (Bs hp)).eight
theorem Zz(p:List PP):J6 (L_ p)≤2:=by
 unfold L_;rw[J6];have:Ki (p.map Ma)≤1:=LC λd hd=>by obtain⟨p,_,rfl⟩:=Ax.mp hd;unfold Ma;simp only[J6,Ki];omega
 omega
def WC:List (List WP)→DY
 | []=> .non
 | p::_=>L_ (MU p)
theorem Nd{v:V}{ps:List (List WP)}(h:Xv H v ps)(ok:∀p∈ps,WOk p):RepY H (WC ps) v:=by
 cases ps with
 | nil=> have:v= .non:=h;subst this;show RepY H .non .non;rw[RepY]
 | cons p ps=> obtain⟨t,rfl,h⟩:=h;exact Yz h (ziM (ok p Ai))
theorem MG(ps:List (List WP)):J6 (WC ps)≤2:=by
 cases ps with
 | nil=>show J6 .non≤2;rw[J6];omega;all_goals simp
 | cons p ps=>exact Zz _
section
variable{K:Ae}{mg:Str→Option Value}{base:Heap}
theorem Jt{N P:List Str}{sc:Scope}(h1:sc.kind= .function:=by rfl)(h2:sc.isCoroutine=false:=by rfl)(h3:sc.isGenerator=false:=by rfl)(h4:N.Nodup:=by decide+kernel)(h5:N.take P.length=P:=by rfl)(h6:∀x∈P,sc.names.lookup x=some .local∨sc.names.lookup x=some .cell:=by decide+kernel)(h7:∀y∈sc.names,y.2≠ .free:=by decide+kernel):FnScope N P sc:=⟨h1,h2,h3,h4,h5,h6,h7⟩
theorem zg8:FnScope ["thing"] ["thing"] (Jh QL):=Jt
theorem zjF:FnScope ["thing"] ["thing"] (Jh Qt):=Jt
theorem He:FnScope ["thing","low","high"] ["thing"] (Jh QD):=Jt
theorem Hf:FnScope ["span","number","low","high"] ["span","number"] (Jh Rk):=Jt
theorem zha:FnScope ["thing"] ["thing"] (Jh OV):=Jt
theorem Hg:FnScope ["thing","field","low","high"] ["thing"] (Jh Rz):=Jt
theorem Hh:FnScope ["thing","field","number"] ["thing"] (Jh R1):=Jt
theorem zdQ:FnScope ["parts"] ["parts"] (Jh O_):=Jt
theorem ziE:FnScope ["thing"] ["thing"] (Jh OY):=Jt
theorem zg9:FnScope ["thing"] ["thing"] (Jh OW):=Jt
theorem zeI:FnScope ["thing"] ["thing"] (Jh Rp):=Jt
theorem zfh:FnScope ["thing"] ["thing"] (Jh Pc):=Jt
theorem zcH:FnScope ["thing"] ["thing"] (Jh R7):=Jt
theorem Hi:FnScope ["wish","piece","numbers","field","low","high"] ["wish","piece"] (Jh Pf):=Jt
theorem zgd:FnScope ["wishes","piece"] ["wishes","piece"] (Jh OR):=Jt
theorem ziG:FnScope ["thing"] ["thing"] (Jh QB):=Jt
theorem zjE:FnScope ["thing"] ["thing"] (Jh OI):=Jt
theorem zge:FnScope ["thing"] ["thing"] (Jh Rs):=Jt
theorem ziF:FnScope ["web","thing"] ["web","thing"] (Jh QC):=Jt
theorem zfg:FnScope ["web","thing"] ["web","thing"] (Jh Re):=Jt
theorem Hj:FnScope ["web","p","posts"] ["web","p"] (Jh QT):=Jt
theorem Hk:FnScope ["web","p","q","back_from_p","back_from_q","ahead","behind","turn"] ["web","p","q"] (Jh NF):=Jt
theorem Hl:FnScope ["web","thing","hand","place","wishes"] ["web","thing"] (Jh QK):=Jt
theorem zfi:FnScope ["web","thing"] ["web","thing"] (Jh NE):=Jt
theorem zef:FnScope ["web","stands"] ["web","stands"] (Jh Ry):=Jt
theorem Hm:FnScope ["web","p","q","posts"] ["web","p","q"] (Jh R6):=Jt
theorem Hn:FnScope ["web","stands","post","piece","places"] ["web","stands","post","piece"] (Jh NJ):=Jt
theorem Ho:FnScope ["script","great","small","seed","number"] ["script"] (Jh NI):=Jt
theorem Hq:FnScope ["well","many","number","cell"] ["well","many"] (Jh QR):=Jt
theorem Hr:FnScope ["well","most","letters"] ["well","most"] (Jh OX):=Jt
theorem Hs:FnScope ["well","many","letters","found","k","pick","first","letter","at","word"] ["well","many"] (Jh Rg):=Jt
theorem Ht:FnScope ["well","pick","sign","number"] ["well"] (Jh QN):=Jt
theorem Hu:FnScope ["well","pick","size"] ["well"] (Jh QO):=Jt
theorem Hv:FnScope ["well","grid","wide","pick","low","high"] ["well","grid","wide"] (Jh QQ):=Jt
theorem Hw:FnScope ["well","names","grid","wide","parts","field","low","high"] ["well","names","grid","wide"] (Jh QS):=Jt
theorem Hy:FnScope ["well","names","grid","wide","many","found","k","pick","wish","old","at"] ["well","names","grid","wide","many"] (Jh Rj):=Jt
theorem Hz:FnScope ["wish","piece","there","field","low","high"] ["wish","piece"] (Jh Rt):=Jt
theorem Wt:FnScope ["found","due"] ["found","due"] (Jh OQ):=Jt
theorem HA:FnScope ["well","names","grid","wide","many","found","wish"] ["well","names","grid","wide","many"] (Jh QP):=Jt
theorem HB:FnScope ["well","row","left","many"] ["well","row"] (Jh Pd):=Jt
theorem HC:FnScope ["well","most","pick","many"] ["well","most"] (Jh OS):=Jt
theorem HD:FnScope ["web","p","found"] ["web","p"] (Jh ON):=Jt
theorem HE:FnScope ["web","p","q","found","at","post"] ["web","p","q"] (Jh Rf):=Jt
theorem HF:FnScope ["well","row","left"] ["well","row"] (Jh Pe):=Jt
theorem HG:FnScope ["well","web","pool","many","found","hand"] ["well","web","pool","many"] (Jh Rh):=Jt
theorem HH:FnScope ["stands","posts","found","hand","post","wishes"] ["stands","posts"] (Jh Ri):=Jt
theorem zcY:FnScope ["stands"] ["stands"] (Jh Ph):=Jt
theorem HI:FnScope ["well","names","grid","wide","found","field","low","pick","within"] ["well","names","grid","wide"] (Jh Rx):=Jt
theorem HJ:FnScope ["well","names","more"] ["well","names"] (Jh Pi):=Jt
theorem HK:FnScope ["well","piece","at","number"] ["well","piece"] (Jh R5):=Jt
theorem HL:FnScope ["web","post","found","at","p","source","q"] ["web","post"] (Jh QM):=Jt
theorem HM:FnScope ["script","well","large","web","names","grid","wide","pool","stands","own","k","post","piece","due","p","q","handed","found"] ["script"] (Jh Me):=Jt
section
variable(P:Bw)(w:World)(K:Ae)(mg:Str→Option Value)(base:Heap)
abbrev Γ0:=Jr P w K mg base 1 "is_whole" ["thing"] (Ut K)
abbrev Γ1:=Jr P w K mg base 2 "is_end" ["thing"] (SO K)
abbrev Γ4:=Jr P w K mg base 1 "is_field" ["thing"] (O8)
abbrev Γ2:=Jr P w K mg base 3 "is_span" ["thing"] (Ve K)
abbrev Γ7:=Jr P w K mg base 1 "fields_ascend" ["parts"] (Vb)
abbrev Γ5:=Jr P w K mg base 4 "is_wish_part" ["thing"] (We)
abbrev Γ6:=Jr P w K mg base 2 "is_piece_part" ["thing"] (Wv)
abbrev Γ9:=Jr P w K mg base 3 "is_piece" ["thing"] (VJ)
abbrev Γ8:=Jr P w K mg base 5 "is_wish" ["thing"] (Vf)
abbrev Γ11:=Jr P w K mg base 6 "are_wishes" ["thing"] (Uo)
abbrev Γ3:=Jr P w K mg base 1 "span_holds" ["span","number"] (NM)
abbrev Γ13:=Jr P w K mg base 2 "wish_takes" ["wish","piece"] (OC)
abbrev Γ16:=Jr P w K mg base 2 "is_web" ["thing"] (Uq)
abbrev Γ18:=Jr P w K mg base 2 "is_post" ["web","thing"] (Vd)
abbrev Γ20:=Jr P w K mg base 1 "way_back" ["web","p"] (VN)
abbrev Γ15:=Jr P w K mg base 2 "is_name" ["thing"] (O8)
abbrev Γ12:=Jr P w K mg base 7 "are_unlike_wishes" ["thing"] (Vj)
abbrev Γ22:=Jr P w K mg base 8 "is_stand" ["web","thing"] (VL)
abbrev Γ17:=Jr P w K mg base 3 "check_web" ["thing"] (Vc)
abbrev Γ23:=Jr P w K mg base 9 "are_stands" ["web","thing"] (VV)
abbrev Γ21:=Jr P w K mg base 2 "way_between" ["web","p","q"] (SQ)
abbrev Γ24:=Jr P w K mg base 10 "check_stands" ["web","stands"] (VW)
abbrev Γ19:=Jr P w K mg base 3 "check_post" ["web","thing"] (VH)
abbrev Γ10:=Jr P w K mg base 4 "check_piece" ["thing"] (Wb)
abbrev Γ14:=Jr P w K mg base 3 "one_takes" ["wishes","piece"] (Wd)
abbrev Γ25:=Jr P w K mg base 3 "roads_between" ["web","p","q"] (SN)
abbrev Γ28:=Jr P w K mg base 1 "_law_take" ["well","many"] (TL)
abbrev Γ29:=Jr P w K mg base 2 "_law_name" ["well","most"] (TJ)
abbrev Γ31:=Jr P w K mg base 2 "_law_base" ["well"] (TD)
abbrev Γ33:=Jr P w K mg base 2 "_law_span" ["well","grid","wide"] (Us)
abbrev Γ34:=Jr P w K mg base 3 "_law_wish" ["well","names","grid","wide"] (Uu)
abbrev Γ35:=Jr P w K mg base 4 "_law_wishes" ["well","names","grid","wide","many"] (VO)
abbrev Γ41:=Jr P w K mg base 1 "_law_near" ["web","p"] (Ur)
abbrev Γ43:=Jr P w K mg base 2 "_law_turned" ["well","row"] (Vi)
abbrev Γ30:=Jr P w K mg base 3 "_law_fields" ["well","many"] (VI)
abbrev Γ39:=Jr P w K mg base 2 "_law_picked" ["well","row"] (Vg)
abbrev Γ27:=Jr P w K mg base 1 "_law_well" ["script"] (TN K)
abbrev Γ40:=Jr P w K mg base 2 "_law_web" ["well","most"] (TM)
abbrev Γ32:=Jr P w K mg base 3 "_law_grid" ["well"] (TF)
abbrev Γ38:=Jr P w K mg base 5 "_law_pool" ["well","names","grid","wide","many"] (TK)
abbrev Γ44:=Jr P w K mg base 4 "_law_stands" ["well","web","pool","many"] (Vh)
abbrev Γ48:=Jr P w K mg base 3 "_law_more_names" ["well","names"] (Wu)
abbrev Γ49:=Jr P w K mg base 2 "_law_far_piece" ["well","piece"] (Wc)
abbrev Γ50:=Jr P w K mg base 2 "_law_away" ["web","post"] (TC)
abbrev Γ26:=Jr P w K mg base 11 "roads_crossed" ["web","stands","post","piece"] (Up)
abbrev Γ47:=Jr P w K mg base 2 "_law_some_piece" ["well","names","grid","wide"] (Ww)
abbrev Γ46:=Jr P w K mg base 1 "_law_stands_kept" ["stands"] (TH)
abbrev Γ37:=Jr P w K mg base 11 "_law_alike" ["found","due"] (PN 9 Qm)
abbrev Γ36:=Jr P w K mg base 1 "_law_wants" ["wish","piece"] (OC)
abbrev Γ45:=Jr P w K mg base 1 "_law_wanted" ["stands","posts"] (VM)
abbrev Γ42:=Jr P w K mg base 2 "_law_beyond" ["web","p","q"] (VG)
end
theorem zq0:0≤Az:=by decide
theorem Mz:1≤Az:=by decide
theorem SB:4≤Az:=by decide
theorem zq5:5≤Az:=by decide
theorem zq6:6≤Az:=by decide
theorem zq8:8≤Az:=by decide
theorem Sf:BL (["sign"]:List Str):=by decide+kernel
theorem Oi:BL (["ahead","behind"]:List Str):=by decide+kernel
theorem Od:BL (["part"]:List Str):=by decide+kernel
theorem Se:BL (["wish"]:List Str):=by decide+kernel
theorem Ob:BL (["field","number"]:List Str):=by decide+kernel
theorem Oa:BL (["wish","piece"]:List Str):=by decide+kernel
theorem N_:BL (["at","post"]:List Str):=by decide+kernel
theorem Sd:BL (["post","back_from_q"]:List Str):=by decide+kernel
theorem Sc:BL (["post","back_from_p"]:List Str):=by decide+kernel
theorem Sb:BL (["stand","web"]:List Str):=by decide+kernel
theorem Lu:BL (["hand","place","wishes"]:List Str):=by decide+kernel
theorem Ls:BL (["hand","place","wishes","piece"]:List Str):=by decide+kernel
theorem Mo:BL (["place","road","web","post"]:List Str):=by decide+kernel
theorem Mn:BL (["cell"]:List Str):=by decide+kernel
theorem Oh:BL (["k","well","letters"]:List Str):=by decide+kernel
theorem Og:BL (["k","found","due"]:List Str):=by decide+kernel
theorem Mm:BL (["k","well","left"]:List Str):=by decide+kernel
theorem Of:BL (["place","well","pick"]:List Str):=by decide+kernel
theorem Oe:BL (["place","web","p"]:List Str):=by decide+kernel
theorem Lr:BL (["hand","post","wishes"]:List Str):=by decide+kernel
theorem Oc:BL (["k","well"]:List Str):=by decide+kernel
theorem JL:2≤Az:=by decide
theorem Nl:3≤Az:=by decide
variable{f:Addr}{fd:Cc}(B:Bl mg){tML':Tok}(qML':mg "MOST_LETTERS"=some (.int 8 tML')){tMR':Tok}(qMR':mg "MOST_ROADS"=some (.int 23 tMR')){tMH':Tok}(qMH':mg "MOST_HANDS"=some (.int 30 tMH')){tMW':Tok}(qMW':mg "MOST_WISHES"=some (.int 10 tMW'))
include B qML' qMR' qMH' qMW'
theorem zht(F:Fun K "is_whole" "is_whole" QL f fd)  :FnOk P w K mg base Jp 1 f fd ["thing"] (Ut K):=by
 refine F.ok zg8 (λvs H Q E h=>?_) (λcdv A outer s H vs Q E hr h=>?_)
 · obtain⟨v,t,rfl,hty,q⟩:=h;rfl
 obtain⟨v,t,rfl,hty,q⟩:=h;refine⟨_,(Jb (Jl (K3 (Jm (Kd (n:="")) rfl B.isinstance_ JT (IS (pv 0) (IS (JO (v:= .ty "int") rfl B.int_ PB rfl) IT))) (Kp (Yq (Jm (Kd (n:="")) rfl B.isinstance_ JT (IS (pv 0) (IS (JO (v:= .ty "bool") rfl B.bool_ Qg rfl) IT)))))))),?_⟩;cases hty
 all_goals first
  | exact⟨_,rfl,_,"int","int",true,rfl,.int _,rfl,_,rfl,IY ⟨_,rfl,_,"int","bool",false,rfl,.int _,rfl,_,rfl,q⟩⟩
  | exact⟨_,rfl,_,"bool","int",true,rfl,.bl _,rfl,_,rfl,IY ⟨_,rfl,_,"bool","bool",true,rfl,.bl _,rfl,_,rfl,q⟩⟩
  | exact⟨_,rfl,_,_,"int",false,rfl,(by first | exact .non | exact .str _ | exact .flt _ | (exact .lst (by assumption)) | (exact .frz (by assumption)) | (exact .tup (by assumption)) | (exact .dK (by assumption)) | (exact .dT (by assumption))),rfl,_,rfl,IW q⟩
theorem zj6(F:Fun K "is_end" "is_end" Qt f fd)(HN:Γ0 P w K mg base):FnOk P w K mg base Jp 2 f fd ["thing"] (SO K):=by
 refine F.ok zjF (λvs H Q E h=>?_) (λcdv A outer s H vs Q E hr h=>?_)
 · obtain⟨v,t,rfl,hty,q⟩:=h;rfl
 obtain⟨v,t,rfl,hty,q⟩:=h;refine⟨_,(Jb (Jl (Nr (M3 (LN (pv 0))) (Kp (Jd HN (hr.mono (by decide)) rfl (IS (pv 0) IT)))))),?_⟩;refine⟨_,rfl,_,rfl,?_⟩;cases hty
 case non=>exact IY q
 all_goals refine IW ?_
 case int i=>exact⟨_,rfl,_,_,rfl,.int _,q⟩
 all_goals exact⟨_,rfl,_,_,rfl,(by first | exact .bl _ | exact .str _ | exact .flt _ | (exact .lst (by assumption)) | (exact .frz (by assumption)) | (exact .tup (by assumption)) | (exact .dK (by assumption)) | (exact .dT (by assumption))),q⟩
theorem ziU(F:Fun K "is_span" "is_span" QD f fd)(HP:Γ1 P w K mg base):FnOk P w K mg base Jp 3 f fd ["thing"] (Ve K):=by
 refine F.ok He (λvs H Q E h=>?_) (λcdv A outer s H vs Q E hr h=>?_)
 · obtain⟨v,t,rfl,hty,hp,q⟩:=h;rfl
 obtain⟨v,t,rfl,hty,hp,q⟩:=h;refine⟨_,(IZ (J0 (PW.pt (KE (Ka (JQ (Jm (Kd (n:="")) rfl B.isinstance_ JT (IS (pv 0) (IS (JO (v:= .ty "tuple") rfl B.tuple_ L8 rfl) IT))))) (KI (Jy LI (Jm JK rfl B.len_ J9 (IS (pv 0) IT)) IV (Js _))))) (Jb (Jl J_)) Jz)
  (IZ (L7 (pv 0) (KZ rfl (J3 (Jn (i:=1) He.nd rfl (Or.inl rfl)) (J3 (Jn (i:=2) He.nd rfl (Or.inl rfl)) Ku))))
  (IZ (J0 (PW.pt (KE (Ka (JQ (Jd HP (hr.mono (by decide)) rfl (IS (pv 1) IT)))) (KI (Ka (JQ (Jd HP (hr.mono (by decide)) rfl (IS (pv 2) IT))))))) (Jb (Jl J_)) Jz)
  (Jb (Jl (Nr (M3 (LN (pv 1))) (Nr (M3 (LN (pv 2))) (Kp (LB L4 (pv 1) (pv 2) (Js _)))))))))),?_⟩
 have q0:La H v=false→Q (.bl false) H:=λh=>by rw[←h];exact q
 cases hty
 case tup a xs e=>
  refine⟨_,rfl,_,"tuple","tuple",true,rfl,.tup e,rfl,_,rfl,IW ⟨_,rfl,a,_,rfl,.inr (SqT.of e),rfl,_,rfl,?_⟩⟩;by_cases hl:xs.length=2
  · match xs,hl with
    | [x,y],_=>
     refine IW ⟨_,rfl,a,_,rfl,SqT.of e,rfl,_,_,rfl,_,_,rfl,rfl,?_⟩;obtain⟨t1,t2,h1,h2⟩:=hp a x y rfl e;have es:La H (.ref a)=(Kx x && Kx y && Sj x y):=by unfold La;simp only[e]
     rw[es] at q;refine⟨_,rfl,_,_,rfl,h1,_,rfl,?_⟩;cases ex:Kx x with
     | false=> rw[ex] at q;exact IY q
     | true=>
      rw[ex] at q;refine IW ⟨_,rfl,_,_,rfl,h2,_,rfl,?_⟩;cases ey:Kx y with
      | false=> rw[ey] at q;exact IY q
      | true=>
       rw[ey] at q;refine IW ⟨_,rfl,_,rfl,?_⟩;cases x with
       | non=>exact IY q
       | int i=>
        refine IW ⟨_,rfl,_,rfl,?_⟩;cases y with
        | non=>exact IY q
        | int j=>exact IW ⟨_,rfl,_,rfl,_,_,rfl,rfl,q⟩
        | _=>exact absurd ey A3
       | _=>exact absurd ex A3
  · have es:La H (.ref a)=false:=by
     unfold La;simp only[e]
     match xs,hl with
     | [],_=>rfl
     | [_],_=>rfl
     | [_,_],h=>exact absurd rfl h
     | _::_::_::_,_=>rfl
    have ed:(!decide (V.int ((xs.length:Nat):Int)=V.int 2))=true:=by
     have:¬V.int ((xs.length:Nat):Int)=V.int 2:=λz=>by injection z with z;omega
     rw[decide_eq_false this];rfl
    rw[es] at q;show if(!decide (V.int ((xs.length:Nat):Int)=V.int 2))=true then _ else _
    rw[ed];exact IY q
 case non=>exact⟨_,rfl,_,_,"tuple",false,rfl,.non,rfl,_,rfl,IY (q0 rfl)⟩
 case bl b=>exact⟨_,rfl,_,_,"tuple",false,rfl,(.bl b),rfl,_,rfl,IY (q0 rfl)⟩
 case int i=>exact⟨_,rfl,_,_,"tuple",false,rfl,(.int i),rfl,_,rfl,IY (q0 rfl)⟩
 case str x=>exact⟨_,rfl,_,_,"tuple",false,rfl,(.str x),rfl,_,rfl,IY (q0 rfl)⟩
 case flt x=>exact⟨_,rfl,_,_,"tuple",false,rfl,(.flt x),rfl,_,rfl,IY (q0 rfl)⟩
 case lst a xs e=>exact⟨_,rfl,_,_,"tuple",false,rfl,(.lst e),rfl,_,rfl,IY (q0 (by unfold La;simp only[e]))⟩
 case frz a o xs e=>exact⟨_,rfl,_,_,"tuple",false,rfl,(.frz e),rfl,_,rfl,IY (q0 (by unfold La;simp only[e]))⟩
 case dK a kvs e=>exact⟨_,rfl,_,_,"tuple",false,rfl,(.dK e),rfl,_,rfl,IY (q0 (by unfold La;simp only[e]))⟩
 case dT a kvs e=>exact⟨_,rfl,_,_,"tuple",false,rfl,(.dT e),rfl,_,rfl,IY (q0 (by unfold La;simp only[e]))⟩
theorem zfw(F:Fun K "span_holds" "span_holds" Rk f fd)  :FnOk P w K mg base Jp 1 f fd ["span","number"] (NM):=by
 refine F.ok Hf (λvs H Q E h=>?_) (λcdv A outer s H vs Q E hr h=>?_)
 · obtain⟨v,lo,hi,k,rfl,S1,q⟩:=h;rfl
 obtain⟨v,lo,hi,k,rfl,S1,q⟩:=h;refine⟨_,(IZ (L7 (pv 0) (KZ rfl (J3 (Jn (i:=2) Hf.nd rfl (Or.inl rfl)) (J3 (Jn (i:=3) Hf.nd rfl (Or.inl rfl)) Ku))))
  (Jb (Jl (K3 (Nr (M3 (LN (pv 2))) (Kp (LB L4 (pv 2) (pv 1) (Js _)))) (Kp (Nr (M3 (LN (pv 3))) (Kp (LB L4 (pv 1) (pv 3) (Js _))))))))),?_⟩
 obtain⟨a,rfl,e1⟩:=S1;refine⟨_,rfl,a,_,rfl,SqT.of e1,rfl,_,_,rfl,_,_,rfl,rfl,?_⟩;have up:∀(Q':VK),Q' (.bl (Mq hi k)) H→NK (λσ H Q=>Lp 3 σ H λx H1=>Q (.bl (decide (x= .non))) H1) (NL (LU λi j=>V.bl (decide (i≤j))) (Lp 1) (Lp 3)) [some (V.ref a),some (V.int k),some (eV lo),some (eV hi)] H Q':=λQ' h=>by
  refine⟨_,rfl,_,rfl,?_⟩;cases hi with
  | none=>exact IY h
  | some u=>exact IW ⟨_,rfl,_,rfl,_,_,rfl,rfl,h⟩
 cases lo with
 | none=>
  refine⟨_,rfl,_,rfl,IY ⟨_,rfl,IY (up _ ?_)⟩⟩;have z:JY none hi k=Mq hi k:=by simp only[JY,Mp,F8]
  rw[z] at q;exact q
 | some l=>
  refine⟨_,rfl,_,rfl,IW ⟨_,rfl,_,rfl,_,_,rfl,rfl,_,rfl,?_⟩⟩;cases hb:decide (l≤k) with
  | true=>
   have z:JY (some l) hi k=Mq hi k:=by simp only[JY,Mp,hb,F8]
   rw[z] at q;exact IY (up _ q)
  | false=>
   have z:JY (some l) hi k=false:=by simp only[JY,Mp,hb,Bool.false_and]
   rw[z] at q;exact IW q
theorem zhw(F:Fun K "is_field" "is_field" OV f fd)  :FnOk P w K mg base Jp 1 f fd ["thing"] (O8):=by
 refine F.ok zha (λvs H Q E h=>?_) (λcdv A outer s H vs Q E hr h=>?_)
 · obtain⟨x,rfl,F1,q⟩:=h;rfl
 obtain⟨x,rfl,F1,q⟩:=h;refine⟨_,(IZ (J0 (PW.pt (KE (Ka (JQ (Jm (Kd (n:="")) rfl B.isinstance_ JT (IS (pv 0) (IS (JO (v:= .ty "str") rfl B.str_ PH rfl) IT))))) (KI (Ka (YZ L4 L4 IV (Jm Wp rfl B.len_ J9 (IS (pv 0) IT)) (O2 (v:= .int 8) rfl qML' ⟨_,rfl⟩)))))) (Jb (Jl J_)) Jz)
  (Jb (Jl (Jm (Mi rfl) rfl B.all_ Mf (IS (K6 (N':=["sign"]) (js:=[none]) rfl (JN (N:=["thing"]) (outer:=Jh OV) (by decide+kernel)) (Yt (pv 0)) (λ_ _ _ _ _=>(Jn (i:=0) Sf rfl (Or.inl rfl))) (λ_ _ _ _ _=>Ke) (λ_ _ _ _ _=>(Qo Vn Vn Nv (pv 0) Nv))) IT))))),?_⟩
 have l1:(1:Int)≤(x.length:Int):=by have:=F1.one;omega
 have l8:(x.length:Int)≤8:=by have:=F1.eight;omega
 refine⟨_,rfl,_,"str","str",true,rfl,.str x,rfl,_,rfl,IW ⟨_,rfl,x,rfl,MN (by have:=F1.eight;omega),_,_,rfl,rfl,_,rfl,?_⟩⟩;rw[decide_eq_true l1];refine IY ⟨_,_,rfl,rfl,_,rfl,?_⟩;rw[decide_eq_true l8];refine IW ⟨_,rfl,x,rfl,λp hp=>?_⟩;have s0:=Jf hp (.lst []);have sl:(L2.signs x).length=x.length:=by unfold L2.signs;rw[Ab,Ah];rfl
 refine WW (xs:=L2.signs x) (λi σ' ys H'=>(∃v,σ'=[v])∧Same H H'∧H' p=some (.lst ys)∧ys=AR i (V.bl true)) ⟨⟨none,rfl⟩,s0,IX,rfl⟩ ?_ ?_ ?_
 · rintro i σ' ys H' hi ⟨_,_,h1,h2⟩;refine⟨h1,?_⟩;rw[h2,BK];have:=F1.eight;exact JB (by omega)
 · rintro i y σ' ys H' N hy ⟨⟨v,rfl⟩,s,h1,h2⟩ hN;unfold L2.signs at hy;rw[Am] at hy;cases hc:x.cps.toList[i]? with
   | none=>rw[hc] at hy;cases hy
   | some c=>
    rw[hc] at hy;obtain rfl:V.str ⟨#[c]⟩=y:=AD hy;have ok:=F1.all c (Av hc);refine⟨_,rfl,_,_,rfl,rfl,_,rfl,?_⟩;rw[Sq ok];refine IY ⟨_,_,rfl,rfl,?_⟩;rw[Si ok];refine⟨h1,hN _ _ _ ⟨⟨_,rfl⟩,?_,IX,by rw[h2];exact Ci.symm⟩⟩;intro b o q';have:b≠p:=λz=>by rw[z,hp] at q';cases q'
    rw[Ji this];exact s b o q'
 · rintro σ' ys H' ⟨_,s,h1,h2⟩;refine⟨p,AR (L2.signs x).length true,rfl,SqL.of (by rw[h1,h2,CO]),?_⟩;have:(AR (L2.signs x).length true).all id=true:=by simp
   rw[this];exact q H' s
theorem zeo(F:Fun K "is_wish_part" "is_wish_part" Rz f fd)(HQ:Γ4 P w K mg base)(HR:Γ2 P w K mg base):FnOk P w K mg base Jp 4 f fd ["thing"] (We):=by
 refine F.ok Hg (λvs H Q E h=>?_) (λcdv A outer s H vs Q E hr h=>?_)
 · obtain⟨p,f,lo,hi,rfl,hp,F1,hle,q⟩:=h;rfl
 obtain⟨p,f,lo,hi,rfl,hp,F1,hle,q⟩:=h;refine⟨_,(IZ (J0 (PW.pt (KE (Ka (JQ (Jm (Kd (n:="")) rfl B.isinstance_ JT (IS (pv 0) (IS (JO (v:= .ty "tuple") rfl B.tuple_ L8 rfl) IT))))) (KI (Jy LI (Jm JK rfl B.len_ J9 (IS (pv 0) IT)) IV (Js _))))) (Jb (Jl J_)) Jz)
  (IZ (L7 (pv 0) (KZ rfl (J3 (Jn (i:=1) Hg.nd rfl (Or.inl rfl)) (J3 (Jn (i:=2) Hg.nd rfl (Or.inl rfl)) (J3 (Jn (i:=3) Hg.nd rfl (Or.inl rfl)) Ku)))))
  (Jb (Jl (K3 (Jd HQ (hr.mono (by decide)) rfl (IS (pv 1) IT)) (Kp (Jd HR (hr.mono (by decide)) rfl (IS (JU (IS (pv 2) (IS (pv 3) IT))) IT)))))))),?_⟩
 refine⟨_,rfl,_,"tuple","tuple",true,rfl,.tup hp,rfl,_,rfl,IW ⟨_,rfl,p,_,rfl,.inr (SqT.of hp),rfl,_,rfl,?_⟩⟩;refine IW ⟨_,rfl,p,_,rfl,SqT.of hp,rfl,_,_,rfl,_,_,rfl,_,_,rfl,rfl,?_⟩;refine⟨_,rfl,f,rfl,F1,λH1 s1=>⟨_,rfl,IY ⟨_,rfl,_,rfl,JL,λt ht=>?_⟩⟩⟩;have S:SpanAt (IU H1 t (.tup [eV lo,eV hi])) (.ref t) lo hi:=⟨t,rfl,IX⟩;refine⟨.ref t,"tuple",rfl,S.ty.1,S.ty.2,?_⟩;rw[ZK S,hle];exact q _ (s1.trans (Jf ht _))
theorem zdU(F:Fun K "is_piece_part" "is_piece_part" R1 f fd)(HQ:Γ4 P w K mg base)(HN:Γ0 P w K mg base):FnOk P w K mg base Jp 2 f fd ["thing"] (Wv):=by
 refine F.ok Hh (λvs H Q E h=>?_) (λcdv A outer s H vs Q E hr h=>?_)
 · obtain⟨p,f,n,rfl,hp,F1,q⟩:=h;rfl
 obtain⟨p,f,n,rfl,hp,F1,q⟩:=h;refine⟨_,(IZ (J0 (PW.pt (KE (Ka (JQ (Jm (Kd (n:="")) rfl B.isinstance_ JT (IS (pv 0) (IS (JO (v:= .ty "tuple") rfl B.tuple_ L8 rfl) IT))))) (KI (Jy LI (Jm JK rfl B.len_ J9 (IS (pv 0) IT)) IV (Js _))))) (Jb (Jl J_)) Jz)
  (IZ (L7 (pv 0) (KZ rfl (J3 (Jn (i:=1) Hh.nd rfl (Or.inl rfl)) (J3 (Jn (i:=2) Hh.nd rfl (Or.inl rfl)) Ku))))
  (Jb (Jl (K3 (Jd HQ (hr.mono (by decide)) rfl (IS (pv 1) IT)) (Kp (Jd HN (hr.mono (by decide)) rfl (IS (pv 2) IT)))))))),?_⟩
 refine⟨_,rfl,_,"tuple","tuple",true,rfl,.tup hp,rfl,_,rfl,IW ⟨_,rfl,p,_,rfl,.inr (SqT.of hp),rfl,_,rfl,?_⟩⟩;refine IW ⟨_,rfl,p,_,rfl,SqT.of hp,rfl,_,_,rfl,_,_,rfl,rfl,?_⟩;exact⟨_,rfl,f,rfl,F1,λH1 s1=>⟨_,rfl,IY ⟨_,rfl,.int n,"int",rfl,.int n,q _ s1⟩⟩⟩
theorem zdV(F:Fun K "fields_ascend" "fields_ascend" O_ f fd)  :FnOk P w K mg base Jp 1 f fd ["parts"] (Vb):=by
 refine F.ok zdQ (λvs H Q E h=>?_) (λcdv A outer s H vs Q E hr h=>?_)
 · obtain⟨a,ps,rfl,ha,hl,hp,hlt,q⟩:=h;rfl
 obtain⟨a,ps,rfl,ha,hl,hp,hlt,q⟩:=h;refine⟨_,(Jb (Jl (Jm (Mi rfl) rfl B.all_ Mf (IS (K6 (N':=["ahead","behind"]) (js:=[none,none]) rfl (JN (N:=["parts"]) (outer:=Jh O_) (by decide+kernel)) (XY rfl B.zip_ (IS (pv 0) (IS (Lg U8 (pv 0) (Le IV) Ld) IT))) (λ_ _ _ _ _=>(MT K rfl (n:=2) rfl (J3 (Jn (i:=0) Oi rfl (Or.inl rfl)) (J3 (Jn (i:=1) Oi rfl (Or.inl rfl)) Ku)))) (λ_ _ _ _ _=>Ke) (λ_ _ _ _ _=>(LB zj2 (Jx (TQ K rfl) (pv 0) IV (λ_ _=>rfl)) (Jx (TQ K rfl) (pv 1) IV (λ_ _=>rfl)) (Js _)))) IT)))),?_⟩;refine⟨_,rfl,_,rfl,_,rfl,?_⟩;dsimp only[Ux];refine Y8 (SqT.of ha) λp1 H1 s1 q1=>?_;refine⟨a,p1,rfl,⟨_,s1.seqT (SqT.of ha)⟩,⟨_,q1⟩,λp hp'=>?_⟩;have s0:=Jf hp' (.lst []);have ld:((ps.map λp=>V.ref p.1).drop 1).length=ps.length - 1:=by rw[Dt,Ab]
 refine WX (n:=ps.length - 1) (xs:=ps.map λp=>V.ref p.1) (ys:=(ps.map λp=>V.ref p.1).drop 1) (by rw[Ab];omega) (by rw[ld];exact Af _) (.inr (by rw[ld];exact Af _))
  (λi σ' ys H'=>(∃v w,σ'=[v,w])∧Same H1 H'∧H' p=some (.lst ys)∧ys=AR i (V.bl true)) ⟨⟨none,none,rfl⟩,s0,IX,rfl⟩ ?_ ?_ ?_
 · rintro i σ' zs H' hi ⟨_,s,h1,h2⟩;refine⟨(s1.trans s).seqT (SqT.of ha),s.seqT q1,h1,?_⟩;rw[h2,BK];exact JB (by omega)
 · rintro i x y σ' zs H' r N hx hy hr' ⟨⟨v,w',rfl⟩,s,h1,h2⟩ hN;rw[Am] at hx;rw[Es,Am,Nat.add_comm] at hy;cases e1:ps[i]? with
   | none=>rw[e1] at hx;cases hx
   | some P1=>
    cases e2:ps[i+1]? with
    | none=>rw[e2] at hy;cases hy
    | some P2=>
     rw[e1] at hx;rw[e2] at hy;obtain rfl:V.ref P1.1=x:=AD hx;obtain rfl:V.ref P2.1=y:=AD hy;have s3:=Jf hr' (.tup [V.ref P1.1,V.ref P2.1]);have t3:=(s1.trans s).trans s3;have f1:=t3 _ _ (hp P1 (Av e1));have f2:=t3 _ _ (hp P2 (Av e2));refine⟨r,_,rfl,SqT.of IX,rfl,_,_,rfl,_,_,rfl,rfl,?_⟩;refine⟨_,rfl,P1.1,_,0,_,rfl,rfl,SqT.of f1,Su,_,rfl,P2.1,_,0,_,rfl,rfl,SqT.of f2,Su,_,_,rfl,rfl,?_⟩;rw[decide_eq_true (show P1.2.1.cps.toList<P2.2.1.cps.toList from hlt i P1 P2 e1 e2)];refine⟨s3 _ _ h1,hN _ _ _ ⟨⟨_,_,rfl⟩,?_,IX,by rw[h2];exact Ci.symm⟩⟩;intro b o q';have:b≠p:=λz=>by rw[z,hp'] at q';cases q'
     rw[Ji this];exact s3 _ _ (s b o q')
 · rintro σ' zs H' ⟨_,s,h1,h2⟩;refine⟨p,AR (ps.length - 1) true,rfl,SqL.of (by rw[h1,h2,CO]),?_⟩;have:(AR (ps.length - 1) true).all id=true:=by simp
   rw[this];exact q H' (s1.trans s)
theorem ziT(F:Fun K "is_wish" "is_wish" OY f fd)(HS:Γ7 P w K mg base)(HU:Γ5 P w K mg base):FnOk P w K mg base Jp 5 f fd ["thing"] (Vf):=by
 refine F.ok ziE (λvs H Q E h=>?_) (λcdv A outer s H vs Q E hr h=>?_)
 · obtain⟨a,w',rfl,hw,wok,q⟩:=h;rfl
 obtain⟨a,w',rfl,hw,wok,q⟩:=h;refine⟨_,(IZ (J0 (Ka (JQ (Jm (Kd (n:="")) rfl B.isinstance_ JT (IS (pv 0) (IS (JO (v:= .ty "tuple") rfl B.tuple_ L8 rfl) IT))))) (Jb (Jl J_)) Jz)
  (Jb (Jl (K3 (Jm (Mi rfl) rfl B.all_ Mf (IS (K6 (N':=["part"]) (js:=[none]) rfl (JN (N:=["thing"]) (outer:=Jh OY) (by decide+kernel)) (Nw (pv 0)) (λ_ _ _ _ _=>(Jn (i:=0) Od rfl (Or.inl rfl))) (λ_ _ _ _ _=>Ke) (λ_ _ _ _ _=>(Jd HU (hr.mono (by decide)) rfl (IS (pv 0) IT)))) IT)) (Kp (Jd HS (hr.mono (by decide)) rfl (IS (pv 0) IT))))))),?_⟩
 obtain⟨ps,rfl,hA,hP⟩:=hw;have ll:ps.length≤100:=by have:=wok.len;rw[Ab] at this;exact this
 refine⟨_,rfl,_,"tuple","tuple",true,rfl,.tup hA,rfl,_,rfl,IW ?_⟩;refine⟨_,rfl,a,rfl,⟨_,SqT.of hA⟩,λp hp=>?_⟩;refine Tl (xs:=ps.map λp=>V.ref p.1) (λi σ' ys H'=>(∃v,σ'=[v])∧Same H H'∧H' p=some (.lst ys)∧ys=AR i (V.bl true)) ⟨⟨none,rfl⟩,Jf hp _,IX,rfl⟩ ?_ ?_ ?_
 · rintro i σ' ys H' hi ⟨_,s,h1,h2⟩;refine⟨s.seqT (SqT.of hA),h1,?_⟩;rw[h2,BK];rw[Ab] at hi;exact JB (by omega)
 · rintro i x σ' ys H' N hx ⟨⟨v,rfl⟩,s,h1,h2⟩ hN;obtain⟨P1,e1,rfl⟩:=JR hx;have hm:=Av e1;obtain⟨o1,o2⟩:=wok.ok P1.2 (Bs hm);refine⟨_,rfl,P1.1,P1.2.1,P1.2.2.1,P1.2.2.2,rfl,s _ _ (hP P1 hm),o1,o2,λH2 s2=>?_⟩;refine⟨s2 _ _ h1,hN _ _ _ ⟨⟨_,rfl⟩,Kw (s.trans s2) hp,IX,by rw[h2];exact Ci.symm⟩⟩
 · rintro σ' ys H' ⟨_,s,h1,h2⟩;refine⟨p,AR (ps.map λp=>V.ref p.1).length true,rfl,SqL.of (by rw[h1,h2,CO]),_,rfl,?_⟩;rw[show(AR (ps.map λp=>V.ref p.1).length true).all id=true by simp];refine IY ⟨_,rfl,a,ps.map (λp=>(p.1,p.2.1,[eV p.2.2.1,eV p.2.2.2])),rfl,?_,by rw[Ab];exact ll,?_,?_,λH2 s2=>q H2 (s.trans s2)⟩
   · rw[BY];exact s _ _ hA
   · intro r hr;rw[Ax] at hr;obtain⟨P1,hm,rfl⟩:=hr;exact s _ _ (hP P1 hm)
   · intro i r1 r2 h3 h4;rw[Am] at h3 h4;cases e1:ps[i]? with
     | none=>rw[e1] at h3;cases h3
     | some P1=>
      cases e2:ps[i+1]? with
      | none=>rw[e2] at h4;cases h4
      | some P2=> rw[e1] at h3;rw[e2] at h4;obtain rfl:=AD h3;obtain rfl:=AD h4;have l2:=(Au.mp e2).1;have:=Cz.mp wok.asc i (i+1) (by simp;omega) (by simp;omega) (by omega);simp only[DQ] at this;rw[(Au.mp e1).2,(Au.mp e2).2] at this;exact this
theorem zhv(F:Fun K "is_piece" "is_piece" OW f fd)(HS:Γ7 P w K mg base)(HV:Γ6 P w K mg base):FnOk P w K mg base Jp 3 f fd ["thing"] (VJ):=by
 refine F.ok zg9 (λvs H Q E h=>?_) (λcdv A outer s H vs Q E hr h=>?_)
 · obtain⟨a,w',rfl,hw,wok,q⟩:=h;rfl
 obtain⟨a,w',rfl,hw,wok,q⟩:=h;refine⟨_,(IZ (J0 (Ka (JQ (Jm (Kd (n:="")) rfl B.isinstance_ JT (IS (pv 0) (IS (JO (v:= .ty "tuple") rfl B.tuple_ L8 rfl) IT))))) (Jb (Jl J_)) Jz)
  (Jb (Jl (K3 (Jm (Mi rfl) rfl B.all_ Mf (IS (K6 (N':=["part"]) (js:=[none]) rfl (JN (N:=["thing"]) (outer:=Jh OW) (by decide+kernel)) (Nw (pv 0)) (λ_ _ _ _ _=>(Jn (i:=0) Od rfl (Or.inl rfl))) (λ_ _ _ _ _=>Ke) (λ_ _ _ _ _=>(Jd HV (hr.mono (by decide)) rfl (IS (pv 0) IT)))) IT)) (Kp (Jd HS (hr.mono (by decide)) rfl (IS (pv 0) IT))))))),?_⟩
 obtain⟨ps,rfl,hA,hP⟩:=hw;have ll:ps.length≤100:=by have:=wok.len;rw[Ab] at this;exact this
 refine⟨_,rfl,_,"tuple","tuple",true,rfl,.tup hA,rfl,_,rfl,IW ?_⟩;refine⟨_,rfl,a,rfl,⟨_,SqT.of hA⟩,λp hp=>?_⟩;refine Tl (xs:=ps.map λp=>V.ref p.1) (λi σ' ys H'=>(∃v,σ'=[v])∧Same H H'∧H' p=some (.lst ys)∧ys=AR i (V.bl true)) ⟨⟨none,rfl⟩,Jf hp _,IX,rfl⟩ ?_ ?_ ?_
 · rintro i σ' ys H' hi ⟨_,s,h1,h2⟩;refine⟨s.seqT (SqT.of hA),h1,?_⟩;rw[h2,BK];rw[Ab] at hi;exact JB (by omega)
 · rintro i x σ' ys H' N hx ⟨⟨v,rfl⟩,s,h1,h2⟩ hN;obtain⟨P1,e1,rfl⟩:=JR hx;have hm:=Av e1;have o1:=wok.ok P1.2 (Bs hm);refine⟨_,rfl,P1.1,P1.2.1,P1.2.2,rfl,s _ _ (hP P1 hm),o1,λH2 s2=>?_⟩;refine⟨s2 _ _ h1,hN _ _ _ ⟨⟨_,rfl⟩,Kw (s.trans s2) hp,IX,by rw[h2];exact Ci.symm⟩⟩
 · rintro σ' ys H' ⟨_,s,h1,h2⟩;refine⟨p,AR (ps.map λp=>V.ref p.1).length true,rfl,SqL.of (by rw[h1,h2,CO]),_,rfl,?_⟩;rw[show(AR (ps.map λp=>V.ref p.1).length true).all id=true by simp];refine IY ⟨_,rfl,a,ps.map (λp=>(p.1,p.2.1,[V.int p.2.2])),rfl,?_,by rw[Ab];exact ll,?_,?_,λH2 s2=>q H2 (s.trans s2)⟩
   · rw[BY];exact s _ _ hA
   · intro r hr;rw[Ax] at hr;obtain⟨P1,hm,rfl⟩:=hr;exact s _ _ (hP P1 hm)
   · intro i r1 r2 h3 h4;rw[Am] at h3 h4;cases e1:ps[i]? with
     | none=>rw[e1] at h3;cases h3
     | some P1=>
      cases e2:ps[i+1]? with
      | none=>rw[e2] at h4;cases h4
      | some P2=> rw[e1] at h3;rw[e2] at h4;obtain rfl:=AD h3;obtain rfl:=AD h4;have l2:=(Au.mp e2).1;have:=Cz.mp wok.asc i (i+1) (by simp;omega) (by simp;omega) (by omega);simp only[DQ] at this;rw[(Au.mp e1).2,(Au.mp e2).2] at this;exact this
theorem zeM(F:Fun K "check_piece" "check_piece" Rp f fd)(HW:Γ9 P w K mg base):FnOk P w K mg base Jp 4 f fd ["thing"] (Wb):=by
 refine F.ok zeI (λvs H Q E h=>?_) (λcdv A outer s H vs Q E hr h=>?_)
 · obtain⟨a,w',rfl,hw,wok,q⟩:=h;rfl
 obtain⟨a,w',rfl,hw,wok,q⟩:=h;refine⟨_,(Jb (J0 (Ka (JQ (Jd HW (hr.mono (by decide)) rfl (IS (pv 0) IT)))) (Jb OH) Jz)),?_⟩;exact⟨_,rfl,a,w',rfl,hw,wok,λH' s=>⟨_,rfl,IW (q H' s)⟩⟩
theorem zfF(F:Fun K "are_wishes" "are_wishes" Pc f fd)(HX:Γ8 P w K mg base):FnOk P w K mg base Jp 6 f fd ["thing"] (Uo):=by
 refine F.ok zfh (λvs H Q E h=>?_) (λcdv A outer s H vs Q E hr h=>?_)
 · obtain⟨l,ws,rfl,hw,q⟩:=h;rfl
 obtain⟨l,ws,rfl,hw,q⟩:=h;refine⟨_,(Jb (Jl (K3 (Jm (Kd (n:="")) rfl B.isinstance_ JT (IS (pv 0) (IS (JO (v:= .ty "list") rfl B.list_ KN rfl) IT))) (Kp (Jm (Mi rfl) rfl B.all_ Mf (IS (K6 (N':=["wish"]) (js:=[none]) rfl (JN (N:=["thing"]) (outer:=Jh Pc) (by decide+kernel)) (JV (pv 0)) (λ_ _ _ _ _=>(Jn (i:=0) Se rfl (Or.inl rfl))) (λ_ _ _ _ _=>Ke) (λ_ _ _ _ _=>(Jd HX (hr.mono (by decide)) rfl (IS (pv 0) IT)))) IT)))))),?_⟩;have hA:=hw.at';refine⟨_,rfl,_,"list","list",true,rfl,.lst hA,rfl,_,rfl,IY ?_⟩;refine⟨_,rfl,l,rfl,⟨_,SqL.of hA⟩,λp hp=>?_⟩;refine M9 (xs:=ws.map λx=>V.ref x.1) (λi σ' ys H'=>(∃v,σ'=[v])∧Same H H'∧H' p=some (.lst ys)∧ys=AR i (V.bl true)) ⟨⟨none,rfl⟩,Jf hp _,IX,rfl⟩ ?_ ?_ ?_
 · rintro i σ' ys H' hi ⟨_,s,h1,h2⟩;refine⟨s.seq (SqL.of hA),h1,?_⟩;rw[h2,BK];rw[Ab] at hi;have:=hw.len;exact JB (by omega)
 · rintro i x σ' ys H' N hx ⟨⟨v,rfl⟩,s,h1,h2⟩ hN;obtain⟨P1,e1,rfl⟩:=JR hx;obtain⟨o1,o2⟩:=hw.ok P1 (Av e1);refine⟨_,rfl,P1.1,P1.2,rfl,o1.same s,o2,λH2 s2=>?_⟩;refine⟨s2 _ _ h1,hN _ _ _ ⟨⟨_,rfl⟩,Kw (s.trans s2) hp,IX,by rw[h2];exact Ci.symm⟩⟩
 · rintro σ' ys H' ⟨_,s,h1,h2⟩;refine⟨p,AR (ws.map λx=>V.ref x.1).length true,rfl,SqL.of (by rw[h1,h2,CO]),?_⟩;rw[show(AR (ws.map λx=>V.ref x.1).length true).all id=true by simp];exact q _ s
theorem zcI(F:Fun K "are_unlike_wishes" "are_unlike_wishes" R7 f fd)(HY:Γ11 P w K mg base):FnOk P w K mg base Jp 7 f fd ["thing"] (Vj):=by
 refine F.ok zcH (λvs H Q E h=>?_) (λcdv A outer s H vs Q E hr h=>?_)
 · obtain⟨l,ws,rfl,hw,nd,le,q⟩:=h;rfl
 obtain⟨l,ws,rfl,hw,nd,le,q⟩:=h;refine⟨_,(Jb (Jl (K3 (Jd HY (hr.mono (by decide)) rfl (IS (pv 0) IT)) (Kp (LB Kc (ziR (Ml hr) rfl (pv 0) rfl B.len_ rfl B.set_) (Jm JK rfl B.len_ J9 (IS (pv 0) IT)) (Js _)))))),?_⟩;refine⟨_,rfl,l,ws,rfl,hw,λH1 s1=>?_⟩;have hw1:=hw.same s1;refine⟨_,rfl,IY ?_⟩;refine⟨_,rfl,l,ws,rfl,hw1,nd,le,_,rfl,l,_,rfl,.inl (SqL.of hw1.at'),rfl,?_⟩;rw[Ab,decide_eq_true rfl];exact q H1 s1
theorem zfv(F:Fun K "wish_takes" "wish_takes" Pf f fd)(HZ:Γ3 P w K mg base):FnOk P w K mg base Jp 2 f fd ["wish","piece"] (OC):=by
 refine F.ok Hi (λvs H Q E h=>?_) (λcdv A outer s H vs Q E hr h=>?_)
 · obtain⟨a,b,w',p,rfl,hw,hp,pok,q⟩:=h;rfl
 obtain⟨a,b,w',p,rfl,hw,hp,pok,q⟩:=h;refine⟨_,(IZ (YY (N':=["field","number"]) (js:=[none,none]) (i:=2) Hi.nd rfl (Or.inl rfl) rfl (JN (N:=["wish","piece","numbers","field","low","high"]) (outer:=Jh Pf) (by decide+kernel)) (Nw (pv 1)) (λ_ _ _ _ _=>(MT K rfl (n:=2) rfl (J3 (Jn (i:=0) Ob rfl (Or.inl rfl)) (J3 (Jn (i:=1) Ob rfl (Or.inl rfl)) Ku)))) (λ_ _ _ _ _=>Ke) (λ_ _ _ _ _=>(pv 0)) (λ_ _ _ _ _=>(pv 1)))
  (IZ (KH By rfl (Nw (pv 0)) (KZ rfl (J3 (Jn (i:=3) Hi.nd rfl (Or.inl rfl)) (J3 (Jn (i:=4) Hi.nd rfl (Or.inl rfl)) (J3 (Jn (i:=5) Hi.nd rfl (Or.inl rfl)) Ku)))) (Jb (J0 (PW.pt (KE (MP (Vp (Nm hr) (pv 3) (pv 2)) (by with_unfolding_all rfl)) (KI (Ka (JQ (Jd HZ (hr.mono (by decide)) rfl (IS (JU (IS (pv 4) (IS (pv 5) IT))) (IS (P_ (Nm hr) (pv 2) (pv 3) (λ_ _=>rfl)) IT)))))))) (Jb (Jl J_)) Jz)))
  (Jb (Jl J_)))),?_⟩
 obtain⟨ps,rfl,hA,hP⟩:=hp;have ll:ps.length≤100:=by have:=pok.len;rw[Ab] at this;exact this
 refine⟨_,rfl,b,rfl,⟨_,SqT.of hA⟩,λd hd=>?_⟩;refine WM (xs:=ps.map λp=>V.ref p.1) (λi σ' kvs H'=>(∃v1 v2,σ'=[v1,v2])∧Same H H'∧H' d=some (.dK kvs)∧kvs.length≤i∧∀f:Str,Ju kvs (.inr f)=(K0 ((ps.map (·.2)).take i) f).map V.int) ⟨⟨none,none,rfl⟩,Jf hd _,IX,Bc _,λf=>rfl⟩ ?_ ?_ ?_
 · rintro i σ' kvs H' hi ⟨_,s,h1,h2,_⟩;rw[Ab] at hi;exact⟨s.seqT (SqT.of hA),h1,JB (by omega)⟩
 · rintro i x σ' kvs H' N hx ⟨⟨v1,v2,rfl⟩,s,h1,h2,h3⟩ hN;obtain⟨P1,e1,rfl⟩:=JR hx;have hm:=Av e1;refine⟨P1.1,_,rfl,SqT.of (s _ _ (hP P1 hm)),rfl,_,_,rfl,_,_,rfl,rfl,?_⟩;refine⟨_,rfl,_,rfl,Sum.inr P1.2.1,rfl,h1,hN _ _ _ ⟨⟨_,_,rfl⟩,Kw s hd,IX,?_,λf=>?_⟩⟩
   · have:=Rq kvs (Sum.inr P1.2.1:Jq) (V.int P1.2.2);omega
   · have ew:(ps.map (·.2))[i]?=some P1.2:=by rw[Am,e1];rfl
     have fr:=pok.fresh ew;rw[KJ ew,Wj _ _ _ fr,UX];by_cases hf:f=P1.2.1
     · subst hf;rw[if_pos rfl,if_pos rfl];rfl
     · rw[if_neg hf,if_neg (λz=>hf (by injection z))];exact h3 f
 · rintro σ' kvs H1 ⟨_,s1,h1,h2,h3⟩;have et:(ps.map (·.2)).take (ps.map λp=>V.ref p.1).length=ps.map (·.2):=Bt (by simp);rw[et] at h3;obtain⟨ws,rfl,hB,hW⟩:=hw.same s1
   let Pv1:Nat→L2.St→Hp→Prop:=λi σ H'=>(∃y3 y4 y5,σ=[some (.ref a),some (.ref b),some (.ref d),y3,y4,y5])∧Same H1 H'∧Kg ((ws.map (·.2)).take i) (ps.map (·.2))=true
   refine⟨_,rfl,a,rfl,⟨_,SqT.of hB⟩,Ui (K:=K) (a:=a) (xs:=ws.map λp=>V.ref p.1) Pv1 ⟨⟨none,none,none,rfl⟩,Same.refl _,rfl⟩ (λi σ H' _ ⟨_,s,_⟩=>s.seqT (SqT.of hB)) ?_ ?_⟩
   · rintro i x σ H' hx ⟨⟨y2,y3,y4,rfl⟩,s,hr'⟩;obtain⟨P1,e1,rfl⟩:=JR hx;have hm:=Av e1;have ew:(ws.map (·.2))[i]?=some P1.2:=by rw[Am,e1];rfl
     have k1:=s _ _ h1;have kf:=h3 P1.2.1;refine⟨P1.1,_,rfl,SqT.of (s _ _ (hW P1 hm)),rfl,_,_,rfl,_,_,rfl,_,_,rfl,rfl,?_⟩;have out:Mg (ps.map (·.2)) P1.2=false→Kg (ws.map (·.2)) (ps.map (·.2))=false:=λh=>Wf (Bs hm) h;refine⟨_,rfl,_,rfl,d,_,rfl,DGet.k (k:=Sum.inr P1.2.1) k1,_,rfl,?_⟩;cases hs:K0 (ps.map (·.2)) P1.2.1 with
     | none=> rw[hs] at kf;rw[kf];refine IY ?_;have o1:=out (Wy hs);rw[o1] at q;exact q _ (s1.trans s)
     | some n=>
      rw[hs] at kf;rw[kf];refine IW ⟨_,rfl,_,rfl,JL,λu hu=>?_⟩;have su:=Jf hu (.tup [eV P1.2.2.1,eV P1.2.2.2]);have gd:DGet (IU H' u (.tup [eV P1.2.2.1,eV P1.2.2.2])) d (.str P1.2.1) (some (.int n)):=by have:=DGet.k (k:=Sum.inr P1.2.1) (su _ _ k1);rw[kf] at this;exact this
      refine⟨_,rfl,_,rfl,d,_,rfl,gd,.ref u,P1.2.2.1,P1.2.2.2,n,rfl,⟨u,rfl,IX⟩,_,rfl,?_⟩;cases hb:JY P1.2.2.1 P1.2.2.2 n with
      | false=> refine IY ?_;have o1:=out ((Rv hs).trans hb);rw[o1] at q;exact q _ (s1.trans (s.trans su))
      | true=> refine IW ⟨⟨_,_,_,rfl⟩,s.trans su,?_⟩;rw[KJ ew];unfold Kg at*;rw[List.all_append,hr',F8,CW,List.all_nil,Rv hs,hb];rfl
   · rintro σ H' ⟨_,s,hr'⟩;rw[show(ws.map (·.2)).take (ws.map λp=>V.ref p.1).length=ws.map (·.2) from Bt (by simp)] at hr';rw[hr'] at q;exact q _ (s1.trans s)
theorem zgt(F:Fun K "one_takes" "one_takes" OR f fd)(H_:Γ13 P w K mg base):FnOk P w K mg base Jp 3 f fd ["wishes","piece"] (Wd):=by
 refine F.ok zgd (λvs H Q E h=>?_) (λcdv A outer s H vs Q E hr h=>?_)
 · obtain⟨l,c,ws,p,rfl,hw,hp,pok,q⟩:=h;rfl
 obtain⟨l,c,ws,p,rfl,hw,hp,pok,q⟩:=h;refine⟨_,(Jb (Jl (Jm (UB rfl) rfl B.any_ Tb (IS (K6 (N':=["wish","piece"]) (js:=[none,some 1]) rfl (JN (N:=["wishes","piece"]) (outer:=Jh OR) (by decide+kernel)) (JV (pv 0)) (λ_ _ _ _ _=>(Jn (i:=0) Oa rfl (Or.inl rfl))) (λ_ _ _ _ _=>Ke) (λ_ _ _ _ _=>(Jd H_ (hr.mono (by decide)) rfl (IS (pv 0) (IS (pv 1) IT))))) IT)))),?_⟩;refine⟨_,rfl,l,rfl,⟨_,SqL.of hw.at'⟩,λr hr=>?_⟩;refine M9 (xs:=ws.map λx=>V.ref x.1) (λi σ' ys H'=>(∃v,σ'=[v,some (.ref c)])∧Same H H'∧H' r=some (.lst ys)∧ys=((ws.take i).map λw=>Kg w.2 p).map V.bl) ⟨⟨none,rfl⟩,Jf hr _,IX,rfl⟩ ?_ ?_ ?_
 · rintro i σ' ys H' hi ⟨_,s,h1,h2⟩;refine⟨SqL.of (s _ _ hw.at'),h1,?_⟩;rw[h2,Ab,Ab,AE];have:=hw.len;exact JB (by omega)
 · rintro i x σ' ys H' N hx ⟨⟨v,rfl⟩,s,h1,h2⟩ hN;rw[Am] at hx;cases e1:ws[i]? with
   | none=>rw[e1] at hx;cases hx
   | some w1=>
    rw[e1] at hx;cases hx;refine⟨_,rfl,_,rfl,w1.1,c,w1.2,p,rfl,((hw.ok w1 (Av e1)).1).same s,hp.same s,pok,λH2 s2=>⟨s2 _ _ h1,hN _ _ _ ⟨⟨_,rfl⟩,?_,IX,?_⟩⟩⟩
    · exact Kw (s.trans s2) hr
    · rw[h2,KJ e1,Aq,Aq];rfl
 · rintro σ' ys H' ⟨_,s,h1,h2⟩;rw[Ab,Bx] at h2;subst h2;refine⟨r,_,rfl,SqL.of h1,?_⟩;have:(ws.map λw=>Kg w.2 p).any id=KP ws p:=by
    rw[Ep];rfl
   rw[this];exact q H' s
theorem ziW(F:Fun K "is_name" "is_name" QB f fd)(HQ:Γ4 P w K mg base):FnOk P w K mg base Jp 2 f fd ["thing"] (O8):=by
 refine F.ok ziG (λvs H Q E h=>?_) (λcdv A outer s H vs Q E hr h=>?_)
 · obtain⟨x,rfl,hx,q⟩:=h;rfl
 obtain⟨x,rfl,hx,q⟩:=h;refine⟨_,(Jb (Jl (Jd HQ (hr.mono (by decide)) rfl (IS (pv 0) IT)))),?_⟩;exact⟨_,rfl,x,rfl,hx,λH' s=>q H' s⟩
theorem zj5(F:Fun K "is_web" "is_web" OI f fd)(HN:Γ0 P w K mg base):FnOk P w K mg base Jp 2 f fd ["thing"] (Uq):=by
 refine F.ok zjE (λvs H Q E h=>?_) (λcdv A outer s H vs Q E hr h=>?_)
 · obtain⟨a,W,rfl,⟨ha,hW⟩,q⟩:=h;rfl
 obtain⟨a,W,rfl,⟨ha,hW⟩,q⟩:=h;refine⟨_,(IZ (J0 (PW.pt (KE (Ka (JQ (Jm (Kd (n:="")) rfl B.isinstance_ JT (IS (pv 0) (IS (JO (v:= .ty "list") rfl B.list_ KN rfl) IT))))) (KI (Jy M0 (Jm JK rfl B.len_ J9 (IS (pv 0) IT)) (O2 (v:= .int 23) rfl qMR' ⟨_,rfl⟩) (Js _))))) (Jb (Jl J_)) Jz)
  (Jb (Jl (Jm (Mi rfl) rfl B.all_ Mf (IS (K6 (N':=["at","post"]) (js:=[none,none]) rfl (JN (N:=["thing"]) (outer:=Jh OI) (by decide+kernel)) (YQ rfl B.enumerate_ (IS (pv 0) IT)) (λ_ _ _ _ _=>(MT K rfl (n:=2) rfl (J3 (Jn (i:=0) N_ rfl (Or.inl rfl)) (J3 (Jn (i:=1) N_ rfl (Or.inl rfl)) Ku)))) (λ_ _ _ _ _=>Ke) (λ_ _ _ _ _=>(K3 (Jd HN (hr.mono (by decide)) rfl (IS (pv 1) IT)) (Kp (Qo L4 L4 IV (pv 1) (pv 0)))))) IT))))),?_⟩
 have h23:¬(23:Int)<((W.map V.int).length:Int):=by rw[Ab];have:=hW.1;omega
 refine⟨_,rfl,_,"list","list",true,rfl,.lst ha,rfl,_,rfl,IW ⟨_,rfl,a,_,rfl,.inl (SqL.of ha),_,_,rfl,rfl,_,rfl,?_⟩⟩;rw[decide_eq_false h23];refine IW ⟨_,rfl,a,rfl,⟨_,SqL.of ha⟩,λp hp=>?_⟩;have s0:=Jf hp (.lst []);refine XV (xs:=W.map V.int) (λi σ' ys H'=>(∃v w,σ'=[v,w])∧Same H H'∧H' p=some (.lst ys)∧ys=AR i (V.bl true)) ⟨⟨none,none,rfl⟩,s0,IX,rfl⟩ ?_ ?_ ?_
 · rintro i σ' ys H' hi ⟨_,s,h1,h2⟩;refine⟨SqL.of (s _ _ ha),h1,?_⟩;rw[h2,BK];rw[Ab] at hi;have:=hW.1;exact JB (by omega)
 · rintro i y r σ' ys H' N hy hr' ⟨⟨v,w',rfl⟩,s,h1,h2⟩ hN;rw[Am] at hy;cases e1:W[i]? with
   | none=>rw[e1] at hy;cases hy
   | some n=>
    rw[e1] at hy;obtain rfl:V.int n=y:=AD hy;obtain⟨n0,n1⟩:=hW.2 i n e1;have s3:=Jf hr' (.tup [V.int i,V.int n]);refine⟨r,_,rfl,SqT.of IX,rfl,_,_,rfl,_,_,rfl,rfl,?_⟩;refine⟨_,rfl,.int n,"int",rfl,.int n,_,rfl,IY ⟨_,rfl,_,_,rfl,rfl,_,rfl,?_⟩⟩;rw[decide_eq_true n0];refine IY ⟨_,rfl,_,_,rfl,rfl,?_⟩;dsimp only;rw[decide_eq_true n1];refine⟨s3 _ _ h1,hN _ _ _ ⟨⟨_,_,rfl⟩,?_,IX,by rw[h2];exact Ci.symm⟩⟩;intro b o q';have:b≠p:=λz=>by rw[z,hp] at q';cases q'
    rw[Ji this];exact s3 _ _ (s b o q')
 · rintro σ' ys H' ⟨_,s,h1,h2⟩;refine⟨p,AR (W.map V.int).length true,rfl,SqL.of (by rw[h1,h2,CO]),?_⟩;have:(AR (W.map V.int).length true).all id=true:=by simp
   rw[this];exact q H' s
theorem zgw(F:Fun K "check_web" "check_web" Rs f fd)(Ia:Γ16 P w K mg base):FnOk P w K mg base Jp 3 f fd ["thing"] (Vc):=by
 refine F.ok zge (λvs H Q E h=>?_) (λcdv A outer s H vs Q E hr h=>?_)
 · obtain⟨a,W,rfl,hw,q⟩:=h;rfl
 obtain⟨a,W,rfl,hw,q⟩:=h;refine⟨_,(Jb (J0 (Ka (JQ (Jd Ia (hr.mono (by decide)) rfl (IS (pv 0) IT)))) (Jb OH) Jz)),?_⟩;exact⟨_,rfl,a,W,rfl,hw,λH' s=>⟨_,rfl,IW (q H' s)⟩⟩
theorem ziV(F:Fun K "is_post" "is_post" QC f fd)(HN:Γ0 P w K mg base):FnOk P w K mg base Jp 2 f fd ["web","thing"] (Vd):=by
 refine F.ok ziF (λvs H Q E h=>?_) (λcdv A outer s H vs Q E hr h=>?_)
 · obtain⟨a,W,p,rfl,⟨ha,hW⟩,⟨p0,p1⟩,q⟩:=h;rfl
 obtain⟨a,W,p,rfl,⟨ha,hW⟩,⟨p0,p1⟩,q⟩:=h;refine⟨_,(Jb (Jl (K3 (Jd HN (hr.mono (by decide)) rfl (IS (pv 1) IT)) (Kp (Qo L4 L4 IV (pv 1) (Jm JK rfl B.len_ J9 (IS (pv 0) IT))))))),?_⟩;refine⟨_,rfl,.int p,"int",rfl,.int p,_,rfl,IY ⟨_,rfl,_,_,rfl,rfl,_,rfl,?_⟩⟩;rw[decide_eq_true p0];refine IY ⟨_,rfl,a,_,rfl,.inl (SqL.of ha),_,_,rfl,rfl,?_⟩;dsimp only;rw[decide_eq_true (by rw[Ab];exact p1)];exact q
theorem zfE(F:Fun K "check_post" "check_post" Re f fd)(Ib:Γ18 P w K mg base):FnOk P w K mg base Jp 3 f fd ["web","thing"] (VH):=by
 refine F.ok zfg (λvs H Q E h=>?_) (λcdv A outer s H vs Q E hr h=>?_)
 · obtain⟨a,W,p,rfl,hw,hp,q⟩:=h;rfl
 obtain⟨a,W,p,rfl,hw,hp,q⟩:=h;refine⟨_,(Jb (J0 (Ka (JQ (Jd Ib (hr.mono (by decide)) rfl (IS (pv 0) (IS (pv 1) IT))))) (Jb OH) Jz)),?_⟩;exact⟨_,rfl,_,rfl,a,W,p,rfl,hw,hp,_,rfl,IW q⟩
theorem zhi(F:Fun K "way_back" "way_back" QT f fd)  :FnOk P w K mg base Jp 1 f fd ["web","p"] (VN):=by
 refine F.ok Hj (λvs H Q E h=>?_) (λcdv A outer s H vs Q E hr h=>?_)
 · obtain⟨a,W,p,rfl,⟨ha,hW⟩,hp,q⟩:=h;rfl
 obtain⟨a,W,p,rfl,⟨ha,hW⟩,hp,q⟩:=h;refine⟨_,(IZ (Jk (i:=2) Hj.nd rfl (Or.inl rfl) (JM (IS (pv 1) IT)))
  (IZ (Qq By (Jy M0 (Jx JA (pv 2) (P6 PQ IV) (λ_ _=>rfl)) IV (Js _)) (Jb (Kv (KD AQ Bu Bv Lf (pv 2) (IS (Jx JA (pv 0) (Jg L6 (Jx JA (pv 2) (P6 PQ IV) (λ_ _=>rfl)) IV) (λ_ _=>rfl)) IT)))))
  (Jb (Jl (pv 2))))),?_⟩
 refine⟨_,rfl,Mz,λl hl=>?_⟩;have s0:=Jf hl (.lst [V.int p])
 let Pv3:Nat→L2.St→Hp→Prop:=λm σ H1=>∃pre x,σ=[some (.ref a),some (.int p),some (.ref l)]∧Same H H1∧H1 l=some (.lst ((pre++[x]).map V.int))∧WB.Post W x∧WB.bk W p=pre++WB.bk W x∧m=x.toNat
 let Pv2:L2.St→Hp→Prop:=λσ H1=>σ=[some (.ref a),some (.int p),some (.ref l)]∧Same H H1∧H1 l=some (.lst ((WB.bk W p).map V.int))
 refine QV Pv3
  Pv2 ?_ ?_ ?_
 · exact⟨_,[],p,rfl,s0,IX,hp,rfl,rfl⟩
 · rintro m σ H1 Z ⟨pre,x,rfl,s1,e1,hx,eb,rfl⟩ hZ;have hlast:JI ((pre++[x]).map V.int) (-1)=some (.int x):=XB _ _;refine⟨_,rfl,_,rfl,l,_,_,_,rfl,rfl,SqL.of e1,hlast,_,_,rfl,rfl,_,rfl,Jw (λh=>?_) (λh=>?_)⟩
   · have h0:0<x:=of_decide_eq_true h;have lt:=WB.par_lt hW hx h0;refine⟨λσ H2=>∃pre y,σ=[some (.ref a),some (.int p),some (.ref l)]∧Same H H2∧H2 l=some (.lst ((pre++[y]).map V.int))∧WB.Post W y∧WB.bk W p=pre++WB.bk W y∧y.toNat<x.toNat,?_,?_⟩
     · rintro σ' H' ⟨pre',y,r1,r2,r3,r4,r5,r6⟩;exact⟨_,r6,pre',y,r1,r2,r3,r4,r5,rfl⟩
     · have at1:JI (W.map V.int) (x - 1)=some (.int (WB.par W x)):=by
        obtain⟨k,hk⟩:=Dw (show 0≤x - 1 by omega);have:=WB.par_at hx h0;rw[hk] at this ⊢;exact K7 (by rw[Am];rw[show((k:Int)).toNat=k from rfl] at this;rw[this];rfl)
       have len:((pre++[x]).map V.int).length<Az:=by have h1:=WB.bk_len hW hp;rw[eb,A5] at h1;obtain⟨t,et⟩:=WB.bk_cons hW hx;rw[et,AA] at h1;rw[Ab,A5,BB];exact JB (by omega)
       refine⟨_,rfl,.inl ⟨rfl,_,SqL.of e1⟩,_,rfl,_,rfl,_,rfl,l,_,_,_,rfl,rfl,SqL.of e1,hlast,_,_,rfl,rfl,a,_,_,_,rfl,rfl,SqL.of (s1 _ _ ha),at1,l,_,_,rfl,rfl,e1,len,?_⟩;refine⟨pre++[x],WB.par W x,rfl,?_,?_,WB.par_post hW hx h0,?_,by omega⟩
       · intro b o hb;rw[Ji (JJ hb hl)];exact s1 _ _ hb
       · rw[IX,Aq,Aq,Aq];rfl
       · rw[eb,WB.bk_pos hW hx h0,BE];rfl
   · have h0:x=0:=by have:=hx.1;have:¬ 0<x:=λz=>h (decide_eq_true z);omega
     subst h0;refine hZ _ _ ⟨rfl,s1,?_⟩;rw[eb,WB.bk_zero];exact e1
 · rintro σ H1 ⟨rfl,s1,e1⟩;exact⟨_,rfl,q l H1 s1 hl e1⟩
theorem zeL(F:Fun K "way_between" "way_between" NF f fd)(Ic:Γ20 P w K mg base):FnOk P w K mg base Jp 2 f fd ["web","p","q"] (SQ):=by
 refine F.ok Hk (λvs H Q E h=>?_) (λcdv A outer s H vs Q E hr h=>?_)
 · obtain⟨a,W,p,q',rfl,⟨ha,hW⟩,hp,hq,q⟩:=h;rfl
 obtain⟨a,W,p,q',rfl,⟨ha,hW⟩,hp,hq,q⟩:=h;refine⟨_,(IZ (Jk (i:=3) Hk.nd rfl (Or.inr rfl) (Jd Ic (hr.mono (by decide)) rfl (IS (pv 0) (IS (pv 1) IT))))
  (IZ (Jk (i:=4) Hk.nd rfl (Or.inr rfl) (Jd Ic (hr.mono (by decide)) rfl (IS (pv 0) (IS (pv 2) IT))))
  (IZ (M7 (N':=["post","back_from_q"]) (js:=[none,some 4]) (i:=5) Hk.nd rfl (Or.inl rfl) rfl (JN (N:=["web","p","q","back_from_p","back_from_q","ahead","behind","turn"]) (outer:=Jh NF) (by decide+kernel)) (JV (pv 3)) (λ_ _ _ _ _=>(Jn (i:=0) Sd rfl (Or.inl rfl))) (λ_ _ _ _ _=>MZ (Jy (Vo K rfl) (pv 0) (pv 1) (by with_unfolding_all rfl))) (λ_ _ _ _ _=>(pv 0)))
  (IZ (M7 (N':=["post","back_from_p"]) (js:=[none,some 3]) (i:=6) Hk.nd rfl (Or.inl rfl) rfl (JN (N:=["web","p","q","back_from_p","back_from_q","ahead","behind","turn"]) (outer:=Jh NF) (by decide+kernel)) (JV (pv 4)) (λ_ _ _ _ _=>(Jn (i:=0) Sc rfl (Or.inl rfl))) (λ_ _ _ _ _=>MZ (Jy (Vo K rfl) (pv 0) (pv 1) (by with_unfolding_all rfl))) (λ_ _ _ _ _=>(pv 0)))
  (IZ (Jk (i:=7) Hk.nd rfl (Or.inl rfl) (Jx JA (pv 3) (Jm JK rfl B.len_ J9 (IS (pv 5) IT)) (λ_ _=>rfl)))
  (Jb (Jl (Jg Nu (Jg Nu (pv 5) (JM (IS (pv 7) IT))) (Yr (pv 6)))))))))),?_⟩
 refine⟨_,rfl,_,rfl,a,W,p,rfl,⟨ha,hW⟩,hp,λlp H1 s1 n1 e1=>?_⟩;refine⟨_,rfl,_,rfl,a,W,q',rfl,⟨s1 _ _ ha,hW⟩,hq,λlq H2 s2 n2 e2=>?_⟩;have e1':=s2 _ _ e1;refine⟨_,rfl,lp,rfl,⟨_,SqL.of e1'⟩,λla hla=>?_⟩;refine OA (cap:=[some (.ref lq)]) (WB.bk W p) (λx=>x) (WB.off (WB.bk W q')) (AM (WB.bk_len hW hp) (by decide)) (SqL.of e1') hla rfl ?_ ?_ ?_
 · exact λn H' R s r=>⟨_,rfl,_,rfl,Q_ (SqL.of (s _ _ e2)) ⟨_,rfl,r⟩⟩
 · exact λn H' R s r=>⟨_,rfl,r⟩
 intro H3 s3 e3;have t3:=s2.trans s3;have e2':=s3 _ _ e2;refine⟨_,rfl,lq,rfl,⟨_,SqL.of e2'⟩,λlb hlb=>?_⟩;refine OA (cap:=[some (.ref lp)]) (WB.bk W q') (λx=>x) (WB.off (WB.bk W p)) (AM (WB.bk_len hW hq) (by decide)) (SqL.of e2') hlb rfl ?_ ?_ ?_
 · exact λn H' R s r=>⟨_,rfl,_,rfl,Q_ (SqL.of (s _ _ (t3 _ _ e1))) ⟨_,rfl,r⟩⟩
 · exact λn H' R s r=>⟨_,rfl,r⟩
 intro H4 s4 e4;rw[List.map_id'] at e3 e4;have t4:=t3.trans s4;have e3':=s4 _ _ e3;obtain⟨c,va,vb,sp⟩:=WB.split hW hq p hp
 have ea:=sp.ahead;have eb:=sp.flip.ahead;have lA:va.length≤24:=by rw[←ea];exact AM (BC _ _) (WB.bk_len hW hp)
 have lB:vb.length≤24:=by rw[←eb];exact AM (BC _ _) (WB.bk_len hW hq)
 rw[ea] at e3 e3';rw[eb] at e4;have hturn:JI ((WB.bk W p).map V.int) (((va.map V.int).length:Nat):Int)=some (.int c):=K7 (by rw[Ab,Am,sp.turn hW];rfl);refine⟨_,rfl,_,rfl,la,_,rfl,.inl (SqL.of e3'),lp,_,_,_,rfl,rfl,SqL.of (t4 _ _ e1),hturn,?_⟩;refine⟨_,rfl,_,rfl,Mz,λl1 hl1=>?_⟩;have s5:=Jf hl1 (.lst [V.int c]);refine⟨la,l1,_,_,rfl,rfl,s5 _ _ e3',IX,(by rw[Ab];exact MN (by simp;omega)),λl2 hl2=>?_⟩;have s6:=Jf hl2 (.lst (va.map V.int++[V.int c]));refine⟨_,rfl,lb,_,rfl,SqL.of (s6 _ _ (s5 _ _ e4)),λl3 hl3=>?_⟩;have s7:=Jf hl3 (.lst (vb.map V.int).reverse);refine⟨l2,l3,_,_,rfl,rfl,s7 _ _ IX,IX,(by simp only[A5,Ab,Fb,BB];exact MN (by omega)),λl4 hl4=>?_⟩;have s8:=Jf hl4 (.lst ((va.map V.int++[V.int c])++(vb.map V.int).reverse));have t8:Same H _:=s1.trans (t4.trans (s5.trans (s6.trans (s7.trans s8))));refine q l4 _ t8 ?_ ?_
 · cases hz:H l4 with
   | none=>rfl
   | some o=>exact absurd ((s1.trans (t4.trans (s5.trans (s6.trans s7)))) _ _ hz) (by rw[hl4];intro z;cases z)
 · rw[IX,sp.way hW];simp
theorem zhu(F:Fun K "is_stand" "is_stand" QK f fd)(Ie:Γ15 P w K mg base)(Ib:Γ18 P w K mg base)(Ig:Γ12 P w K mg base):FnOk P w K mg base Jp 8 f fd ["web","thing"] (VL):=by
 refine F.ok Hl (λvs H Q E h=>?_) (λcdv A outer s H vs Q E hr h=>?_)
 · obtain⟨a,W,x,rfl,hW,hx,q⟩:=h;rfl
 obtain⟨a,W,x,rfl,hW,hx,q⟩:=h;refine⟨_,(IZ (J0 (PW.pt (KE (Ka (JQ (Jm (Kd (n:="")) rfl B.isinstance_ JT (IS (pv 1) (IS (JO (v:= .ty "tuple") rfl B.tuple_ L8 rfl) IT))))) (KI (Jy LI (Jm JK rfl B.len_ J9 (IS (pv 1) IT)) IV (Js _))))) (Jb (Jl J_)) Jz)
  (IZ (L7 (pv 1) (KZ rfl (J3 (Jn (i:=2) Hl.nd rfl (Or.inl rfl)) (J3 (Jn (i:=3) Hl.nd rfl (Or.inl rfl)) (J3 (Jn (i:=4) Hl.nd rfl (Or.inl rfl)) Ku)))))
  (Jb (Jl (K3 (Jd Ie (hr.mono (by decide)) rfl (IS (pv 2) IT)) (K3 (Jd Ib (hr.mono (by decide)) rfl (IS (pv 0) (IS (pv 3) IT))) (K3 (Jd Ig (hr.mono (by decide)) rfl (IS (pv 4) IT)) (Kp (LB L4 (Jm JK rfl B.len_ J9 (IS (pv 4) IT)) (O2 (v:= .int 10) rfl qMW' ⟨_,rfl⟩) (Js _)))))))))),?_⟩
 refine⟨_,rfl,_,"tuple","tuple",true,rfl,.tup hx.at',rfl,_,rfl,IW ⟨_,rfl,x.a,_,rfl,.inr (SqT.of hx.at'),rfl,_,rfl,?_⟩⟩;refine IW ⟨_,rfl,x.a,_,rfl,SqT.of hx.at',rfl,_,_,rfl,_,_,rfl,_,_,rfl,rfl,?_⟩;refine⟨_,rfl,x.hand,rfl,hx.name,λH1 s1=>⟨_,rfl,IY ⟨_,rfl,_,rfl,a,W,x.post,rfl,⟨s1 _ _ hW.1,hW.2⟩,hx.post,_,rfl,IY ?_⟩⟩⟩;refine⟨_,rfl,x.l,x.ws,rfl,hx.ws.same s1,hx.nd,by have:=hx.few;omega,λH2 s2=>⟨_,rfl,IY ⟨_,rfl,x.l,_,rfl,.inl (SqL.of ((hx.ws.same s1).same s2).at'),_,_,rfl,rfl,?_⟩⟩⟩;dsimp only;rw[decide_eq_true (by have:=hx.few;rw[Ab];omega)];exact q H2 (s1.trans s2)
theorem zfG(F:Fun K "are_stands" "are_stands" NE f fd)(Ih:Γ22 P w K mg base):FnOk P w K mg base Jp 9 f fd ["web","thing"] (VV):=by
 refine F.ok zfi (λvs H Q E h=>?_) (λcdv A outer s H vs Q E hr h=>?_)
 · obtain⟨a,l,W,xs,rfl,hW,hx,q⟩:=h;rfl
 obtain⟨a,l,W,xs,rfl,hW,hx,q⟩:=h;refine⟨_,(IZ (J0 (PW.pt (KE (Ka (JQ (Jm (Kd (n:="")) rfl B.isinstance_ JT (IS (pv 1) (IS (JO (v:= .ty "list") rfl B.list_ KN rfl) IT))))) (KI (Jy M0 (Jm JK rfl B.len_ J9 (IS (pv 1) IT)) (O2 (v:= .int 30) rfl qMH' ⟨_,rfl⟩) (Js _))))) (Jb (Jl J_)) Jz)
  (IZ (J0 (Ka (JQ (Jm (Mi rfl) rfl B.all_ Mf (IS (K6 (N':=["stand","web"]) (js:=[none,some 0]) rfl (JN (N:=["web","thing"]) (outer:=Jh NE) (by decide+kernel)) (JV (pv 1)) (λ_ _ _ _ _=>(Jn (i:=0) Sb rfl (Or.inl rfl))) (λ_ _ _ _ _=>Ke) (λ_ _ _ _ _=>(Jd Ih (hr.mono (by decide)) rfl (IS (pv 1) (IS (pv 0) IT))))) IT)))) (Jb (Jl J_)) Jz)
  (Jb (Jl (LB Kc (YU (N':=["hand","place","wishes"]) (js:=[none,none,none]) rfl (JN (N:=["web","thing"]) (outer:=Jh NE) (by decide+kernel)) (JV (pv 1)) (λ_ _ _ _ _=>(MT K rfl (n:=3) rfl (J3 (Jn (i:=0) Lu rfl (Or.inl rfl)) (J3 (Jn (i:=1) Lu rfl (Or.inl rfl)) (J3 (Jn (i:=2) Lu rfl (Or.inl rfl)) Ku))))) (λ_ _ _ _ _=>Ke) (λ_ _ _ _ _=>(pv 0)) rfl B.len_) (Jm JK rfl B.len_ J9 (IS (pv 1) IT)) (Js _)))))),?_⟩
 have h30:¬(30:Int)<((xs.map λx=>V.ref x.a).length:Int):=by rw[Ab];have:=hx.len;omega
 refine⟨_,rfl,_,"list","list",true,rfl,.lst hx.at',rfl,_,rfl,IW ⟨_,rfl,l,_,rfl,.inl (SqL.of hx.at'),_,_,rfl,rfl,_,rfl,?_⟩⟩;rw[decide_eq_false h30];refine IW ⟨_,rfl,l,rfl,⟨_,SqL.of hx.at'⟩,λr hr=>?_⟩;refine M9 (xs:=xs.map λx=>V.ref x.a) (λi σ' ys H'=>(∃v,σ'=[v,some (.ref a)])∧Same H H'∧H' r=some (.lst ys)∧ys=AR i (V.bl true)) ⟨⟨none,rfl⟩,Jf hr _,IX,rfl⟩ ?_ ?_ ?_
 · rintro i σ' ys H' hi ⟨_,s,h1,h2⟩;refine⟨SqL.of (s _ _ hx.at'),h1,?_⟩;rw[h2,BK];rw[Ab] at hi;have:=hx.len;exact JB (by omega)
 · rintro i y σ' ys H' N hy ⟨⟨v,rfl⟩,s,h1,h2⟩ hN;rw[Am] at hy;cases e1:xs[i]? with
   | none=>rw[e1] at hy;cases hy
   | some x1=>
    rw[e1] at hy;cases hy;refine⟨_,rfl,_,rfl,a,W,x1,rfl,⟨s _ _ hW.1,hW.2⟩,(hx.ok x1 (Av e1)).same s,λH2 s2=>⟨s2 _ _ h1,hN _ _ _ ⟨⟨_,rfl⟩,?_,IX,?_⟩⟩⟩
    · exact Kw (s.trans s2) hr
    · rw[h2,Ci]
 · rintro σ' ys H' ⟨_,s,h1,h2⟩;rw[Ab] at h2;refine⟨r,AR xs.length true,rfl,SqL.of (by rw[h1,h2,CO]),_,rfl,?_⟩;rw[show(AR xs.length true).all id=true by simp];refine IW ?_;have hx':=hx.same s;refine⟨_,rfl,l,rfl,⟨_,SqL.of hx'.at'⟩,λz hz=>?_⟩;refine Y6 (xs:=xs.map λx=>V.ref x.a) (λi σ' ks H2=>(∃v1 v2 v3,σ'=[v1,v2,v3])∧Same H' H2∧ks=(xs.map (·.hand)).take i) (λφ=>⟨⟨none,none,none,rfl⟩,Jf hz _,rfl⟩) ?_ ?_ ?_
   · rintro i σ' ks H2 hi ⟨_,s2,rfl⟩;refine⟨SqL.of (s2 _ _ hx'.at'),?_⟩;rw[AE,Ab];have:=hx.len;omega
   · rintro i y σ' ks H2 N hy ⟨⟨v1,v2,v3,rfl⟩,s2,rfl⟩ hN;rw[Am] at hy;cases e1:xs[i]? with
     | none=>rw[e1] at hy;cases hy
     | some x1=> rw[e1] at hy;cases hy;have h1:=(hx'.ok x1 (Av e1)).same s2;refine⟨x1.a,_,rfl,SqT.of h1.at',rfl,_,_,rfl,_,_,rfl,_,_,rfl,rfl,?_⟩;exact⟨_,rfl,x1.hand,rfl,rfl,λφ=>hN _ _ _ ⟨⟨_,_,_,rfl⟩,Kw s2 hz,zjT hx.nd e1⟩⟩
   · rintro σ' ks H2 ⟨_,s2,rfl⟩;refine⟨_,rfl,l,_,rfl,.inl (SqL.of (s2 _ _ hx'.at')),rfl,?_⟩;rw[AE,Ab,Ab,Nat.min_self,decide_eq_true rfl];exact q H2 (s.trans s2)
theorem zep(F:Fun K "check_stands" "check_stands" Ry f fd)(Ii:Γ17 P w K mg base)(Ij:Γ23 P w K mg base):FnOk P w K mg base Jp 10 f fd ["web","stands"] (VW):=by
 refine F.ok zef (λvs H Q E h=>?_) (λcdv A outer s H vs Q E hr h=>?_)
 · obtain⟨a,l,W,xs,rfl,hW,hx,q⟩:=h;rfl
 obtain⟨a,l,W,xs,rfl,hW,hx,q⟩:=h;refine⟨_,(IZ (Kv (Jd Ii (hr.mono (by decide)) rfl (IS (pv 0) IT)))
  (Jb (J0 (Ka (JQ (Jd Ij (hr.mono (by decide)) rfl (IS (pv 0) (IS (pv 1) IT))))) (Jb OH) Jz))),?_⟩
 refine⟨_,rfl,a,W,rfl,hW,λH1 s1=>?_⟩;dsimp only;exact⟨_,rfl,_,rfl,a,l,W,xs,rfl,⟨s1 _ _ hW.1,hW.2⟩,hx.same s1,λH2 s2=>⟨_,rfl,IW (q H2 (s1.trans s2))⟩⟩
theorem zdS(F:Fun K "roads_between" "roads_between" R6 f fd)(Ik:Γ21 P w K mg base):FnOk P w K mg base Jp 3 f fd ["web","p","q"] (SN):=by
 refine F.ok Hm (λvs H Q E h=>?_) (λcdv A outer s H vs Q E hr h=>?_)
 · obtain⟨a,W,p,q',rfl,hW,hp,hq,q⟩:=h;rfl
 obtain⟨a,W,p,q',rfl,hW,hp,hq,q⟩:=h;refine⟨_,(IZ (Jk (i:=3) Hm.nd rfl (Or.inl rfl) (Jd Ik (hr.mono (by decide)) rfl (IS (pv 0) (IS (pv 1) (IS (pv 2) IT)))))
  (Jb (Jl (ziQ rfl (IS (pv 3) (IS (Lg O6 (pv 3) (Le IV) Ld) IT)) rfl B.list_ rfl B.zip_)))),?_⟩
 refine⟨_,rfl,_,rfl,_,rfl,a,W,p,q',rfl,hW,hp,hq,λl1 H1 s1 n1 e1=>?_⟩;refine J7 ?_;intro σ1;refine⟨_,rfl,_,rfl,1,rfl,l1,_,rfl,SqL.of e1,λl2 hl2=>?_⟩;have s2:=Jf hl2 (.lst (J2 ((WB.wayB W p q').map V.int) (some 1) none));have ec:J2 ((WB.wayB W p q').map V.int) (some 1) none=(WB.wayB W p q').tail.map V.int:=by rw[show(some (1:Int))=some ((1:Nat):Int) from rfl,WL,←F7,List.drop_one]
 rw[ec] at s2 ⊢;refine⟨l1,l2,_,_,rfl,SqL.of (s2 _ _ e1),SqL.of IX,λas H3 l3 hl na k3 t3 hn=>?_⟩;have s3:Same (IU H1 l2 (.lst ((WB.wayB W p q').tail.map V.int))) H3:=λb o e=>by rw[k3 b λhm=>by rw[na b hm] at e;cases e];exact e
 have s4:=Jf hn (.lst (as.map V.ref));have sa:=s1.trans (s2.trans (s3.trans s4));have ez:(((WB.wayB W p q').map V.int).zip ((WB.wayB W p q').tail.map V.int))=(RC.steps (WB.wayB W p q')).map λk=>(V.int k.1,V.int k.2):=by unfold RC.steps;rw[List.zip_map];rfl
 rw[ez] at hl t3;rw[Ab] at hl;refine q l3 (as.zip (RC.steps (WB.wayB W p q'))) _ sa ((s1.trans (s2.trans s3)).free hn) ⟨?_,λk hk=>?_⟩ ?_
 · rw[IX];have:(as.zip (RC.steps (WB.wayB W p q'))).map (λk=>V.ref k.1)=((as.zip (RC.steps (WB.wayB W p q'))).map (·.1)).map V.ref:=by rw[BY];rfl
   rw[this,show((as.zip (RC.steps (WB.wayB W p q'))).map (·.1))=as from List.map_fst_zip (by omega)]
 · obtain⟨j,hj⟩:=DI.mp hk;rw[Eg] at hj;exact s4 _ _ (t3 j k.1 (V.int k.2.1,V.int k.2.2) hj.1 (by rw[Am,hj.2];rfl))
 · exact List.map_snd_zip (by omega)
theorem zdR(F:Fun K "roads_crossed" "roads_crossed" NJ f fd)(Il:Γ24 P w K mg base)(Im:Γ19 P w K mg base)(Io:Γ10 P w K mg base)(Ip:Γ14 P w K mg base)(Iq:Γ25 P w K mg base):FnOk P w K mg base Jp 11 f fd ["web","stands","post","piece"] (Up):=by
 refine F.ok Hn (λvs H Q E h=>?_) (λcdv A outer s H vs Q E hr h=>?_)
 · obtain⟨a,l,c,W,xs,post,p,rfl,hW,hx,hpo,hp,pok,q⟩:=h;rfl
 obtain⟨a,l,c,W,xs,post,p,rfl,hW,hx,hpo,hp,pok,q⟩:=h;refine⟨_,(IZ (Kv (Jd Il (hr.mono (by decide)) rfl (IS (pv 0) (IS (pv 1) IT))))
  (IZ (Kv (Jd Im (hr.mono (by decide)) rfl (IS (pv 0) (IS (pv 2) IT))))
  (IZ (Kv (Jd Io (hr.mono (by decide)) rfl (IS (pv 3) IT)))
  (IZ (M7 (N':=["hand","place","wishes","piece"]) (js:=[none,none,none,some 3]) (i:=4) Hn.nd rfl (Or.inl rfl) rfl (JN (N:=["web","stands","post","piece","places"]) (outer:=Jh NJ) (by decide+kernel)) (JV (pv 1)) (λ_ _ _ _ _=>(MT K rfl (n:=3) rfl (J3 (Jn (i:=0) Ls rfl (Or.inl rfl)) (J3 (Jn (i:=1) Ls rfl (Or.inl rfl)) (J3 (Jn (i:=2) Ls rfl (Or.inl rfl)) Ku))))) (λ_ _ _ _ _=>MZ (JQ (Jd Ip (hr.mono (by decide)) rfl (IS (pv 2) (IS (pv 3) IT))))) (λ_ _ _ _ _=>(pv 1)))
  (Jb (Jl (ziP (N':=["place","road","web","post"]) (js:=[none,none,some 0,some 2]) (Ml hr) rfl B.sorted_ rfl (JN (N:=["web","stands","post","piece","places"]) (outer:=Jh NJ) (by decide+kernel)) (JV (pv 4)) (λ_ _ _ _ _=>(Jn (i:=0) Mo rfl (Or.inl rfl))) (λ_ _ _ _ _=>Ke) (λ_ _ _ _ _=>(YV K rfl (Jd Iq (hr.mono (by decide)) rfl (IS (pv 2) (IS (pv 3) (IS (pv 0) IT)))))) (λ_ _ _ _ _=>(Jn (i:=1) Mo rfl (Or.inl rfl))) (λ_ _ _ _ _=>Ke) (λ_ _ _ _ _=>(pv 1))))))))),?_⟩
 refine⟨_,rfl,_,rfl,a,l,W,xs,rfl,hW,hx,λH1 s1=>?_⟩;dsimp only;have hW1:=hW.same s1;have hx1:=hx.same s1;refine⟨_,rfl,_,rfl,a,W,post,rfl,hW1,hpo,?_⟩;dsimp only;refine⟨_,rfl,c,p,rfl,hp.same s1,pok,λH2 s2=>?_⟩;dsimp only;have S2:=s1.trans s2;have hx2:=hx.same S2;have hW2:=hW.same S2;have hp2:=hp.same S2;refine⟨_,rfl,l,rfl,⟨_,SqL.of hx2.at'⟩,λr hr=>?_⟩;refine M9 (xs:=xs.map λx=>V.ref x.a) (λi σ' ys H'=>(∃v1 v2 v3,σ'=[v1,v2,v3,some (.ref c)])∧Same H2 H'∧H' r=some (.lst ys)∧ys=(((xs.take i).filter λx=>KP x.ws p).map (·.post)).map V.int) ⟨⟨none,none,none,rfl⟩,Jf hr _,IX,rfl⟩ ?_ ?_ ?_
 · rintro i σ' ys H' hi ⟨_,s,h1,h2⟩;refine⟨SqL.of (s _ _ hx2.at'),h1,?_⟩;rw[h2,Ab,Ab];have:=hx.len;have:=BC (λx:Stand=>KP x.ws p) (xs.take i);rw[AE] at this;exact JB (by omega)
 · rintro i x σ' ys H' N hy ⟨⟨v1,v2,v3,rfl⟩,s,h1,h2⟩ hN;rw[Am] at hy;cases e1:xs[i]? with
   | none=>rw[e1] at hy;cases hy
   | some x1=>
    rw[e1] at hy;cases hy;have o1:=(hx2.ok x1 (Av e1)).same s;refine⟨x1.a,_,rfl,SqT.of o1.at',rfl,_,_,rfl,_,_,rfl,_,_,rfl,rfl,?_⟩;refine⟨_,rfl,_,rfl,x1.l,c,x1.ws,p,rfl,o1.ws,hp2.same s,pok,λH3 s3=>⟨_,rfl,?_⟩⟩;have st:((xs.take (i+1)).filter λx=>KP x.ws p)=(xs.take i).filter (λx=>KP x.ws p)++(if KP x1.ws p then [x1] else []):=by rw[KJ e1,BR];congr 1;rw[DM];rfl
    cases cw:KP x1.ws p with
    | true=> rw[cw] at st;refine IY ⟨_,rfl,s3 _ _ h1,hN _ _ _ ⟨⟨_,_,_,rfl⟩,Kw (s.trans s3) hr,IX,?_⟩⟩;rw[h2,st,Aq,Aq];rfl
    | false=> rw[cw] at st;refine IW (hN _ _ _ ⟨⟨_,_,_,rfl⟩,s.trans s3,s3 _ _ h1,?_⟩);rw[h2,st];simp
 · rintro σ' ys H3 ⟨_,s3,h1,h2⟩;rw[Ab,Bx] at h2;subst h2;refine J7 ?_;intro σ2;refine⟨_,rfl,r,rfl,⟨_,SqL.of h1⟩,?_⟩;have hW3:=hW2.same s3;have mem:∀k:ST.PR,(∃c∈(xs.filter λx=>KP x.ws p).map (·.post),k∈RC.steps (WB.wayB W post c))↔RC.Awy W post k.1 k.2∧Kb xs p W k:=by
    rintro⟨x,y⟩;constructor
    · rintro⟨c',hc',hk⟩;obtain⟨x1,hx1',rfl⟩:=Ax.mp hc';obtain⟨m1,w1⟩:=BJ.mp hx1';obtain⟨g1,g2⟩:=(RC.cross hW.2 hpo (hx.ok x1 m1).post).mp hk;exact⟨g1,x1,m1,w1,g2⟩
    · rintro⟨g1,x1,m1,w1,g2⟩;exact⟨x1.post,Ax.mpr ⟨x1,BJ.mpr ⟨m1,w1⟩,rfl⟩,(RC.cross hW.2 hpo (hx.ok x1 m1).post).mpr ⟨g1,g2⟩⟩
   refine Y9 (u:=some (.ref a)) (v:=some (.int post)) ((xs.filter λx=>KP x.ws p).map (·.post)) (λc=>RC.steps (WB.wayB W post c)) (SqL.of h1) rfl (λzs nz hz=>XC hW.2 hpo nz λk hk=>((mem k).mp (hz k hk)).1) ?_ (λx y H' R hR=>⟨_,rfl,hR⟩) ?_
   · intro c' hc' y H' R s' hR;obtain⟨x1,hx1',rfl⟩:=Ax.mp hc';have m1:=(BJ.mp hx1').1;exact⟨_,rfl,_,rfl,_,rfl,a,W,post,x1.post,rfl,hW3.same s',hpo,(hx.ok x1 m1).post,λl4 ks H4 s4 n4 R4 e4=>⟨l4,rfl,⟨_,SqL.of R4.at'⟩,hR l4 ks H4 s4 R4 e4⟩⟩
   · intro ks H4 s4 t4 nd4 m4 l4;refine⟨by omega,t4,λr5 qs pm srt hn5=>?_⟩;have s5:=Jf hn5 (.lst (qs.map λq=>V.ref q.1));refine q r5 qs _ (S2.trans (s3.trans (s4.trans s5))) ((S2.trans (s3.trans s4)).free hn5) ⟨IX,λk hk=>s5 _ _ (t4 k (pm.mem_iff.mp hk))⟩ srt ((pm.map _).nodup_iff.mpr nd4) λk=>?_;rw[(pm.map _).mem_iff,m4,mem]
theorem zhk(F:Fun K "_law_well" "_law_well" NI f fd)  :FnOk P w K mg base Jp 1 f fd ["script"] (TN K):=by
 refine F.ok Ho (λvs H Q E h=>?_) (λcdv A outer s H vs Q E hr h=>?_)
 · obtain⟨a,ns,rfl,hS,h63,q⟩:=h;rfl
 obtain⟨a,ns,rfl,hS,h63,q⟩:=h;refine⟨_,(IZ (M7 (N':=["cell"]) (js:=[none]) (i:=1) Ho.nd rfl (Or.inl rfl) rfl (JN (N:=["script","great","small","seed","number"]) (outer:=Jh NI) (by decide+kernel)) (JV (Lg O6 (pv 0) Ld (Le IV))) (λ_ _ _ _ _=>(Jn (i:=0) Mn rfl (Or.inl rfl))) (λ_ _ _ _ _=>MZ (Jy Xg (Jm Qx rfl B.abs_ P9 (IS (pv 0) IT)) (Jg Lb IV IV) (Js _))) (λ_ _ _ _ _=>(Jg LL (Jm Qx rfl B.abs_ P9 (IS (pv 0) IT)) (Jg MS (Jg Lb IV IV) (Jg Lb IV IV)))))
  (IZ (M7 (N':=["cell"]) (js:=[none]) (i:=2) Ho.nd rfl (Or.inl rfl) rfl (JN (N:=["script","great","small","seed","number"]) (outer:=Jh NI) (by decide+kernel)) (JV (Lg O6 (pv 0) Ld (Le IV))) (λ_ _ _ _ _=>(Jn (i:=0) Mn rfl (Or.inl rfl))) (λ_ _ _ _ _=>MZ (Jy Nt (Jm Qx rfl B.abs_ P9 (IS (pv 0) IT)) (Jg Lb IV IV) (Js _))) (λ_ _ _ _ _=>(Jg LL (pv 0) IV)))
  (IZ (Jk (i:=3) Ho.nd rfl (Or.inl rfl) (Jg JE IV (Jm JK rfl B.len_ J9 (IS (pv 2) IT))))
  (IZ (KH By rfl (JV (pv 2)) (Jn (i:=4) Ho.nd rfl (Or.inl rfl)) (Jb (Jk (i:=3) Ho.nd rfl (Or.inl rfl) (Jg LL (Jg JE (Jg JE (Jg MS (pv 3) IV) (Jg MS (pv 4) IV)) IV) IV))))
  (Jb (Jl (JM (IS (pv 1) (IS (pv 2) (IS (pv 3) (IS IV IT))))))))))),?_⟩
 have cut:J2 (ns.map V.int) none (some 63)=ns.map V.int:=by unfold J2;rw[show HT.sIx (ns.map V.int).length 0 none=0 from rfl,show HT.sIx (ns.map V.int).length (ns.map V.int).length (some 63)=min 63 (ns.map V.int).length from HT.sIx_nat _ _ 63];rw[Fi];exact Bt (by rw[Ab];omega)
 have m60:SI (10^(60:Int).toNat) (10^(60:Int).toNat):=⟨by decide,by decide⟩;refine⟨_,rfl,_,rfl,a,_,rfl,hS,λp1 hp1=>⟨p1,rfl,⟨_,SqL.of IX⟩,λp hp=>?_⟩⟩;refine OA (cap:=[]) ns (λn=>(if n<0 then -n else n)%(10^(60:Int).toNat*10^(60:Int).toNat)) (λn=>decide ((10:Int)^(18:Int).toNat≤(if n<0 then -n else n))) (by omega) (SqL.of (by rw[IX,cut])) hp ?_ ?_ ?_ ?_
 · rfl
 · exact λn H' R s r=>⟨_,rfl,_,rfl,_,_,rfl,rfl,Kj (by decide) (by decide),_,_,rfl,rfl,_,rfl,r⟩
 · exact λn H' R s r=>⟨_,rfl,_,rfl,_,_,rfl,rfl,Kj (by decide) (by decide),_,_,rfl,rfl,Kj (by decide) (by decide),_,_,rfl,rfl,m60,_,_,rfl,rfl,(by show(0:Int)<10^(60:Int).toNat*10^(60:Int).toNat;decide),r⟩
 intro H1 s1 h1;have t1:Same H H1:=(Jf hp1 _).trans s1;have pn1:H p=none:=(Jf hp1 _).free hp;refine⟨_,rfl,_,rfl,a,_,rfl,t1.seq hS,λp2 hp2=>⟨p2,rfl,⟨_,SqL.of IX⟩,λp' hp'=>?_⟩⟩;refine OA (cap:=[]) ns (λn=>n%2147483563) (λn=>decide ((if n<0 then -n else n)<(10:Int)^(18:Int).toNat)) (by omega) (SqL.of (by rw[IX,cut])) hp' ?_ ?_ ?_ ?_
 · rfl
 · exact λn H' R s r=>⟨_,rfl,_,rfl,_,_,rfl,rfl,Kj (by decide) (by decide),_,_,rfl,rfl,_,rfl,r⟩
 · exact λn H' R s r=>⟨_,rfl,_,_,rfl,rfl,(by show(0:Int)<2147483563;decide),r⟩
 intro H2 s2 h2;have t12:Same H1 H2:=(Jf hp2 _).trans s2;have t2:Same H H2:=t1.trans t12;have g2:=t12 _ _ h1;have n2:H1 p'=none:=(Jf hp2 _).free hp';have lb:∀x∈(ns.filter λn=>decide ((if n<0 then -n else n)<(10:Int)^(18:Int).toNat)).map (λn=>n%2147483563),0≤x∧x<wM:=λx hx=>by obtain⟨y,_,rfl⟩:=Ax.mp hx;exact⟨C4 _ (by decide),Ch _ (by decide)⟩
 have ll:=BC (λn=>decide ((if n<0 then -n else n)<(10:Int)^(18:Int).toNat)) ns
 have gg:=BC (λn=>decide ((10:Int)^(18:Int).toNat≤(if n<0 then -n else n))) ns
 generalize hls:(ns.filter λn=>decide ((if n<0 then -n else n)<(10:Int)^(18:Int).toNat)).map (λn=>n%2147483563)=ls at*
 have lz:ls.length≤63:=by rw[←hls,Ab];omega
 generalize hgs:(ns.filter λn=>decide ((10:Int)^(18:Int).toNat≤(if n<0 then -n else n))).map (λn=>(if n<0 then -n else n)%(10^(60:Int).toNat*10^(60:Int).toNat))=gs at*
 have gz:gs.length≤63:=by rw[←hgs,Ab];omega
 refine⟨_,rfl,p',_,rfl,.inl (SqL.of h2),_,_,rfl,rfl,?_⟩
 let Pv4:Nat→L2.St→Hp→Prop:=λi σ H'=>∃(st:Int)(x4:Option V),σ=[some (.ref a),some (.ref p),some (.ref p'),some (.int st),x4]∧H'=H2∧0≤st∧st<wM
 refine⟨_,rfl,p',rfl,⟨_,SqL.of h2⟩,LO (K:=K) (a:=p') (xs:=ls.map V.int) Pv4 ⟨_,none,rfl,rfl,by omega,by rw[Ab];unfold wM;omega⟩ (λi σ H' _ ⟨_,_,_,e,_⟩=>by rw[e];exact SqL.of h2) ?_ ?_⟩
 · rintro i x σ H' hx ⟨st,x4,rfl,rfl,z0,z1⟩;rw[Am] at hx;cases hn:ls[i]? with
   | none=>rw[hn] at hx;cases hx
   | some y=> rw[hn] at hx;obtain rfl:V.int y=x:=AD hx;obtain⟨y0,y1⟩:=lb y (Av hn);have sm:∀z:Int,z.natAbs<2^100→z.natAbs<2^1000:=λz h=>A8 h (by decide);refine⟨_,rfl,_,_,rfl,rfl,⟨sm _ (by unfold wM at z1;omega),by decide⟩,_,rfl,_,_,rfl,rfl,⟨sm _ (by unfold wM at y1;omega),by decide⟩,_,_,rfl,rfl,_,_,rfl,rfl,_,_,rfl,rfl,(by show(0:Int)<2147483563;decide),_,_,rfl,rfl,C4 _ (by decide),Ch _ (by decide)⟩
 · rintro σ H' ⟨st,x4,rfl,rfl,z0,z1⟩;refine⟨_,rfl,_,rfl,_,rfl,SB,λp5 hp5=>?_⟩;have s5:=Jf hp5 (.lst [V.ref p,V.ref p',V.int st,V.int 0]);exact q p5 p p' _ ⟨⟨gs,ls,st,0,IX,s5 _ _ g2,s5 _ _ h2,gz,lz,lb,z0,z1,by decide,by decide⟩,JJ h1 n2,(JJ g2 hp5).symm,(JJ h2 hp5).symm⟩ (t2.trans s5) (t2.free hp5) pn1
theorem zhl(F:Fun K "_law_take" "_law_take" QR f fd)  :FnOk P w K mg base Jp 1 f fd ["well","many"] (TL):=by
 refine F.ok Hq (λvs H Q E h=>?_) (λcdv A outer s H vs Q E hr h=>?_)
 · obtain⟨b,g,l,n,many,rfl,Bg,hn,hm,hm2,q⟩:=h;rfl
 obtain⟨b,g,l,n,many,rfl,Bg,hn,hm,hm2,q⟩:=h;refine⟨_,(IZ (J0 (Jy (Tq (Ml hr)) (Jx JA (pv 0) IV (λ_ _=>rfl)) (JM IT) (Js _)) (IZ (Jk (i:=2) Hq.nd rfl (Or.inl rfl) (Jx JA (Jx JA (pv 0) IV (λ_ _=>rfl)) IV (λ_ _=>rfl)))
  (IZ (L7 (Jg Qn (pv 2) (pv 1)) (PV (Jx JA (pv 0) IV (λ_ _=>rfl)) IV Qu))
  (IZ (J0 (Jy Nt (pv 2) (pv 1) (Js _)) (Jb (Kv (KD AQ DJ DK Q0 (Jx JA (pv 0) IV (λ_ _=>rfl)) (IS IV IT)))) Jz)
  (Jb (Jl (Jg LL (pv 2) (pv 1))))))) Jz)
  (IZ (L7 (Jg JE (Jx JA (pv 0) IV (λ_ _=>rfl)) IV) (PV (pv 0) IV Qu))
  (IZ (Jk (i:=3) Hq.nd rfl (Or.inl rfl) IV)
  (IZ (J0 (Jy (Tq (Ml hr)) (Jx JA (pv 0) IV (λ_ _=>rfl)) (JM IT) (Js _)) (Jb (Jk (i:=3) Hq.nd rfl (Or.inl rfl) (Jg JE (Jx JA (Jx JA (pv 0) IV (λ_ _=>rfl)) (Jg LL (Jx JA (pv 0) IV (λ_ _=>rfl)) (Jm JK rfl B.len_ J9 (IS (Jx JA (pv 0) IV (λ_ _=>rfl)) IT))) (λ_ _=>rfl)) IV))) Jz)
  (IZ (Jk (i:=2) Hq.nd rfl (Or.inl rfl) (Jg LL (Jg Lb (Jg JE (Jx JA (pv 0) IV (λ_ _=>rfl)) (Jg MS (pv 3) (Jg JE (Jg MS (Jx JA (pv 0) IV (λ_ _=>rfl)) IV) IV))) IV) IV))
  (IZ (L7 (Jg LL (Jg JE (Jg JE (Jg MS (Jx JA (pv 0) IV (λ_ _=>rfl)) IV) (pv 2)) (Jx JA (pv 0) IV (λ_ _=>rfl))) IV) (PV (pv 0) IV Qu))
  (Jb (Jl (Jg LL (Jg Qn (pv 2) IV) (pv 1)))))))))),?_⟩
 obtain⟨gs,ls,sd,c,e1,e2,e3,z1,z2,z4,z5,z6,z7,z8⟩:=id Bg.ex;refine⟨_,rfl,b,_,0,_,rfl,rfl,SqL.of e1,rfl,Kq,λp hp=>?_⟩;have s1:=Jf hp (.lst []);have B2:=Bg.same s1;have e1':=s1 _ _ e1;have e2':=s1 _ _ e2;have e3':=s1 _ _ e3;refine SH (SqL.of e2') (SqL.of IX) ⟨_,rfl,?_⟩;generalize IU H p (.lst [])=H2 at*;have S2:SameB b g H H2:=s1.sameB;clear s1;have bg:=Bg.bg;have bl:=Bg.bl;have gl:=Bg.gl;cases gs with
 | cons x r=>
  refine IY ?_;refine⟨_,rfl,b,_,0,_,rfl,rfl,SqL.of e1',rfl,g,_,0,_,rfl,rfl,SqL.of e2',Su,?_⟩;refine⟨_,rfl,_,rfl,_,_,rfl,rfl,⟨hm,Int.lt_of_lt_of_le hm2 (by decide)⟩,_,rfl,b,_,0,_,rfl,rfl,SqL.of e1',rfl,g,_,0,0,rfl,rfl,e2',W9,?_⟩;have f2:(IU H2 g (.lst (((x::r).map V.int).set 0 (V.int (x / many))))) g=some (.lst (((x / many)::r).map V.int)):=IX;have f1:(IU H2 g (.lst (((x::r).map V.int).set 0 (V.int (x / many))))) b=some (.lst [V.ref g,V.ref l,V.int sd,V.int c]):=by rw[Ji bg];exact e1'
  have f3:(IU H2 g (.lst (((x::r).map V.int).set 0 (V.int (x / many))))) l=some (.lst (ls.map V.int)):=by rw[Ji (Bi gl)];exact e3'
  have S3:SameB b g H (IU H2 g (.lst (((x::r).map V.int).set 0 (V.int (x / many))))):=λa o h1 h2 h3=>by rw[Ji h3];exact S2 a o h1 h2 h3
  dsimp only;generalize IU H2 g (.lst (((x::r).map V.int).set 0 (V.int (x / many))))=H3 at*;refine⟨_,rfl,_,rfl,_,_,rfl,rfl,_,rfl,Jw (λ_=>?_) (λ_=>?_)⟩
  · refine⟨_,rfl,b,_,0,_,rfl,rfl,SqL.of f1,rfl,.inl ⟨rfl,_,SqL.of f2⟩,g,_,0,0,_,rfl,rfl,f2,by decide,by decide,(Qi (W9 (x:=V.int (x / many)) (r:=r.map V.int))).1,rfl,?_⟩;refine⟨_,rfl,_,rfl,_,_,rfl,rfl,hm,q _ _ (C4 _ (by omega)) (Ch _ hm) ⟨⟨r,ls,sd,c,?_,IX,?_,by simp only[AA] at z1;omega,z2,z4,z5,z6,z7,by omega⟩,gl,bg,bl⟩ ?_⟩
    · rw[Ji bg];exact f1
    · rw[Ji (Bi gl)];exact f3
    · intro a o h1 h2 h3;rw[Ji h3];exact S3 a o h1 h2 h3
  · exact⟨_,rfl,_,rfl,_,_,rfl,rfl,hm,q _ _ (C4 _ (by omega)) (Ch _ hm) ⟨⟨x / many::r,ls,sd,c,f1,f2,f3,by simp only[AA] at z1 ⊢;omega,z2,z4,z5,z6,z7,by omega⟩,gl,bg,bl⟩ S3⟩
 | nil=>
  refine IW ?_;refine⟨_,rfl,b,_,3,_,rfl,rfl,SqL.of e1',rfl,_,_,rfl,rfl,_,rfl,b,_,3,3,rfl,rfl,e1',rfl,?_⟩;have f1:(IU H2 b (.lst ([V.ref g,V.ref l,V.int sd,V.int c].set 3 (V.int (c+1))))) b=some (.lst [V.ref g,V.ref l,V.int sd,V.int (c+1)]):=IX;have f2:(IU H2 b (.lst ([V.ref g,V.ref l,V.int sd,V.int c].set 3 (V.int (c+1))))) g=some (.lst []):=by rw[Ji (Bi bg)];exact e2'
  have f3:(IU H2 b (.lst ([V.ref g,V.ref l,V.int sd,V.int c].set 3 (V.int (c+1))))) l=some (.lst (ls.map V.int)):=by rw[Ji (Bi bl)];exact e3'
  have S3:SameB b g H (IU H2 b (.lst ([V.ref g,V.ref l,V.int sd,V.int c].set 3 (V.int (c+1))))):=λa o h1 h2 h3=>by rw[Ji h2];exact S2 a o h1 h2 h3
  dsimp only;generalize IU H2 b (.lst ([V.ref g,V.ref l,V.int sd,V.int c].set 3 (V.int (c+1))))=H3 at*;have c1:0≤c+1:=by omega
  have c2:c+1≤2^41:=by omega
  refine J7 ?_;intro σ3;dsimp only;refine L9 (λσ' H'=>∃(cell:Int),σ'=[some (.ref b),some (.int many),none,some (.int cell)]∧1≤cell∧cell≤wM∧H' b=some (.lst [V.ref g,V.ref l,V.int sd,V.int (c+1)])∧H' g=some (.lst [])∧H' l=some (.lst (ls.map V.int))∧SameB b g H H') (λZ hZ=>?_) ?_
  · refine⟨_,rfl,b,_,1,_,rfl,rfl,SqL.of f1,rfl,Kq,λp4 hp4=>?_⟩;have s4:=Jf hp4 (.lst []);have k1:=s4 _ _ f1;have k2:=s4 _ _ f2;have k3:=s4 _ _ f3;have S4:=S3.trans s4.sameB;refine SH (SqL.of k3) (SqL.of IX) ⟨_,rfl,?_⟩;generalize IU H3 p4 (.lst [])=H4 at*;cases ls with
    | nil=>exact IW (hZ _ _ ⟨1,rfl,by decide,by decide,k1,k2,k3,S4⟩)
    | cons y ys=>
     refine IY ?_;have lpos:(0:Int)<(((y::ys).map V.int).length:Int):=by rw[Ab,AA];omega
     have i0:=C4 (c+1) (Int.ne_of_gt lpos);have i1:=Ch (c+1) lpos;obtain⟨v,hv,hvm⟩:=WI (ls:=y::ys) i0 (by rw[Ab] at i1 ⊢;exact i1);obtain⟨v0,v1⟩:=z4 v hvm;refine⟨_,rfl,b,_,1,_,rfl,rfl,SqL.of k1,rfl,_,rfl,b,_,3,_,rfl,rfl,SqL.of k1,rfl,_,rfl,b,_,1,_,rfl,rfl,SqL.of k1,rfl,l,_,rfl,.inl (SqL.of k3),_,_,rfl,rfl,lpos,l,_,_,_,rfl,rfl,SqL.of k3,hv,_,_,rfl,rfl,?_⟩;exact hZ _ _ ⟨v+1,rfl,by omega,by omega,k1,k2,k3,S4⟩
  rintro σ' H4 ⟨cell,rfl,l0,l1,k1,k2,k3,S4⟩;have sm:∀z:Int,z.natAbs<2^900→z.natAbs<2^1000:=λz h=>A8 h (by decide);have b3:(c+1).natAbs<2^900:=CL (show(c+1).natAbs≤2^41 by omega) (by decide);have b4:((c+1)*3163+1).natAbs<2^900:=CL (show((c+1)*3163+1).natAbs≤2^60 by omega) (by decide);have b5:cell.natAbs<2^900:=CL (show cell.natAbs≤2^60 by unfold wM at l1;omega) (by decide);have big:(sd+cell*((c+1)*3163+1)).natAbs<2^1000:=by
   have a5:cell*((c+1)*3163+1)≤2^60*2^60:=GJ (by unfold wM at l1;omega) (by omega) (by omega) (by decide);have a6:0≤cell*((c+1)*3163+1):=Int.mul_nonneg (by omega) (by omega);generalize cell*((c+1)*3163+1)=y at*;have a8:(sd+y).natAbs<2^125:=by unfold wM at z6;omega
   exact A8 a8 (by decide)
  refine⟨_,rfl,b,_,2,_,rfl,rfl,SqL.of k1,rfl,_,rfl,_,rfl,b,_,3,_,rfl,rfl,SqL.of k1,rfl,_,_,rfl,rfl,⟨sm _ b3,by decide⟩,_,_,rfl,rfl,_,_,rfl,rfl,⟨sm _ b5,sm _ b4⟩,_,_,rfl,rfl,_,_,rfl,rfl,⟨by decide,by decide,big⟩,_,_,rfl,rfl,(by show(0:Int)<2147483563;decide),?_⟩;dsimp only;generalize(sd+cell*((c+1)*3163+1))^(5:Int).toNat=y;have y0:=C4 y (show(2147483563:Int)≠0 by decide);have y1:=Ch y (show(0:Int)<2147483563 by decide);generalize y%2147483563=u at*;have b6:sd.natAbs<2^1000:=sm _ (CL (show sd.natAbs≤2^60 by unfold wM at z6;omega) (by decide));refine⟨_,rfl,b,_,2,_,rfl,rfl,SqL.of k1,rfl,_,_,rfl,rfl,⟨b6,by decide⟩,_,rfl,_,_,rfl,rfl,_,rfl,b,_,3,_,rfl,rfl,SqL.of k1,rfl,_,_,rfl,rfl,_,_,rfl,rfl,(by show(0:Int)<2147483563;decide),?_⟩;refine⟨_,rfl,b,_,2,2,rfl,rfl,k1,rfl,?_⟩;dsimp only;generalize sd*40692+u+(c+1)=v;have v0:=C4 v (show(2147483563:Int)≠0 by decide);have v1:=Ch v (show(0:Int)<2147483563 by decide);generalize v%2147483563=t at*;refine⟨_,rfl,_,_,rfl,rfl,⟨by decide,by decide⟩,_,rfl,_,_,rfl,rfl,hm,?_⟩;refine q _ _ (C4 _ (by omega)) (Ch _ hm) ⟨⟨[],ls,t,c+1,IX,?_,?_,by simp,z2,z4,v0,v1,c1,by omega⟩,gl,bg,bl⟩ ?_
  · rw[Ji (Bi bg)];exact k2
  · rw[Ji (Bi bl)];exact k3
  · intro a o h1 h2 h3;rw[Ji h2];exact S4 a o h1 h2 h3
theorem zhp(F:Fun K "_law_name" "_law_name" OX f fd)(Ir:Γ28 P w K mg base):FnOk P w K mg base Jp 2 f fd ["well","most"] (TJ):=by
 refine F.ok Hr (λvs H Q E h=>?_) (λcdv A outer s H vs Q E hr h=>?_)
 · obtain⟨b,g,l,n,most,rfl,Bg,hn,m1,m8,q⟩:=h;rfl
 obtain⟨b,g,l,n,most,rfl,Bg,hn,m1,m8,q⟩:=h;refine⟨_,(IZ (Jk (i:=2) Hr.nd rfl (Or.inr rfl) Nv)
  (Jb (Jl (KD PySem.F.plainAttrs_str PySem.F.slot_str_join PySem.F.type_str_join YL Nv (IS (K6 (N':=["k","well","letters"]) (js:=[none,some 0,some 2]) rfl (JN (N:=["well","most","letters"]) (outer:=Jh OX) (by decide+kernel)) (LF rfl B.range_ (IS (Jg JE IV (Jd Ir (hr.mono (by decide)) rfl (IS (pv 0) (IS (pv 1) IT)))) IT)) (λ_ _ _ _ _=>(Jn (i:=0) Oh rfl (Or.inl rfl))) (λ_ _ _ _ _=>Ke) (λ_ _ _ _ _=>(Jx Ti (pv 2) (Jd Ir (hr.mono (by decide)) rfl (IS (pv 1) (IS IV IT))) (λ_ _=>rfl)))) IT))))),?_⟩
 refine J7 ?_;intro σ4;refine⟨rfl,_,rfl,_,rfl,b,g,l,n,most,rfl,Bg,by omega,by omega,Ks (by omega),λr H2 r0 r1 B2 S2=>?_⟩;refine⟨_,_,rfl,rfl,_,rfl,by omega,by omega,λp hp=>?_⟩;obtain⟨pb,pg,pl⟩:=B2.free hp;have s3:=Jf hp (.lst []);have np:H p=none:=B2.back S2 p hp;refine Mj (n:=(1+r).toNat) (λi σ' ys H'=>(∃v,σ'=[v,some (.ref b),some (.str "abcdefghijklmnopqrstuvwxyz")])∧SameB b g H H'∧Well H' b g l (n+1+i)∧H' p=some (.lst ys)∧∃cs:List Nat,ys=(cs.map λc=>(⟨#[c]⟩:Str)).map V.str∧cs.length=i∧∀c∈cs,Mk c=true) ?_ ?_ ?_ ?_
 · exact⟨⟨none,rfl⟩,S2.trans s3.sameB,(B2.same s3).mono (by omega),IX,[],rfl,rfl,λc hc=>by simp at hc⟩
 · rintro i σ' ys H' hi ⟨_,_,_,h1,cs,rfl,h2,_⟩;exact⟨h1,by rw[Ab,Ab,h2];exact JB (by omega)⟩
 · rintro i σ' ys H4 N hi ⟨⟨v,rfl⟩,S4,B4,h1,cs,rfl,h2,h3⟩ hN;refine⟨_,rfl,_,rfl,b,g,l,_,26,rfl,B4,by omega,by decide,by decide,λk H5 k0 k1 B5 S5=>?_⟩;obtain⟨c,hc,ok⟩:=SC k0 k1;have h5:=S5 _ _ h1 pb pg;refine⟨_,_,c,rfl,rfl,(by show 26≤Az;decide),hc,h5,hN _ _ _ ⟨⟨_,rfl⟩,?_,?_,IX,cs++[c],?_,?_,?_⟩⟩
   · exact(S4.trans S5).off np
   · exact(B5.off pb pg pl).mono (by omega)
   · rw[Aq,Aq];rfl
   · rw[A5,h2];rfl
   · intro c' hc';rcases As.mp hc' with z | z
     · exact h3 c' z
     · rw[Ak.mp z];exact ok
 · rintro σ' ys H4 ⟨_,S4,B4,h1,cs,rfl,h2,h3⟩;refine⟨_,_,_,rfl,rfl,SqL.of h1,XS cs (by omega),q _ _ (zi1 (by omega) (by omega) h3) (B4.mono (by omega)) S4⟩
theorem zfC(F:Fun K "_law_fields" "_law_fields" Rg f fd)(Iu:Γ29 P w K mg base)(Ir:Γ28 P w K mg base):FnOk P w K mg base Jp 3 f fd ["well","many"] (VI):=by
 refine F.ok Hs (λvs H Q E h=>?_) (λcdv A outer s H vs Q E hr h=>?_)
 · obtain⟨b,g,l,n,many,rfl,Bg,hn,m1,m6,q⟩:=h;rfl
 obtain⟨b,g,l,n,many,rfl,Bg,hn,m1,m6,q⟩:=h;refine⟨_,(IZ (Jk (i:=2) Hs.nd rfl (Or.inl rfl) Nv)
  (IZ (Jk (i:=3) Hs.nd rfl (Or.inl rfl) (JM (IS (Jd Iu (hr.mono (by decide)) rfl (IS (pv 0) (IS IV IT))) IT)))
  (IZ (KH By rfl (LF rfl B.range_ (IS (Jd Ir (hr.mono (by decide)) rfl (IS (pv 0) (IS (pv 1) IT))) IT)) (Jn (i:=4) Hs.nd rfl (Or.inl rfl)) (IZ (Jk (i:=5) Hs.nd rfl (Or.inl rfl) (Jd Ir (hr.mono (by decide)) rfl (IS (pv 0) (IS IV IT))))
  (IZ (Jk (i:=6) Hs.nd rfl (Or.inl rfl) (Jx JA (pv 3) (Jd Ir (hr.mono (by decide)) rfl (IS (pv 0) (IS (Jm JK rfl B.len_ J9 (IS (pv 3) IT)) IT))) (λ_ _=>rfl)))
  (IZ (Jk (i:=7) Hs.nd rfl (Or.inl rfl) (Jx Ti (pv 2) (Jd Ir (hr.mono (by decide)) rfl (IS (pv 0) (IS IV IT))) (λ_ _=>rfl)))
  (IZ (Jk (i:=8) Hs.nd rfl (Or.inl rfl) (Jd Ir (hr.mono (by decide)) rfl (IS (pv 0) (IS (Jm Wp rfl B.len_ J9 (IS (pv 6) IT)) IT))))
  (IZ (Jk (i:=9) Hs.nd rfl (Or.inl rfl) (Lg Ql (Jx JA (JM (IS (Jg OT (pv 7) (pv 6)) (IS (Jg OT (pv 6) (pv 7)) (IS (Jg OT (Jg OT (Lg Ql (pv 6) Ld (Le (pv 8))) (pv 7)) (Lg Ql (pv 6) (Le (Jg JE (pv 8) IV)) Ld)) (IS (pv 7) IT))))) (pv 5) (λ_ _=>rfl)) Ld (Le IV)))
  (IZ (J0 (Jy Kc (pv 5) IV (Js _)) (Jb (Jk (i:=9) Hs.nd rfl (Or.inl rfl) (Jd Iu (hr.mono (by decide)) rfl (IS (pv 0) (IS IV IT))))) Jz)
  (Jb (J0 (Jy Rc (pv 9) (pv 3) (by with_unfolding_all rfl)) (Jb (Kv (KD AQ Bu Bv Lf (pv 3) (IS (pv 9) IT)))) Jz)))))))))
  (Jb (Jl (Jm zgO rfl B.sorted_ OE (IS (pv 3) IT))))))),?_⟩
 refine J7 ?_;intro σ5;refine⟨_,rfl,b,g,l,n,7,rfl,Bg,by omega,by decide,by decide,λx0 H1 ok0 B1 S1=>?_⟩;refine⟨Mz,λr hr'=>?_⟩;obtain⟨rb,rg,rl⟩:=B1.free hr';have nr:H r=none:=B1.back S1 r hr';have s2:=Jf hr' (.lst [V.str x0]);have e2:(IU H1 r (.lst [V.str x0])) r=some (.lst [V.str x0]):=IX;have B2:=B1.same s2;have S2:=S1.trans s2.sameB;generalize IU H1 r (.lst [V.str x0])=H2 at*;refine⟨_,rfl,_,rfl,b,g,l,_,many,rfl,B2,by omega,by omega,Ks (by omega),λc H3 c0 c1 B3 S3=>?_⟩;have e3:=S3 _ _ e2 rb rg;have S03:=S2.trans S3
 let Pv5:Nat→L2.St→Hp→Prop:=λi σ H'=>(∃y4 y5 y6 y7 y8 y9,σ=[some (.ref b),some (.int many),some (.str "abcdefghijklmnopqrstuvwxyz"),some (.ref r),y4,y5,y6,y7,y8,y9])∧SameB b g H H'∧Well H' b g l (n+13+20*i)∧∃ts:List Str,H' r=some (.lst (ts.map V.str))∧ts.Nodup∧1≤ts.length∧ts.length≤i+1∧∀t∈ts,FieldOk t
 refine⟨c,rfl,by omega,by omega,Q6 (lo:=0) (n:=c.toNat) Pv5 ?_ ?_ ?_⟩
 · exact⟨⟨none,none,none,none,none,none,rfl⟩,S03,B3.mono (by omega),[x0],e3,by simp,by simp,by simp,λt ht=>by rw[Ak.mp ht];exact ok0⟩
 · rintro i σ H4 hi ⟨⟨y4,y5,y6,y7,y8,y9,rfl⟩,S4,B4,ts,e4,nd,l1,l2,ok⟩;refine⟨_,rfl,b,g,l,_,4,rfl,B4,by omega,by decide,by decide,λpick H5 p0 p1 B5 S5=>?_⟩;have e5:=S5 _ _ e4 rb rg;refine⟨_,rfl,_,rfl,_,rfl,r,_,rfl,.inl (SqL.of e5),b,g,l,_,_,rfl,B5,by omega,by rw[Ab];omega,Ks (by rw[Ab];omega),λk H6 k0 k1 B6 S6=>?_⟩;have e6:=S6 _ _ e5 rb rg;rw[Ab] at k1;obtain⟨j,rfl⟩:∃j:Nat,k=(j:Int):=⟨k.toNat,by omega⟩;obtain⟨first,ef⟩:∃f,ts[j]?=some f:=⟨ts[j]'(by omega),AK (by omega)⟩
   have hf:JI (ts.map V.str) (j:Int)=some (V.str first):=K7 (by rw[Am,ef];rfl)
   have okf:=ok first (Av ef)
   refine⟨r,_,_,_,rfl,rfl,SqL.of e6,hf,?_⟩;refine⟨_,rfl,_,rfl,b,g,l,_,26,rfl,B6,by omega,by decide,by decide,λk H7 k0 k1 B7 S7=>?_⟩;have e7:=S7 _ _ e6 rb rg;obtain⟨c,hc,okc⟩:=SC k0 k1;refine⟨_,_,c,rfl,rfl,(by show 26≤Az;decide),hc,?_⟩;have okl:FieldOk (⟨#[c]⟩:Str):=⟨by show 1≤1;decide,by show 1≤8;decide,λc' hc'=>by
    have:c'=c:=by simpa using hc'
    rw[this];exact okc⟩
   generalize(⟨#[c]⟩:Str)=letter at*;have f1:=okf.one;have f8:=okf.eight;have g1:=okl.one;have g8:=okl.eight;have sz:(100:Nat)≤Az:=by decide
   refine⟨_,rfl,_,rfl,_,rfl,by omega,b,g,l,_,_,rfl,B7,by omega,by omega,Ks (by omega),λat' H8 a0 a1 B8 S8=>?_⟩;have e8:=S8 _ _ e7 rb rg;have S48:=S4.trans (S5.trans (S6.trans (S7.trans S8)));refine⟨_,rfl,_,rfl,_,_,rfl,rfl,by omega,_,rfl,_,rfl,_,_,rfl,rfl,by omega,_,rfl,_,rfl,_,rfl,first,rfl,by omega,λz1 a1' _ a3 _=>?_⟩
   refine⟨_,rfl,_,_,rfl,rfl,by omega,_,rfl,_,rfl,_,_,rfl,rfl,_,rfl,first,rfl,by omega,λz2 b1 _ b3 _=>?_⟩
   have la:(z1++letter).length=z1.length+letter.length:=by show(z1.cps++letter.cps).size=_;rw[Array.size_append];rfl
   refine⟨_,_,rfl,rfl,by omega,_,rfl,SB,λwl hwl=>?_⟩;have s9:=Jf hwl (.lst [V.str (letter++first),V.str (first++letter),V.str (z1++letter++z2),V.str letter])
   have e9:(IU H8 wl (.lst [V.str (letter++first),V.str (first++letter),V.str (z1++letter++z2),V.str letter])) wl=some (.lst [V.str (letter++first),V.str (first++letter),V.str (z1++letter++z2),V.str letter]):=IX
   have e8:=s9 _ _ e8;have B9:=B8.same s9;have S49:=S48.trans s9.sameB;generalize IU H8 wl (.lst [V.str (letter++first),V.str (first++letter),V.str (z1++letter++z2),V.str letter])=H9 at*
   have mem2:∀(x y:Str)(c:Nat),c∈(x++y).cps.toList→c∈x.cps.toList∨c∈y.cps.toList:=λx y c hc=>by have:c∈(x.cps++y.cps).toList:=hc;rw[Array.toList_append] at this;exact As.mp this
   have len2:∀x y:Str,(x++y).length=x.length+y.length:=λx y=>by show(x.cps++y.cps).size=_;rw[Array.size_append];rfl
   obtain⟨W,hW,w1,w100,wl'⟩:∃W:Str,JI [V.str (letter++first),V.str (first++letter),V.str (z1++letter++z2),V.str letter] pick=some (.str W)∧1≤W.length∧W.length≤100∧∀c∈W.cps.toList,Mk c=true:=by
    have:pick=0∨pick=1∨pick=2∨pick=3:=by omega
    rcases this with rfl | rfl | rfl | rfl
    · refine⟨_,rfl,by rw[len2];omega,by rw[len2];omega,λc hc=>?_⟩;rcases mem2 _ _ c hc with z | z
      · exact okl.all c z
      · exact okf.all c z
    · refine⟨_,rfl,by rw[len2];omega,by rw[len2];omega,λc hc=>?_⟩;rcases mem2 _ _ c hc with z | z
      · exact okf.all c z
      · exact okl.all c z
    · refine⟨_,rfl,by rw[len2,len2];omega,by rw[len2,len2];omega,λc hc=>?_⟩;rcases mem2 _ _ c hc with z | z
      · rcases mem2 _ _ c z with z | z
        · exact okf.all c (a3 c z)
        · exact okl.all c z
      · exact okf.all c (b3 c z)
    · exact⟨_,rfl,g1,by omega,okl.all⟩
   refine⟨_,rfl,wl,_,_,_,rfl,rfl,SqL.of e9,hW,_,rfl,W,rfl,by omega,λword v1 v2 v3 v4=>?_⟩;have okw:FieldOk word:=⟨v4 8 rfl rfl (by decide) w1,by have:=v2 8 rfl (by decide);omega,λc hc=>wl' c (v3 c hc)⟩;refine J7 ?_;intro σ6;dsimp only;refine L9 (λσ' H'=>∃word:Str,σ'=[some (.ref b),some (.int many),some (.str "abcdefghijklmnopqrstuvwxyz"),some (.ref r),some (.int (0+(i:Int))),some (.int pick),some (.str first),some (.str letter),some (.int at'),some (.str word)]∧FieldOk word∧SameB b g H H'∧Well H' b g l (n+13+20*i+17)∧H' r=some (.lst (ts.map V.str))) (λZ hZ=>?_) ?_
   · refine⟨_,rfl,rfl,_,rfl,Jw (λ_=>?_) (λ_=>?_)⟩
     · exact⟨_,rfl,b,g,l,_,8,rfl,B9,by omega,by decide,by decide,λx H10 ok10 B10 S10=>hZ _ _ ⟨x,rfl,ok10,S49.trans S10,B10.mono (by omega),S10 _ _ e8 rb rg⟩⟩
     · exact hZ _ _ ⟨word,rfl,okw,S49,B9.mono (by omega),e8⟩
   rintro σ' H10 ⟨word',rfl,okw',S10,B10,e10⟩;have fl:(ts.map V.str).all L3=true:=by rw[List.all_map];exact List.all_eq_true.mpr λx _=>rfl
   refine⟨_,rfl,_,rfl,r,_,rfl,.inl (SqL.of e10),rfl,fl,_,rfl,?_⟩;have inE:Ng (.str word') (ts.map V.str)=decide (word'∈ts):=by
    unfold Ng;rw[Ep,Cf,DN,decide_eq_true_iff];constructor
    · rintro⟨x,hx,e⟩;have:x=word':=by simpa [LH] using e
      exact this ▸ hx
    · exact λh=>⟨word',h,by simp[LH]⟩
   rw[inE];by_cases hm:word'∈ts
   · rw[decide_eq_true hm];exact IW ⟨⟨_,_,_,_,_,_,rfl⟩,S10,B10.mono (by omega),ts,e10,nd,l1,by omega,ok⟩
   · rw[decide_eq_false hm];refine IY ⟨_,rfl,.inl ⟨rfl,_,SqL.of e10⟩,_,rfl,r,_,_,rfl,rfl,e10,(by rw[Ab];exact JB (by omega)),?_⟩;refine⟨⟨_,_,_,_,_,_,rfl⟩,S10.off nr,(B10.off rb rg rl).mono (by omega),ts++[word'],by rw[IX,Aq];rfl,?_,by rw[A5];omega,by rw[A5];simp;omega,λt ht=>?_⟩
     · rw[Bf];exact⟨nd,by simp,λa ha b hb=>by rw[Ak.mp hb];exact λz=>hm (z ▸ ha)⟩
     · rcases As.mp ht with z | z
       · exact ok t z
       · rw[Ak.mp z];exact okw'
 · rintro σ H4 ⟨⟨y4,y5,y6,y7,y8,y9,rfl⟩,S4,B4,ts,e4,nd,l1,l2,ok⟩;refine⟨_,rfl,r,ts,rfl,SqL.of e4,by omega,λz ms mp mso hz=>?_⟩;have s5:=Jf hz (.lst (ms.map V.str));exact q z ms _ (B4.back S4 z hz) IX (VF mso (mp.nodup_iff.mpr nd)) (λf hf=>ok f (mp.mem_iff.mp hf)) (by rw[mp.length_eq];exact l1) (by rw[mp.length_eq];omega) ((B4.same s5).mono (by omega)) (S4.trans s5.sameB)
theorem zhr(F:Fun K "_law_base" "_law_base" QN f fd)(Ir:Γ28 P w K mg base):FnOk P w K mg base Jp 2 f fd ["well"] (TD):=by
 refine F.ok Ht (λvs H Q E h=>?_) (λcdv A outer s H vs Q E hr h=>?_)
 · obtain⟨b,g,l,n,rfl,Bg,hn,q⟩:=h;rfl
 obtain⟨b,g,l,n,rfl,Bg,hn,q⟩:=h;refine⟨_,(IZ (Jk (i:=1) Ht.nd rfl (Or.inl rfl) (Jd Ir (hr.mono (by decide)) rfl (IS (pv 0) (IS IV IT))))
  (IZ (Jk (i:=2) Ht.nd rfl (Or.inl rfl) (Jg L6 IV (Jg LM IV (Jd Ir (hr.mono (by decide)) rfl (IS (pv 0) (IS IV IT))))))
  (IZ (J0 (Jy Kc (pv 1) IV (Js _)) (Jb (Jl IV)) Jz)
  (IZ (Jk (i:=3) Ht.nd rfl (Or.inl rfl) (Jd Ir (hr.mono (by decide)) rfl (IS (pv 0) (IS IV IT))))
  (IZ (J0 (Jy Kc (pv 1) IV (Js _)) (Jb (Jk (i:=3) Ht.nd rfl (Or.inl rfl) (Jg JE (Jg LM (Jg JE (Jg LM (pv 3) IV) (Jd Ir (hr.mono (by decide)) rfl (IS (pv 0) (IS IV IT)))) IV) (Jd Ir (hr.mono (by decide)) rfl (IS (pv 0) (IS IV IT)))))) Jz)
  (Jb (Jl (Jg LM (pv 2) (Jg LL (pv 3) (Jg L6 (Jg Lb IV IV) IV)))))))))),?_⟩
 have Pl:(10:Int)^(15:Int).toNat=1000000000000000:=by decide
 refine⟨_,rfl,b,g,l,n,3,rfl,Bg,by omega,by decide,by decide,λpick H1 p0 p1 B1 S1=>?_⟩;refine⟨_,rfl,b,g,l,_,2,rfl,B1,by omega,by decide,by decide,λc H2 c0 c1 B2 S2=>?_⟩;have S02:=S1.trans S2;refine⟨_,_,rfl,rfl,.inl ⟨by decide,by decide⟩,_,_,rfl,rfl,?_⟩;refine⟨_,rfl,rfl,_,rfl,Jw (λ_=>q _ _ (by decide) (by decide) (B2.mono (by omega)) S02) (λ_=>?_)⟩;refine⟨_,rfl,b,g,l,_,100000,rfl,B2,by omega,by decide,by decide,λm H3 m0 m1 B3 S3=>?_⟩;have S03:=S02.trans S3;refine J7 ?_;intro σ7;dsimp only;refine L9 (λσ' H'=>∃m:Int,σ'=[some (.ref b),some (.int pick),some (.int (1 - 2*c)),some (.int m)]∧0≤m∧SameB b g H H'∧Well H' b g l (n+5)) (λZ hZ=>?_) ?_
 · refine⟨_,rfl,rfl,_,rfl,Jw (λ_=>?_) (λ_=>hZ _ _ ⟨m,rfl,m0,S03,B3.mono (by omega)⟩)⟩;refine⟨_,rfl,_,_,rfl,rfl,.inl ⟨by omega,by omega⟩,_,rfl,b,g,l,_,100000,rfl,B3,by omega,by decide,by decide,λm2 H4 m20 m21 B4 S4=>?_⟩;refine⟨_,_,rfl,rfl,_,_,rfl,rfl,.inl ⟨by omega,by omega⟩,_,rfl,b,g,l,_,100000,rfl,B4,by omega,by decide,by decide,λm3 H5 m30 m31 B5 S5=>?_⟩;exact⟨_,_,rfl,rfl,hZ _ _ ⟨_,rfl,by omega,S03.trans (S4.trans S5),B5.mono (by omega)⟩⟩
 rintro σ' H4 ⟨m,rfl,m0,S4,B4⟩;refine⟨_,rfl,_,rfl,_,_,rfl,rfl,Kj (by decide) (by decide),_,_,rfl,rfl,_,_,rfl,rfl,(by show(0:Int)<10^(15:Int).toNat - 1000;decide),?_⟩;dsimp only;rw[Pl];have y0:=C4 m (show(1000000000000000 - 1000:Int)≠0 by decide);have y1:=Ch m (show(0:Int)<1000000000000000 - 1000 by decide);generalize m%(1000000000000000 - 1000)=y at*;have hc:c=0∨c=1:=by omega
 refine⟨_,_,rfl,rfl,.inl ⟨by omega,by omega⟩,q _ _ ?_ ?_ B4 S4⟩
 all_goals
  rcases hc with rfl | rfl
  all_goals omega
theorem zhq(F:Fun K "_law_grid" "_law_grid" QO f fd)(Ir:Γ28 P w K mg base)(Iv:Γ31 P w K mg base):FnOk P w K mg base Jp 3 f fd ["well"] (TF):=by
 refine F.ok Hu (λvs H Q E h=>?_) (λcdv A outer s H vs Q E hr h=>?_)
 · obtain⟨b,g,l,n,rfl,Bg,hn,q⟩:=h;rfl
 obtain⟨b,g,l,n,rfl,Bg,hn,q⟩:=h;refine⟨_,(IZ (Jk (i:=1) Hu.nd rfl (Or.inl rfl) (Jd Ir (hr.mono (by decide)) rfl (IS (pv 0) (IS IV IT))))
  (IZ (Jk (i:=2) Hu.nd rfl (Or.inl rfl) IV)
  (IZ (J0 (Jy Kc (pv 1) IV (Js _)) (Jb (Jk (i:=2) Hu.nd rfl (Or.inl rfl) (Jg JE IV (Jd Ir (hr.mono (by decide)) rfl (IS (pv 0) (IS IV IT)))))) Jz)
  (IZ (J0 (Jy Kc (pv 1) IV (Js _)) (Jb (Jk (i:=2) Hu.nd rfl (Or.inl rfl) (Jg JE IV (Jg LM (Jd Ir (hr.mono (by decide)) rfl (IS (pv 0) (IS IV IT))) (Jd Ir (hr.mono (by decide)) rfl (IS (pv 0) (IS IV IT))))))) Jz)
  (Jb (Jl (JU (IS (Jm (ZS rfl) rfl B.max_ WK (IS (Jg L6 (Jg Lb IV IV) (Jg Lb IV IV)) (IS (Jm (QG rfl) rfl B.min_ PF (IS (Jg L6 (Jg Lb IV IV) (Jg Lb IV IV)) (IS (Jd Iv (hr.mono (by decide)) rfl (IS (pv 0) IT)) IT))) IT))) (IS (pv 2) IT))))))))),?_⟩
 have Pl:(10:Int)^(15:Int).toNat=1000000000000000:=by decide
 have e13:(10:Int)^(13:Int).toNat=10000000000000:=by decide
 refine⟨_,rfl,b,g,l,n,4,rfl,Bg,by omega,by decide,by decide,λpick H1 p0 p1 B1 S1=>?_⟩;refine J7 ?_;intro σ8;dsimp only;refine Zh ?_;refine L9 (λσ' H'=>∃m:Int,σ'=[some (.ref b),some (.int pick),some (.int m)]∧1≤m∧m≤10^10∧SameB b g H H'∧Well H' b g l (n+2)) (λZ hZ=>?_) ?_
 · refine⟨_,rfl,rfl,_,rfl,Jw (λ_=>?_) (λ_=>hZ _ _ ⟨1,rfl,by decide,by decide,S1,B1.mono (by omega)⟩)⟩;exact⟨_,rfl,b,g,l,_,1000,rfl,B1,by omega,by decide,by decide,λm2 H4 m20 m21 B4 S4=>⟨_,_,rfl,rfl,hZ _ _ ⟨_,rfl,by omega,by omega,S1.trans S4,B4.mono (by omega)⟩⟩⟩
 rintro σ' H2 ⟨m,rfl,m0,m1,S2,B2⟩;refine L9 (λσ' H'=>∃m:Int,σ'=[some (.ref b),some (.int pick),some (.int m)]∧1≤m∧m≤10^10∧SameB b g H H'∧Well H' b g l (n+4)) (λZ hZ=>?_) ?_
 · refine⟨_,rfl,rfl,_,rfl,Jw (λ_=>?_) (λ_=>hZ _ _ ⟨m,rfl,m0,m1,S2,B2.mono (by omega)⟩)⟩;refine⟨_,rfl,b,g,l,_,100000,rfl,B2,by omega,by decide,by decide,λm2 H4 m20 m21 B4 S4=>?_⟩;refine⟨_,rfl,b,g,l,_,100000,rfl,B4,by omega,by decide,by decide,λm3 H5 m30 m31 B5 S5=>?_⟩;have x1:m2*m3≤99999*99999:=GJ (by omega) (by omega) m30 (by decide);have x0:0≤m2*m3:=Int.mul_nonneg m20 m30;exact⟨_,_,rfl,rfl,.inl ⟨by omega,by omega⟩,_,_,rfl,rfl,hZ _ _ ⟨_,rfl,by show 1≤1+m2*m3;omega,by show 1+m2*m3≤_;omega,S2.trans (S4.trans S5),B5.mono (by omega)⟩⟩
 rintro σ' H3 ⟨m,rfl,m0,m1,S3,B3⟩;refine⟨_,_,rfl,rfl,Kj (by decide) (by decide),_,_,rfl,rfl,Kj (by decide) (by decide),_,_,rfl,rfl,_,_,rfl,rfl,Kj (by decide) (by decide),_,_,rfl,rfl,Kj (by decide) (by decide),_,_,rfl,rfl,_,rfl,b,g,l,_,rfl,B3,by omega,λx H4 x0 x1 B4 S4=>?_⟩;dsimp only;rw[Pl,e13];refine⟨_,_,rfl,_,_,rfl,_,rfl,JL,λt ht=>?_⟩;have s5:=Jf ht (.tup [V.int (if(if x<1000000000000000 - 10000000000000 then x else 1000000000000000 - 10000000000000)>10000000000000 - 1000000000000000 then(if x<1000000000000000 - 10000000000000 then x else 1000000000000000 - 10000000000000) else 10000000000000 - 1000000000000000),V.int m])
 refine q t _ m _ IX ?_ ?_ m0 m1 ((B4.same s5).mono (by omega)) ((S3.trans S4).trans s5.sameB)
 · split<;>split<;>omega
 · split<;>split<;>omega
theorem zhm(F:Fun K "_law_span" "_law_span" QQ f fd)(Ir:Γ28 P w K mg base):FnOk P w K mg base Jp 2 f fd ["well","grid","wide"] (Us):=by
 refine F.ok Hv (λvs H Q E h=>?_) (λcdv A outer s H vs Q E hr h=>?_)
 · obtain⟨b,g,l,t,n,lo,sz,wide,rfl,Bg,hn,et,s1,s2,w1,w2,q⟩:=h;rfl
 obtain⟨b,g,l,t,n,lo,sz,wide,rfl,Bg,hn,et,s1,s2,w1,w2,q⟩:=h;refine⟨_,(IZ (Jk (i:=3) Hv.nd rfl (Or.inl rfl) (Jd Ir (hr.mono (by decide)) rfl (IS (pv 0) (IS IV IT))))
  (IZ (Jk (i:=4) Hv.nd rfl (Or.inl rfl) (Jg JE (Jx KO (pv 1) IV (λ_ _=>rfl)) (Jg LM (Jx KO (pv 1) IV (λ_ _=>rfl)) (Jd Ir (hr.mono (by decide)) rfl (IS (pv 0) (IS (pv 2) IT))))))
  (IZ (Jk (i:=5) Hv.nd rfl (Or.inl rfl) (Jg L6 (Jg JE (pv 4) (Jg LM (Jx KO (pv 1) IV (λ_ _=>rfl)) (Jg JE IV (Jd Ir (hr.mono (by decide)) rfl (IS (pv 0) (IS (pv 2) IT)))))) IV))
  (IZ (J0 (Jy Kc (pv 3) IV (Js _)) (Jb (Jl (JU (IS Oy (IS Oy IT))))) Jz)
  (IZ (J0 (Jy Kc (pv 3) IV (Js _)) (Jb (Jl (JU (IS Oy (IS (pv 5) IT))))) Jz)
  (Jb (Jl (OM (Jy Kc (pv 3) IV (Js _)) (JU (IS (pv 4) (IS Oy IT))) (JU (IS (pv 4) (IS (pv 5) IT))))))))))),?_⟩
 refine⟨_,rfl,b,g,l,n,8,rfl,Bg,by omega,by decide,by decide,λpick H1 p0 p1 B1 S1=>?_⟩;have e1:=Bg.tup S1 et;refine⟨_,rfl,t,_,0,_,rfl,rfl,SqT.of e1,rfl,_,rfl,t,_,1,_,rfl,rfl,SqT.of e1,rfl,_,rfl,_,rfl,b,g,l,_,wide,rfl,B1,by omega,by omega,Ks (by omega),λx H2 x0 x1 B2 S2=>?_⟩;have e2:=B1.tup S2 e1;refine⟨_,_,rfl,rfl,.inl ⟨by omega,by omega⟩,_,_,rfl,rfl,?_⟩;refine⟨_,rfl,_,rfl,t,_,1,_,rfl,rfl,SqT.of e2,rfl,_,rfl,_,rfl,b,g,l,_,wide,rfl,B2,by omega,by omega,Ks (by omega),λy H3 y0 y1 B3 S3=>?_⟩;have S03:=S1.trans (S2.trans S3);refine⟨_,_,rfl,rfl,_,_,rfl,rfl,.inl ⟨by omega,by omega⟩,_,_,rfl,rfl,_,_,rfl,rfl,?_⟩;have hp:1≤sz*(1+y):=by have:1*1≤sz*(1+y):=GJ s1 (by omega) (by decide) (by omega);omega
 dsimp only;generalize sz*(1+y)=d at*;generalize lo+sz*x=L at*;have fin:∀(a b':Option Int),LY a b'=true→∀r,H3 r=none→Q (.ref r) (IU H3 r (.tup [eV a,eV b'])):=λa b' h r hr=>q r a b' _ IX h ((B3.same (Jf hr _)).mono (by omega)) (S03.trans (Jf hr _).sameB);refine⟨_,rfl,rfl,_,rfl,Jw (λ_=>⟨JL,fin none none rfl⟩) (λ_=>?_)⟩;refine⟨_,rfl,rfl,_,rfl,Jw (λ_=>⟨_,rfl,JL,fin none (some (L+d - 1)) rfl⟩) (λ_=>?_)⟩;refine⟨_,rfl,rfl,_,rfl,Jw (λ_=>⟨_,rfl,JL,fin (some L) none rfl⟩) (λ_=>⟨_,rfl,_,rfl,JL,fin (some L) (some (L+d - 1)) (decide_eq_true (by omega))⟩)⟩
theorem zhj(F:Fun K "_law_wish" "_law_wish" QS f fd)(Ir:Γ28 P w K mg base)(Iw:Γ33 P w K mg base):FnOk P w K mg base Jp 3 f fd ["well","names","grid","wide"] (Uu):=by
 refine F.ok Hw (λvs H Q E h=>?_) (λcdv A outer s H vs Q E hr h=>?_)
 · obtain⟨b,g,l,a,t,n,lo,sz,wide,fs,rfl,Bg,hn,FA,et,s1,s2,w1,w2,q⟩:=h;rfl
 obtain⟨b,g,l,a,t,n,lo,sz,wide,fs,rfl,Bg,hn,FA,et,s1,s2,w1,w2,q⟩:=h;refine⟨_,(IZ (Jk (i:=4) Hw.nd rfl (Or.inl rfl) (JM IT))
  (IZ (KH By rfl (JV (pv 1)) (Jn (i:=5) Hw.nd rfl (Or.inl rfl)) (Jb (J0 (Jy M0 (Jd Ir (hr.mono (by decide)) rfl (IS (pv 0) (IS IV IT))) IV (Js _)) (IZ (L7 (Jd Iw (hr.mono (by decide)) rfl (IS (pv 0) (IS (pv 2) (IS (pv 3) IT)))) (KZ rfl (J3 (Jn (i:=6) Hw.nd rfl (Or.inl rfl)) (J3 (Jn (i:=7) Hw.nd rfl (Or.inl rfl)) Ku))))
  (Jb (Kv (KD AQ Bu Bv Lf (pv 4) (IS (JU (IS (pv 5) (IS (pv 6) (IS (pv 7) IT)))) IT))))) Jz)))
  (Jb (Jl (MB Wm rfl B.tuple_ L8 (IS (pv 4) IT)))))),?_⟩
 refine⟨Kq,λr hr'=>?_⟩;obtain⟨rb,rg,rl⟩:=Bg.free hr';have s0:=Jf hr' (.lst []);have FA0:=FA.sameB s0.sameB;have rf:r≠a:=λe=>by rw[e,FA.at'] at hr';cases hr'
 let Pv6:Nat→L2.St→Hp→Prop:=λi σ H'=>(∃y5 y6 y7,σ=[some (.ref b),some (.ref a),some (.ref t),some (.int wide),some (.ref r),y5,y6,y7])∧SameB b g H H'∧Well H' b g l (n+4*i)∧NamesAt H' b g a fs∧H' t=some (.tup [.int lo,.int sz])∧∃qs:List (Addr×WP),H' r=some (.lst (qs.map λq=>V.ref q.1))∧(∀q∈qs,H' q.1=some (.tup [.str q.2.1,eV q.2.2.1,eV q.2.2.2])∧LY q.2.2.1 q.2.2.2=true)∧(qs.map (·.2.1)).Sublist (fs.take i)
 refine⟨_,rfl,a,rfl,⟨_,SqL.of FA0.at'⟩,LO (K:=K) (a:=a) (xs:=fs.map V.str) Pv6 ?_ ?_ ?_ ?_⟩
 · exact⟨⟨none,none,none,rfl⟩,s0.sameB,(Bg.same s0).mono (by omega),FA0,s0 _ _ et,[],IX,λq hq=>by simp at hq,by simp⟩
 · rintro i σ H' _ ⟨_,_,_,F1,_⟩;exact SqL.of F1.at'
 · rintro i x σ H1 hx ⟨⟨y5,y6,y7,rfl⟩,S1,B1,F1,t1,qs,e1,a1,u1⟩;rw[Am] at hx;cases ef:fs[i]? with
   | none=>rw[ef] at hx;cases hx
   | some f'=>
    rw[ef] at hx;obtain rfl:V.str f'=x:=AD hx;have li:i<6:=by have:=(Au.mp ef).1;have:=FA.len;omega
    refine⟨_,rfl,b,g,l,_,4,rfl,B1,by omega,by decide,by decide,λc H2 c0 c1 B2 S2=>?_⟩;have e2:=S2 _ _ e1 rb rg;have F2:=F1.sameB S2;have t2:=B1.tup S2 t1;have a2:∀q∈qs,H2 q.1=some (.tup [.str q.2.1,eV q.2.2.1,eV q.2.2.2])∧LY q.2.2.1 q.2.2.2=true:=λq hq=>⟨B1.tup S2 (a1 q hq).1,(a1 q hq).2⟩;have u2:(qs.map (·.2.1)).Sublist (fs.take (i+1)):=u1.trans (List.take_sublist_take_left (by omega));refine⟨_,_,rfl,rfl,_,rfl,Jw (λ_=>?_) (λ_=>?_)⟩
    · refine⟨_,rfl,_,rfl,_,rfl,b,g,l,t,_,lo,sz,wide,rfl,B2,by omega,t2,s1,s2,w1,w2,λv lo' hi' H3 sp le3 B3 S3=>?_⟩;have e3:=S3 _ _ e2 rb rg;have F3:=F2.sameB S3;have t3:=B2.tup S3 t2;have S03:=S1.trans (S2.trans S3);have a3:∀q∈qs,H3 q.1=some (.tup [.str q.2.1,eV q.2.2.1,eV q.2.2.2])∧LY q.2.2.1 q.2.2.2=true:=λq hq=>⟨B2.tup S3 (a2 q hq).1,(a2 q hq).2⟩;refine⟨v,_,rfl,SqT.of sp,rfl,_,_,rfl,_,_,rfl,rfl,?_⟩;refine⟨_,rfl,.inl ⟨rfl,_,SqL.of e3⟩,_,rfl,_,rfl,_,rfl,Nl,λt' ht=>?_⟩;have st:=Jf ht (.tup [V.str f',eV lo',eV hi']);have e4:=st _ _ e3;refine⟨r,_,_,rfl,rfl,e4,(by rw[Ab];have:=u1.length_le;simp at this;exact JB (by omega)),?_⟩;have tl:=UV (o:= .lst (qs.map (λq=>V.ref q.1)++[V.ref t'])) e4;have nr:H r=none:=hr';refine⟨⟨_,_,_,rfl⟩,(S03.trans st.sameB).off nr,((B3.same st).off rb rg rl).mono (by omega),?_,tl _ _ (st _ _ t3),qs++[(t',f',lo',hi')],?_,?_,?_⟩
      · have F4:=F3.sameB st.sameB;exact⟨by rw[Ji rf.symm];exact F4.at',F4.nb,F4.ng,F4.len,F4.ok,F4.asc⟩
      · rw[IX,Aq];rfl
      · intro q hq;rcases As.mp hq with z | z
        · exact⟨tl _ _ (st _ _ (a3 q z).1),(a3 q z).2⟩
        · rw[Ak.mp z];exact⟨tl _ _ IX,le3⟩
      · rw[Aq,KJ ef];exact u1.append (E5 _)
    · exact⟨⟨_,_,_,rfl⟩,S1.trans S2,B2.mono (by omega),F2,t2,qs,e2,a2,u2⟩
 · rintro σ H1 ⟨⟨y5,y6,y7,rfl⟩,S1,B1,F1,t1,qs,e1,a1,u1⟩;rw[show fs.take (fs.map V.str).length=fs from Bt (by simp)] at u1;have ll:qs.length≤6:=by have h1:=u1.length_le;have h2:=FA.len;rw[Ab] at h1;omega
   refine⟨_,rfl,r,_,rfl,.inl ⟨SqL.of e1,λt ht=>?_⟩⟩;have st:=Jf ht (.tup (qs.map λq=>V.ref q.1));have sub:∀q∈qs,q.2.1∈fs:=λq hq=>u1.subset (Bs (f:=λ(x:Addr×WP)=>x.2.1) hq);refine q t (qs.map (·.2)) _ ⟨qs,rfl,IX,λq hq=>st _ _ (a1 q hq).1⟩ ⟨by rw[Ab];omega,λp hp=>?_,?_⟩ (λp hp=>?_) (by rw[Ab];exact ll) ((B1.same st).mono (by rw[Ab];have:=FA.len;omega)) (S1.trans st.sameB)
   · obtain⟨q',hq',rfl⟩:=Ax.mp hp;exact⟨FA.ok _ (sub q' hq'),(a1 q' hq').2⟩
   · rw[BY];exact FA.asc.sublist u1
   · obtain⟨q',hq',rfl⟩:=Ax.mp hp;exact sub q' hq'
theorem zfx(F:Fun K "_law_wishes" "_law_wishes" Rj f fd)(Ir:Γ28 P w K mg base)(Ix:Γ34 P w K mg base):FnOk P w K mg base Jp 4 f fd ["well","names","grid","wide","many"] (VO):=by
 refine F.ok Hy (λvs H Q E h=>?_) (λcdv A outer s H vs Q E hr h=>?_)
 · obtain⟨b,g,l,a,t,n,lo,sz,wide,many,fs,rfl,Bg,hn,FA,et,s1,s2,w1,w2,m0,m1,q⟩:=h;rfl
 obtain⟨b,g,l,a,t,n,lo,sz,wide,many,fs,rfl,Bg,hn,FA,et,s1,s2,w1,w2,m0,m1,q⟩:=h;refine⟨_,(IZ (Jk (i:=5) Hy.nd rfl (Or.inl rfl) (JM IT))
  (IZ (KH By rfl (LF rfl B.range_ (IS (pv 4) IT)) (Jn (i:=6) Hy.nd rfl (Or.inl rfl)) (IZ (Jk (i:=7) Hy.nd rfl (Or.inl rfl) (Jd Ir (hr.mono (by decide)) rfl (IS (pv 0) (IS IV IT))))
  (IZ (Jk (i:=8) Hy.nd rfl (Or.inl rfl) (Jd Ix (hr.mono (by decide)) rfl (IS (pv 0) (IS (pv 1) (IS (pv 2) (IS (pv 3) IT))))))
  (IZ (J0 (PW.pt (Oz (Jy (Tr (Ml hr)) (pv 5) (JM IT) (Js _)) (O3 (Jy Nt (pv 7) IV (Js _))))) (IZ (Jk (i:=9) Hy.nd rfl (Or.inl rfl) (Jx JA (pv 5) (Jd Ir (hr.mono (by decide)) rfl (IS (pv 0) (IS (Jm JK rfl B.len_ J9 (IS (pv 5) IT)) IT))) (λ_ _=>rfl)))
  (IZ (Jk (i:=10) Hy.nd rfl (Or.inl rfl) (Jd Ir (hr.mono (by decide)) rfl (IS (pv 0) (IS (Jg JE (Jm JK rfl B.len_ J9 (IS (pv 9) IT)) IV) IT))))
  (Jb (Jk (i:=8) Hy.nd rfl (Or.inl rfl) (OM (Jy Kc (pv 7) IV (Js _)) (pv 9) (Jg PZ (Lg O7 (pv 9) Ld (Le (pv 10))) (Lg O7 (pv 9) (Le (Jg JE (pv 10) IV)) Ld))))))) Jz)
  (Jb (Kv (KD AQ Bu Bv Lf (pv 5) (IS (pv 8) IT))))))))
  (Jb (Jl (pv 5))))),?_⟩
 refine⟨Kq,λr hr'=>?_⟩;obtain⟨rb,rg,rl⟩:=Bg.free hr';have s0:=Jf hr' (.lst []);have e0:(IU H r (.lst [])) r=some (.lst []):=IX;have FA0:=FA.sameB s0.sameB;have rf:r≠a:=λe=>by rw[e,FA.at'] at hr';cases hr'
 have nr:H r=none:=hr';have B0:=Bg.same s0;have t0:=s0 _ _ et;generalize IU H r (.lst [])=H0 at*;obtain⟨N,rfl,N1⟩:∃N:Nat,many=(N:Int)∧N≤400:=⟨many.toNat,by omega,by omega⟩
 let Pv7:Nat→L2.St→Hp→Prop:=λi σ H'=>(∃y6 y7 y8 y9 y10,σ=[some (.ref b),some (.ref a),some (.ref t),some (.int wide),some (.int (N:Int)),some (.ref r),y6,y7,y8,y9,y10])∧SameB b g H H'∧Well H' b g l (n+40*i)∧NamesAt H' b g a fs∧H' t=some (.tup [.int lo,.int sz])∧∃ws:List (Addr×List WP),H' r=some (.lst (ws.map λx=>V.ref x.1))∧ws.length=i∧∀x∈ws,WishAt H' x.1 x.2∧WOk x.2∧Nh fs x.2∧x.2.length≤6
 refine⟨_,rfl,_,rfl,by omega,by omega,Q6 (lo:=0) (n:=N) Pv7 ?_ ?_ ?_⟩
 · exact⟨⟨none,none,none,none,none,rfl⟩,s0.sameB,B0.mono (by omega),FA0,t0,[],e0,rfl,λx hx=>by simp at hx⟩
 · rintro i σ H1 hi ⟨⟨y6,y7,y8,y9,y10,rfl⟩,S1,B1,F1,t1,ws,e1,lw,g1⟩;refine⟨_,rfl,b,g,l,_,6,rfl,B1,by omega,by decide,by decide,λpick H2 p0 p1 B2 S2=>?_⟩;refine⟨_,rfl,_,rfl,_,rfl,_,rfl,b,g,l,a,t,_,lo,sz,wide,fs,rfl,B2,by omega,F1.sameB S2,B1.tup S2 t1,s1,s2,w1,w2,λwr w H3 W3 ok3 in3 len3 B3 S3=>?_⟩;have S13:=S2.trans S3;have e3:=S13 _ _ e1 rb rg;have F3:=F1.sameB S13;have t3:=B2.tup S3 (B1.tup S2 t1);have g3:∀x∈ws,WishAt H3 x.1 x.2∧WOk x.2∧Nh fs x.2∧x.2.length≤6:=λx hx=>⟨((g1 x hx).1.sameW B1 S2).sameW B2 S3,(g1 x hx).2⟩;refine J7 ?_;intro σ9;dsimp only;refine L9 (λσ' H'=>∃(wr:Addr)(w:List WP)(y9 y10:Option V),σ'=[some (.ref b),some (.ref a),some (.ref t),some (.int wide),some (.int (N:Int)),some (.ref r),some (.int (0+(i:Int))),some (.int pick),some (.ref wr),y9,y10]∧WishAt H' wr w∧WOk w∧Nh fs w∧w.length≤6∧SameB b g H3 H'∧Well H' b g l (n+40*i+35)) (λZ hZ=>?_) ?_
   · refine⟨_,rfl,Kq,λep hep=>?_⟩;have s4:=Jf hep (.lst []);have e4:=s4 _ _ e3;have g4:∀x∈ws,WishAt (IU H3 ep (.lst [])) x.1 x.2∧WOk x.2∧Nh fs x.2∧x.2.length≤6:=λx hx=>⟨(g3 x hx).1.same s4,(g3 x hx).2⟩;have B4:=B3.same s4;have W4:=W3.same s4;have h4:(IU H3 ep (.lst [])) ep=some (.lst []):=IX;generalize IU H3 ep (.lst [])=H4 at*;have nope:Z [some (.ref b),some (.ref a),some (.ref t),some (.int wide),some (.int (N:Int)),some (.ref r),some (.int (0+(i:Int))),some (.int pick),some (.ref wr),y9,y10] H4:=hZ _ _ ⟨wr,w,y9,y10,rfl,W4,ok3,in3,len3,s4.sameB,B4.mono (by omega)⟩;refine⟨r,ep,_,rfl,rfl,e4,h4,_,rfl,?_⟩;by_cases hw:ws=[]
     · subst hw;exact IW (IW nope)
     · have wpos:0<ws.length:=Hc.mpr hw;have ne:(ws.map λx=>V.ref x.1).isEmpty=false:=by
        cases ws with
        | nil=>exact absurd rfl hw
        | cons x0 r0=>rfl
       rw[ne];refine IY ⟨_,rfl,_,_,rfl,rfl,_,rfl,Jw (λ_=>?_) (λ_=>nope)⟩;refine⟨_,rfl,_,rfl,_,rfl,r,_,rfl,.inl (SqL.of e4),b,g,l,_,_,rfl,B4,by omega,by rw[Ab];omega,Ks (by rw[Ab];omega),λk H5 k0 k1 B5 S5=>?_⟩;have e5:=S5 _ _ e4 rb rg;rw[Ab] at k1;obtain⟨j,rfl⟩:∃j:Nat,k=(j:Int):=⟨k.toNat,by omega⟩;obtain⟨X1,eX⟩:∃X1,ws[j]?=some X1:=⟨ws[j]'(by omega),AK (by omega)⟩;have hX:JI (ws.map λx=>V.ref x.1) (j:Int)=some (V.ref X1.1):=K7 (by rw[Am,eX];rfl);obtain⟨x1,x2,x3,x4⟩:=g4 X1 (Av eX);have x5:=x1.sameW B4 S5;refine⟨r,_,_,_,rfl,rfl,SqL.of e5,hX,?_⟩;obtain⟨xs1,ex1,lx1⟩:=x5.tyN;refine⟨_,rfl,_,rfl,X1.1,_,rfl,.inr (SqT.of ex1),_,_,rfl,rfl,b,g,l,_,_,rfl,B5,by omega,by omega,Ks (by omega),λat' H6 a0 a1 B6 S6=>?_⟩;have x6:=x5.sameW B5 S6;have S36:=s4.sameB.trans (S5.trans S6);refine⟨_,rfl,rfl,_,rfl,Jw (λ_=>⟨_,rfl,hZ _ _ ⟨X1.1,X1.2,_,_,rfl,x6,x2,x3,x4,S36,B6.mono (by omega)⟩⟩) (λ_=>?_)⟩;obtain⟨k',rfl⟩:∃k':Nat,at'=(k':Int):=⟨at'.toNat,by omega⟩;obtain⟨ps,hps,hA,hP⟩:=x6;have lps:ps.length≤6:=by rw[←hps,Ab] at x4;exact x4
       refine⟨_,rfl,_,rfl,_,rfl,X1.1,_,rfl,hA,λp1 H12 s12 e12=>?_⟩;rw[Q4 rfl,←EE] at e12;refine⟨_,rfl,_,rfl,_,_,rfl,rfl,_,rfl,X1.1,_,rfl,s12 _ _ hA,λp2 H13 s13 e13=>?_⟩;rw[V5 (n:=k'+1) (by omega),←F7] at e13;refine⟨p1,p2,_,_,rfl,rfl,s13 _ _ e12,e13,(by rw[Ab,AE,Ab,Dt];exact MN (by omega)),λr2 H14 s14 e14=>?_⟩;rw[←Aq] at e14;have tt:=s12.trans (s13.trans s14);have sub:(ps.take k'++ps.drop (k'+1)).Sublist ps:=by rw[←List.eraseIdx_eq_take_drop_succ];exact List.eraseIdx_sublist ..
       have subw:((ps.take k'++ps.drop (k'+1)).map (·.2)).Sublist X1.2:=by rw[←hps];exact sub.map _
       refine hZ _ _ ⟨r2,(ps.take k'++ps.drop (k'+1)).map (·.2),_,_,rfl,⟨_,rfl,e14,λx hx=>tt _ _ (hP x (sub.subset hx))⟩,⟨AM subw.length_le x2.len,λp hp=>x2.ok p (subw.subset hp),x2.asc.sublist (subw.map _)⟩,λp hp=>x3 p (subw.subset hp),AM subw.length_le x4,S36.trans tt.sameB,(B6.same tt).mono (by omega)⟩
   rintro σ' H5 ⟨wr,w,y9,y10,rfl,W5,ok5,in5,len5,S5,B5⟩;have e5:=S5 _ _ e3 rb rg;have F5:=F3.sameB S5;refine⟨_,rfl,.inl ⟨rfl,_,SqL.of e5⟩,_,rfl,r,_,_,rfl,rfl,e5,(by rw[Ab];exact JB (by omega)),?_⟩;have tl:=UV (o:= .lst (ws.map (λq=>V.ref q.1)++[V.ref wr])) e5;refine⟨⟨_,_,_,_,_,rfl⟩,((S1.trans S13).trans S5).off nr,(B5.off rb rg rl).mono (by omega),⟨by rw[Ji rf.symm];exact F5.at',F5.nb,F5.ng,F5.len,F5.ok,F5.asc⟩,tl _ _ (B3.tup S5 t3),ws++[(wr,w)],by rw[IX,Aq];rfl,by rw[A5,lw];rfl,λx hx=>?_⟩;rcases As.mp hx with z | z
   · exact⟨((g3 x z).1.sameW B3 S5).keep tl,(g3 x z).2⟩
   · rw[Ak.mp z];exact⟨W5.keep tl,ok5,in5,len5⟩
 · rintro σ H1 ⟨⟨y6,y7,y8,y9,y10,rfl⟩,S1,B1,F1,t1,ws,e1,lw,g1⟩;exact⟨_,rfl,q r ws _ nr ⟨e1,λx hx=>⟨(g1 x hx).1,(g1 x hx).2.1⟩,by omega⟩ (by omega) (λx hx=>(g1 x hx).2.2) (B1.mono (by omega)) S1⟩
theorem zgu(F:Fun K "_law_wants" "_law_wants" Rt f fd)  :FnOk P w K mg base Jp 1 f fd ["wish","piece"] (OC):=by
 refine F.ok Hz (λvs H Q E h=>?_) (λcdv A outer s H vs Q E hr h=>?_)
 · obtain⟨a,b,w',p,rfl,hw,hp,pok,q⟩:=h;rfl
 obtain⟨a,b,w',p,rfl,hw,hp,pok,q⟩:=h;refine⟨_,(IZ (Jk (i:=2) Hz.nd rfl (Or.inl rfl) (MB (zi7 rfl) rfl B.dict_ XE (IS (pv 1) IT)))
  (IZ (KH By rfl (Nw (pv 0)) (KZ rfl (J3 (Jn (i:=3) Hz.nd rfl (Or.inl rfl)) (J3 (Jn (i:=4) Hz.nd rfl (Or.inl rfl)) (J3 (Jn (i:=5) Hz.nd rfl (Or.inl rfl)) Ku)))) (IZ (J0 (MP (Vp (Nm hr) (pv 3) (pv 2)) (by with_unfolding_all rfl)) (Jb (Jl J_)) Jz)
  (Jb (J0 (PW.pt (KE (PW.pt (Oz (MP (U9 (pv 4))) (O3 (Jy Nt (P_ (Nm hr) (pv 2) (pv 3) (λ_ _=>rfl)) (pv 4) (Js _))))) (KI (PW.pt (Oz (MP (U9 (pv 5))) (O3 (Jy M0 (P_ (Nm hr) (pv 2) (pv 3) (λ_ _=>rfl)) (pv 5) (Js _)))))))) (Jb (Jl J_)) Jz))))
  (Jb (Jl J_)))),?_⟩
 obtain⟨ps,rfl,hA,hP⟩:=hp;have ll:ps.length≤100:=by have:=pok.len;rw[Ab] at this;exact this
 refine⟨_,rfl,b,Lj ps,rfl,?_,?_,λd hd=>?_⟩
 · unfold Lj;rw[BY];exact hA
 · intro r hr';unfold Lj at hr';obtain⟨P1,hm,rfl⟩:=Ax.mp hr';exact hP P1 hm
 have s1:=Jf hd (.dK ((Lj ps).foldl (λacc p=>Jv acc p.2.1 p.2.2) []));have h1:(IU H d (.dK ((Lj ps).foldl (λacc p=>Jv acc p.2.1 p.2.2) []))) d=some (.dK ((Lj ps).foldl (λacc p=>Jv acc p.2.1 p.2.2) [])):=IX;have h3:∀f:Str,Ju ((Lj ps).foldl (λacc p=>Jv acc p.2.1 p.2.2) []) (.inr f:Jq)=(K0 (ps.map (·.2)) f).map V.int:=zhH ps pok;generalize(Lj ps).foldl (λacc p=>Jv acc p.2.1 p.2.2) []=kvs at*;generalize IU H d (.dK kvs)=H1 at*;obtain⟨ws,rfl,hB,hW⟩:=hw.same s1
 let Pv8:Nat→L2.St→Hp→Prop:=λi σ H'=>(∃y3 y4 y5,σ=[some (.ref a),some (.ref b),some (.ref d),y3,y4,y5])∧Same H1 H'∧Kg ((ws.map (·.2)).take i) (ps.map (·.2))=true
 refine⟨_,rfl,a,rfl,⟨_,SqT.of hB⟩,Ui (K:=K) (a:=a) (xs:=ws.map λp=>V.ref p.1) Pv8 ⟨⟨none,none,none,rfl⟩,Same.refl _,rfl⟩ (λi σ H' _ ⟨_,s,_⟩=>s.seqT (SqT.of hB)) ?_ ?_⟩
 · rintro i x σ H' hx ⟨⟨y2,y3,y4,rfl⟩,s,hr'⟩;obtain⟨P1,e1,rfl⟩:=JR hx;have hm:=Av e1;have ew:(ws.map (·.2))[i]?=some P1.2:=by rw[Am,e1];rfl
   have k1:=s _ _ h1;have kf:=h3 P1.2.1;refine⟨P1.1,_,rfl,SqT.of (s _ _ (hW P1 hm)),rfl,_,_,rfl,_,_,rfl,_,_,rfl,rfl,?_⟩;have out:Mg (ps.map (·.2)) P1.2=false→Kg (ws.map (·.2)) (ps.map (·.2))=false:=λh=>Wf (Bs hm) h;refine⟨_,rfl,_,rfl,d,_,rfl,DGet.k (k:=Sum.inr P1.2.1) k1,_,rfl,?_⟩;cases hs:K0 (ps.map (·.2)) P1.2.1 with
   | none=> rw[hs] at kf;rw[kf];refine IY ?_;have o1:=out (Wy hs);rw[o1] at q;exact q _ (s1.trans s)
   | some n=>
    rw[hs] at kf;rw[kf];refine IW ?_;have gd:DGet H' d (.str P1.2.1) (some (.int n)):=by have:=DGet.k (k:=Sum.inr P1.2.1) k1;rw[kf] at this;exact this
    have tp:=Rv hs;have bad:JY P1.2.2.1 P1.2.2.2 n=false→Q (.bl false) H':=λhb=>by have o1:=out (tp.trans hb);rw[o1] at q;exact q _ (s1.trans s)
    have good:JY P1.2.2.1 P1.2.2.2 n=true→Kg ((ws.map (·.2)).take (i+1)) (ps.map (·.2))=true:=λhb=>by rw[KJ ew];unfold Kg at*;rw[List.all_append,hr',F8,CW,List.all_nil,tp,hb];rfl
    obtain⟨pa,f',lo,hi⟩:=P1;dsimp only at gd bad good;have low:∀l,lo=some l→n<l→JY lo hi n=false:=λl e h=>by subst e;unfold JY;rw[show Mp (some l) n=false from decide_eq_false (by omega)];rfl
    have high:∀h',hi=some h'→h'<n→JY lo hi n=false:=λh' e h=>by subst e;unfold JY;rw[show Mq (some h') n=false from decide_eq_false (by omega),DD]
    cases lo with
    | none=>
     refine⟨_,rfl,_,rfl,IW (IW ?_)⟩;cases hi with
     | none=>exact⟨_,rfl,_,rfl,IW (IW ⟨⟨_,_,_,rfl⟩,s,good rfl⟩)⟩
     | some h'=>
      refine⟨_,rfl,_,rfl,IY ⟨_,rfl,_,rfl,d,_,rfl,gd,_,rfl,_,_,rfl,rfl,_,rfl,Jw (λh=>?_) (λh=>?_)⟩⟩
      · exact bad (high h' rfl (of_decide_eq_true h))
      · refine⟨⟨_,_,_,rfl⟩,s,good ?_⟩;have:¬n>h':=λz=>h (decide_eq_true z);simp[JY,Mp,Mq];omega
    | some l'=>
     refine⟨_,rfl,_,rfl,IY ⟨_,rfl,_,rfl,d,_,rfl,gd,_,rfl,_,_,rfl,rfl,_,rfl,Jw (λh=>?_) (λh=>?_)⟩⟩
     · exact IY (bad (low l' rfl (of_decide_eq_true h)))
     · have hl':¬n<l':=λz=>h (decide_eq_true z);cases hi with
       | none=> refine⟨_,rfl,_,rfl,IW (IW ⟨⟨_,_,_,rfl⟩,s,good ?_⟩)⟩;simp[JY,Mp,Mq];omega
       | some h'=>
        refine⟨_,rfl,_,rfl,IY ⟨_,rfl,_,rfl,d,_,rfl,gd,_,rfl,_,_,rfl,rfl,_,rfl,Jw (λh=>?_) (λh=>?_)⟩⟩
        · exact bad (high h' rfl (of_decide_eq_true h))
        · refine⟨⟨_,_,_,rfl⟩,s,good ?_⟩;have:¬n>h':=λz=>h (decide_eq_true z);simp[JY,Mp,Mq];omega
 · rintro σ H' ⟨_,s,hr'⟩;rw[show(ws.map (·.2)).take (ws.map λp=>V.ref p.1).length=ws.map (·.2) from Bt (by simp)] at hr';rw[hr'] at q;exact q _ (s1.trans s)
theorem zgv(F:Fun K "_law_alike" "_law_alike" OQ f fd)  (M_self:mg "_law_alike"=some (.ref f)):FnOk P w K mg base Jp 11 f fd ["found","due"] (PN 9 Qm):=by
 have b_self:=F.binds (ps:=["found","due"]) λ_ _ _ _ _ _=>lS λ_=>lS λ_=>l0 rfl
 refine YE (L:=0) (D:=9) (Tw F Wt b_self M_self 0 (Qm) λn sp0 hsp Iy=>?_);refine F.ok Wt (λvs H Q E h=>?_) (λcdv A outer s H vs Q E hr h=>?_)
 · obtain⟨v,v',d,rfl,n9,h1,h2,⟨hn,hd⟩,q⟩:=h;rfl
 obtain⟨v,v',d,rfl,n9,h1,h2,⟨hn,hd⟩,q⟩:=h;refine⟨_,(IZ (J0 (JQ (Jm Wo rfl B.isinstance_ JT (IS (pv 1) (IS (JU (IS (JO (v:= .ty "list") rfl B.list_ KN rfl) (IS (JO (v:= .ty "tuple") rfl B.tuple_ L8 rfl) IT))) IT)))) (IZ (J0 (PW.pt (KE (Ka (JQ (Jm Wo rfl B.isinstance_ JT (IS (pv 0) (IS (JU (IS (JO (v:= .ty "list") rfl B.list_ KN rfl) (IS (JO (v:= .ty "tuple") rfl B.tuple_ L8 rfl) IT))) IT))))) (KI (Jy LI (Jm (Kd (n:="")) rfl B.isinstance_ JT (IS (pv 0) (IS (JO (v:= .ty "list") rfl B.list_ KN rfl) IT))) (Jm (Kd (n:="")) rfl B.isinstance_ JT (IS (pv 1) (IS (JO (v:= .ty "list") rfl B.list_ KN rfl) IT))) (Js _))))) (Jb (Jl J_)) Jz)
  (Jb (Jl (K3 (LB Kc (Jm JK rfl B.len_ J9 (IS (pv 0) IT)) (Jm JK rfl B.len_ J9 (IS (pv 1) IT)) (Js _)) (Kp (Jm (Mi rfl) rfl B.all_ Mf (IS (K6 (N':=["k","found","due"]) (js:=[none,some 0,some 1]) rfl (JN (N:=["found","due"]) (outer:=Jh OQ) (by decide+kernel)) (LF rfl B.range_ (IS (Jm JK rfl B.len_ J9 (IS (pv 1) IT)) IT)) (λ_ _ _ _ _=>(Jn (i:=0) Og rfl (Or.inl rfl))) (λ_ _ _ _ _=>Ke) (λ_ _ _ _ _=>(Jd Iy (hr.mono (by omega)) rfl (IS (Jx (TR K rfl) (pv 1) (pv 0) (λ_ _=>rfl)) (IS (Jx (TR K rfl) (pv 2) (pv 0) (λ_ _=>rfl)) IT))))) IT))))))) Jz)
  (IZ (J0 (PW.pt (KE (MP (LN (pv 1))) (KI (MP (LN (pv 0)))))) (Jb (Jl (K3 (M3 (LN (pv 1))) (Kp (M3 (LN (pv 0))))))) Jz)
  (IZ (J0 (PW.pt (KE (Jy LI (Jm (Kd (n:="")) rfl B.isinstance_ JT (IS (pv 1) (IS (JO (v:= .ty "bool") rfl B.bool_ Qg rfl) IT))) (Jm (Kd (n:="")) rfl B.isinstance_ JT (IS (pv 0) (IS (JO (v:= .ty "bool") rfl B.bool_ Qg rfl) IT))) (Js _)) (KI (Jy LI (Jm (Kd (n:="")) rfl B.isinstance_ JT (IS (pv 1) (IS (JO (v:= .ty "int") rfl B.int_ PB rfl) IT))) (Jm (Kd (n:="")) rfl B.isinstance_ JT (IS (pv 0) (IS (JO (v:= .ty "int") rfl B.int_ PB rfl) IT))) (Js _))))) (Jb (Jl J_)) Jz)
  (Jb (Jl (K3 (LB Kc (Jm (Kd (n:="")) rfl B.isinstance_ JT (IS (pv 0) (IS (JO (v:= .ty "str") rfl B.str_ PH rfl) IT))) (Jm (Kd (n:="")) rfl B.isinstance_ JT (IS (pv 1) (IS (JO (v:= .ty "str") rfl B.str_ PH rfl) IT))) (Js _)) (Kp (LB Kc (pv 0) (pv 1) (Js _))))))))),?_⟩
 cases d with
 | non=> rw[RepY] at h1 h2;subst h1 h2;refine⟨_,rfl,JL,λt1 ht1=>?_⟩;have s1:=Jf ht1 (.tup [V.ty "list",V.ty "tuple"]);have c1:(IU H t1 (.tup [V.ty "list",V.ty "tuple"])) t1=some (.tup [V.ty "list",V.ty "tuple"]):=IX;generalize IU H t1 (.tup [V.ty "list",V.ty "tuple"])=H1 at*;refine⟨_,"NoneType",t1,_,false,rfl,.non,c1,rfl,rfl,_,rfl,IW ?_⟩;exact⟨_,rfl,_,rfl,IY (IY ⟨_,rfl,_,rfl,IY ⟨_,rfl,q H1 s1⟩⟩)⟩
 | bl x=> rw[RepY] at h1 h2;subst h1 h2;refine⟨_,rfl,JL,λt1 ht1=>?_⟩;have s1:=Jf ht1 (.tup [V.ty "list",V.ty "tuple"]);have c1:(IU H t1 (.tup [V.ty "list",V.ty "tuple"])) t1=some (.tup [V.ty "list",V.ty "tuple"]):=IX;generalize IU H t1 (.tup [V.ty "list",V.ty "tuple"])=H1 at*;refine⟨_,"bool",t1,_,false,rfl,.bl x,c1,rfl,rfl,_,rfl,IW ?_⟩;refine⟨_,rfl,_,rfl,IW ⟨_,rfl,_,rfl,IW ?_⟩⟩;refine⟨_,rfl,_,"bool","bool",true,rfl,.bl x,rfl,_,rfl,_,"bool","bool",true,rfl,.bl x,rfl,rfl,_,rfl,IW ?_⟩;refine⟨_,rfl,_,"bool","int",true,rfl,.bl x,rfl,_,rfl,_,"bool","int",true,rfl,.bl x,rfl,rfl,_,rfl,IW ?_⟩;refine⟨_,rfl,_,"bool","str",false,rfl,.bl x,rfl,_,rfl,_,"bool","str",false,rfl,.bl x,rfl,rfl,_,rfl,IY ?_⟩;have e:decide (V.bl x=V.bl x)=true:=decide_eq_true rfl;exact⟨_,rfl,_,rfl,rfl,by rw[e];exact q H1 s1⟩
 | int x=> rw[RepY] at h1 h2;subst h1 h2;refine⟨_,rfl,JL,λt1 ht1=>?_⟩;have s1:=Jf ht1 (.tup [V.ty "list",V.ty "tuple"]);have c1:(IU H t1 (.tup [V.ty "list",V.ty "tuple"])) t1=some (.tup [V.ty "list",V.ty "tuple"]):=IX;generalize IU H t1 (.tup [V.ty "list",V.ty "tuple"])=H1 at*;refine⟨_,"int",t1,_,false,rfl,.int x,c1,rfl,rfl,_,rfl,IW ?_⟩;refine⟨_,rfl,_,rfl,IW ⟨_,rfl,_,rfl,IW ?_⟩⟩;refine⟨_,rfl,_,"int","bool",false,rfl,.int x,rfl,_,rfl,_,"int","bool",false,rfl,.int x,rfl,rfl,_,rfl,IW ?_⟩;refine⟨_,rfl,_,"int","int",true,rfl,.int x,rfl,_,rfl,_,"int","int",true,rfl,.int x,rfl,rfl,_,rfl,IW ?_⟩;refine⟨_,rfl,_,"int","str",false,rfl,.int x,rfl,_,rfl,_,"int","str",false,rfl,.int x,rfl,rfl,_,rfl,IY ?_⟩;have e:decide (V.int x=V.int x)=true:=decide_eq_true rfl;exact⟨_,rfl,_,rfl,rfl,by rw[e];exact q H1 s1⟩
 | str x=> rw[RepY] at h1 h2;obtain⟨rfl,hx⟩:=h1;obtain⟨rfl,_⟩:=h2;refine⟨_,rfl,JL,λt1 ht1=>?_⟩;have s1:=Jf ht1 (.tup [V.ty "list",V.ty "tuple"]);have c1:(IU H t1 (.tup [V.ty "list",V.ty "tuple"])) t1=some (.tup [V.ty "list",V.ty "tuple"]):=IX;generalize IU H t1 (.tup [V.ty "list",V.ty "tuple"])=H1 at*;refine⟨_,"str",t1,_,false,rfl,.str x,c1,rfl,rfl,_,rfl,IW ?_⟩;refine⟨_,rfl,_,rfl,IW ⟨_,rfl,_,rfl,IW ?_⟩⟩;refine⟨_,rfl,_,"str","bool",false,rfl,.str x,rfl,_,rfl,_,"str","bool",false,rfl,.str x,rfl,rfl,_,rfl,IW ?_⟩;refine⟨_,rfl,_,"str","int",false,rfl,.str x,rfl,_,rfl,_,"str","int",false,rfl,.str x,rfl,rfl,_,rfl,IW ?_⟩;refine⟨_,rfl,_,"str","str",true,rfl,.str x,rfl,_,rfl,_,"str","str",true,rfl,.str x,rfl,rfl,_,rfl,IY ?_⟩;have e:decide (V.str x=V.str x)=true:=decide_eq_true rfl;exact⟨_,rfl,_,rfl,rfl,by rw[e];exact q H1 s1⟩
 | dic=>rw[JX] at hd;cases hd
 | da d=>rw[JX] at hd;cases hd
 | lst ds=>
  rw[RepY] at h1 h2;obtain⟨a,xs,rfl,ha,h9,hx⟩:=h1;obtain⟨a',xs',rfl,ha',_,hx'⟩:=h2;obtain⟨m,rfl⟩:∃m,n=m+1:=⟨n - 1,by rw[J6] at hn;omega⟩;have e0:=hsp m rfl;subst e0;rw[J6] at hn;rw[JX] at hd;have hl:=hx.length;have hl':=hx'.length;refine⟨_,rfl,JL,λt1 ht1=>?_⟩;have s1:=Jf ht1 (.tup [V.ty "list",V.ty "tuple"]);have c1:(IU H t1 (.tup [V.ty "list",V.ty "tuple"])) t1=some (.tup [V.ty "list",V.ty "tuple"]):=IX;generalize IU H t1 (.tup [V.ty "list",V.ty "tuple"])=H1 at*;refine⟨_,"list",t1,_,true,rfl,.lst (s1 _ _ ha'),c1,rfl,rfl,_,rfl,IY ⟨_,rfl,JL,λt2 ht2=>?_⟩⟩;have s2:=Jf ht2 (.tup [V.ty "list",V.ty "tuple"]);have c2:(IU H1 t2 (.tup [V.ty "list",V.ty "tuple"])) t2=some (.tup [V.ty "list",V.ty "tuple"]):=IX;generalize IU H1 t2 (.tup [V.ty "list",V.ty "tuple"])=H2 at*;have S:=s1.trans s2;have ka:=S _ _ ha;have ka':=S _ _ ha';refine⟨_,"list",t2,_,true,rfl,.lst ka,c2,rfl,rfl,_,rfl,IW ⟨_,rfl,_,"list","list",true,rfl,.lst ka,rfl,_,rfl,_,"list","list",true,rfl,.lst ka',rfl,rfl,_,rfl,IW ?_⟩⟩;refine⟨_,rfl,a,_,rfl,.inl (SqL.of ka),_,rfl,a',_,rfl,.inl (SqL.of ka'),rfl,_,rfl,?_⟩;rw[decide_eq_true (show V.int ((xs.length:Nat):Int)=V.int ((xs'.length:Nat):Int) by rw[hl,hl'])];refine IY ⟨_,rfl,a',_,rfl,.inl (SqL.of ka'),_,rfl,by omega,by omega,λp hp=>?_⟩;have s3:=Jf hp (.lst []);refine Mj (n:=((xs'.length:Nat):Int).toNat) (λi σ' ys H'=>(∃v,σ'=[v,some (.ref a),some (.ref a')])∧Same H2 H'∧H' p=some (.lst ys)∧ys=(AR i true).map V.bl) ⟨⟨none,rfl⟩,s3,IX,rfl⟩ ?_ ?_ ?_
  · rintro i σ' ys H' hi ⟨_,_,h1,h2⟩;exact⟨h1,by rw[h2,Ab,BK];exact JB (by omega)⟩
  · rintro i σ' ys H4 N hi ⟨⟨v,rfl⟩,s4,h1,h2⟩ hN;have hi2:i<xs'.length:=by omega
    obtain⟨x,ex⟩:∃x,xs[i]?=some x:=⟨xs[i]'(by omega),by simp[hl,hl',hi2]⟩;obtain⟨x',ex'⟩:∃x,xs'[i]?=some x:=⟨xs'[i],by simp[hi2]⟩;obtain⟨d,ed,rd⟩:=hx.get ex;obtain⟨d',ed',rd'⟩:=hx'.get ex';rw[ed] at ed';injection ed' with ed';subst ed';have e0:(0:Int)+(i:Int)=(i:Int):=by omega
    have at1:JI xs (0+(i:Int))=some x:=by rw[e0];exact K7 ex
    have at2:JI xs' (0+(i:Int))=some x':=by rw[e0];exact K7 ex'
    have S4:=S.trans s4;refine⟨_,rfl,_,rfl,a,xs,_,x,rfl,rfl,.inl (SqL.of (S4 _ _ ha)),at1,_,rfl,_,rfl,a',xs',_,x',rfl,rfl,.inl (SqL.of (S4 _ _ ha')),at2,x,x',d,rfl,by omega,RepY.same S4 d rd,RepY.same S4 d rd',⟨by have:=QX (Av ed);omega,Q3 hd ed⟩,λH5 s5=>⟨s5 _ _ h1,hN _ _ _ ⟨⟨_,rfl⟩,?_,IX,?_⟩⟩⟩
    · intro b o q;have:b≠p:=λz=>by rw[z,hp] at q;cases q
      rw[Ji this];exact s5 _ _ (s4 b o q)
    · rw[h2,Ci,Aq];rfl
  · rintro σ' ys H4 ⟨_,s4,h1,h2⟩;refine⟨p,_,rfl,SqL.of (by rw[h1,h2]),?_⟩;have e:(AR ((xs'.length:Nat):Int).toNat true).all id=true:=by simp
    rw[e];exact q H4 (S.trans s4)
 | tup ds=>
  rw[RepY] at h1 h2;obtain⟨a,xs,rfl,ha,h9,hx⟩:=h1;obtain⟨a',xs',rfl,ha',_,hx'⟩:=h2;obtain⟨m,rfl⟩:∃m,n=m+1:=⟨n - 1,by rw[J6] at hn;omega⟩;have e0:=hsp m rfl;subst e0;rw[J6] at hn;rw[JX] at hd;have hl:=hx.length;have hl':=hx'.length;refine⟨_,rfl,JL,λt1 ht1=>?_⟩;have s1:=Jf ht1 (.tup [V.ty "list",V.ty "tuple"]);have c1:(IU H t1 (.tup [V.ty "list",V.ty "tuple"])) t1=some (.tup [V.ty "list",V.ty "tuple"]):=IX;generalize IU H t1 (.tup [V.ty "list",V.ty "tuple"])=H1 at*;refine⟨_,"tuple",t1,_,true,rfl,.tup (s1 _ _ ha'),c1,rfl,rfl,_,rfl,IY ⟨_,rfl,JL,λt2 ht2=>?_⟩⟩;have s2:=Jf ht2 (.tup [V.ty "list",V.ty "tuple"]);have c2:(IU H1 t2 (.tup [V.ty "list",V.ty "tuple"])) t2=some (.tup [V.ty "list",V.ty "tuple"]):=IX;generalize IU H1 t2 (.tup [V.ty "list",V.ty "tuple"])=H2 at*;have S:=s1.trans s2;have ka:=S _ _ ha;have ka':=S _ _ ha';refine⟨_,"tuple",t2,_,true,rfl,.tup ka,c2,rfl,rfl,_,rfl,IW ⟨_,rfl,_,"tuple","list",false,rfl,.tup ka,rfl,_,rfl,_,"tuple","list",false,rfl,.tup ka',rfl,rfl,_,rfl,IW ?_⟩⟩;refine⟨_,rfl,a,_,rfl,.inr (SqT.of ka),_,rfl,a',_,rfl,.inr (SqT.of ka'),rfl,_,rfl,?_⟩;rw[decide_eq_true (show V.int ((xs.length:Nat):Int)=V.int ((xs'.length:Nat):Int) by rw[hl,hl'])];refine IY ⟨_,rfl,a',_,rfl,.inr (SqT.of ka'),_,rfl,by omega,by omega,λp hp=>?_⟩;have s3:=Jf hp (.lst []);refine Mj (n:=((xs'.length:Nat):Int).toNat) (λi σ' ys H'=>(∃v,σ'=[v,some (.ref a),some (.ref a')])∧Same H2 H'∧H' p=some (.lst ys)∧ys=(AR i true).map V.bl) ⟨⟨none,rfl⟩,s3,IX,rfl⟩ ?_ ?_ ?_
  · rintro i σ' ys H' hi ⟨_,_,h1,h2⟩;exact⟨h1,by rw[h2,Ab,BK];exact JB (by omega)⟩
  · rintro i σ' ys H4 N hi ⟨⟨v,rfl⟩,s4,h1,h2⟩ hN;have hi2:i<xs'.length:=by omega
    obtain⟨x,ex⟩:∃x,xs[i]?=some x:=⟨xs[i]'(by omega),by simp[hl,hl',hi2]⟩;obtain⟨x',ex'⟩:∃x,xs'[i]?=some x:=⟨xs'[i],by simp[hi2]⟩;obtain⟨d,ed,rd⟩:=hx.get ex;obtain⟨d',ed',rd'⟩:=hx'.get ex';rw[ed] at ed';injection ed' with ed';subst ed';have e0:(0:Int)+(i:Int)=(i:Int):=by omega
    have at1:JI xs (0+(i:Int))=some x:=by rw[e0];exact K7 ex
    have at2:JI xs' (0+(i:Int))=some x':=by rw[e0];exact K7 ex'
    have S4:=S.trans s4;refine⟨_,rfl,_,rfl,a,xs,_,x,rfl,rfl,.inr (SqT.of (S4 _ _ ha)),at1,_,rfl,_,rfl,a',xs',_,x',rfl,rfl,.inr (SqT.of (S4 _ _ ha')),at2,x,x',d,rfl,by omega,RepY.same S4 d rd,RepY.same S4 d rd',⟨by have:=QX (Av ed);omega,Q3 hd ed⟩,λH5 s5=>⟨s5 _ _ h1,hN _ _ _ ⟨⟨_,rfl⟩,?_,IX,?_⟩⟩⟩
    · intro b o q;have:b≠p:=λz=>by rw[z,hp] at q;cases q
      rw[Ji this];exact s5 _ _ (s4 b o q)
    · rw[h2,Ci,Aq];rfl
  · rintro σ' ys H4 ⟨_,s4,h1,h2⟩;refine⟨p,_,rfl,SqL.of (by rw[h1,h2]),?_⟩;have e:(AR ((xs'.length:Nat):Int).toNat true).all id=true:=by simp
    rw[e];exact q H4 (S.trans s4)
theorem zhn(F:Fun K "_law_pool" "_law_pool" QP f fd)(Iz:Γ35 P w K mg base):FnOk P w K mg base Jp 5 f fd ["well","names","grid","wide","many"] (TK):=by
 refine F.ok HA (λvs H Q E h=>?_) (λcdv A outer s H vs Q E hr h=>?_)
 · obtain⟨b,g,l,a,t,n,lo,sz,wide,many,fs,rfl,Bg,hn,hN,ht,z1,z2,w1,w2,m0,m1,q⟩:=h;rfl
 obtain⟨b,g,l,a,t,n,lo,sz,wide,many,fs,rfl,Bg,hn,hN,ht,z1,z2,w1,w2,m0,m1,q⟩:=h;refine⟨_,(IZ (Jk (i:=5) HA.nd rfl (Or.inl rfl) (JM IT))
  (IZ (KH By rfl (JV (Jd Iz (hr.mono (by decide)) rfl (IS (pv 0) (IS (pv 1) (IS (pv 2) (IS (pv 3) (IS (pv 4) IT))))))) (Jn (i:=6) HA.nd rfl (Or.inl rfl)) (Jb (J0 (Jy (zj1 (Ml hr)) (pv 6) (pv 5) (by with_unfolding_all rfl)) (Jb (Kv (KD AQ Bu Bv Lf (pv 5) (IS (pv 6) IT)))) Jz)))
  (Jb (Jl (pv 5))))),?_⟩
 refine⟨Kq,λr hr'=>?_⟩;obtain⟨rb,rg,rl⟩:=Bg.free hr';have s0:=Jf hr' (.lst []);have e0:(IU H r (.lst [])) r=some (.lst []):=IX;have FA0:=hN.sameB s0.sameB;have nr:H r=none:=hr';have B0:=Bg.same s0;have t0:=s0 _ _ ht;have S0:SameB b g H (IU H r (.lst [])):=s0.sameB;generalize IU H r (.lst [])=H0 at*;refine⟨_,rfl,_,rfl,_,rfl,_,rfl,_,rfl,b,g,l,a,t,n,lo,sz,wide,many,fs,rfl,B0,by omega,FA0,t0,z1,z2,w1,w2,m0,by omega,λc ws H1 hc hw lw al B1 S1=>?_⟩;have cr:c≠r:=λe=>by rw[e,e0] at hc;cases hc
 have e1:=S1 _ _ e0 rb rg
 let Pv9:Nat→L2.St→Hp→Prop:=λi σ H'=>(∃y,σ=[some (.ref b),some (.ref a),some (.ref t),some (.int wide),some (.int many),some (.ref r),y])∧SameB b g H H'∧Well H' b g l (n+40*many)∧H' c=some (.lst (ws.map λx=>V.ref x.1))∧(∀x∈ws,WishAt H' x.1 x.2)∧∃ks:List (Addr×List WP),H' r=some (.lst (ks.map λx=>V.ref x.1))∧(∀k∈ks,k∈ws)∧(ks.map (·.2)).Nodup∧ks.length≤i
 refine⟨c,rfl,⟨_,SqL.of hw.at'⟩,LO (K:=K) (a:=c) (xs:=ws.map λx=>V.ref x.1) Pv9 ?_ ?_ ?_ ?_⟩
 · exact⟨⟨none,rfl⟩,S0.trans S1,B1.mono (by omega),hw.at',λx hx=>(hw.ok x hx).1,[],e1,λk hk=>(by simp at hk),Fe,Af _⟩
 · rintro i σ H' hi ⟨_,_,_,h,_⟩;exact SqL.of h
 · rintro i x σ H' hx ⟨⟨y,rfl⟩,S2,B2,c2,g2,ks,e2,sub,nd,le⟩;rw[Am] at hx;cases ew:ws[i]? with
   | none=>rw[ew] at hx;cases hx
   | some X1=>
    rw[ew] at hx;cases hx;have mX:=Av ew;have x1:=g2 X1 mX;refine J7 ?_;intro σ10;refine⟨_,rfl,_,rfl,r,ks.map λk=>(k.1,dW k.2),dW X1.2,rfl,SqL.of (by rw[BY];exact e2),λp hp=>?_,SM x1,?_⟩
    · obtain⟨k,hk,rfl⟩:=Ax.mp hp;exact⟨SM (g2 k (sub k hk)),AM (XH _) (by decide)⟩
    · have ea:((ks.map λk=>(k.1,dW k.2)).any λp=>Jo p.2 (dW X1.2))=ks.any λk=>decide (k.2=X1.2):=by
       rw[Ep];exact congrArg (λf=>ks.any f) (funext λk=>XZ k.2 X1.2)
      rw[ea];cases cc:ks.any λk=>decide (k.2=X1.2) with
      | true=>exact⟨_,rfl,IW ⟨⟨_,rfl⟩,S2,B2,c2,g2,ks,e2,sub,nd,by omega⟩⟩
      | false=>
       have hwl:=hw.len;have hil:i<ws.length:=(Au.mp ew).1;refine⟨_,rfl,IY ⟨_,rfl,.inl ⟨rfl,_,SqL.of e2⟩,_,rfl,r,_,_,rfl,rfl,e2,?_,?_⟩⟩
       · rw[Ab];exact JB (by omega)
       · have tu:JS H' (IU H' r (.lst ((ks.map λx=>V.ref x.1)++[V.ref X1.1]))):=λx xs e=>by
          rw[Ji (λq=>by rw[q,e2] at e;cases e)];exact e
         refine⟨⟨_,rfl⟩,S2.off nr,B2.off rb rg rl,by rw[Ji cr];exact c2,λx hx=>(g2 x hx).keep tu,ks++[X1],by rw[IX,Aq];rfl,λk hk=>?_,?_,by simp;omega⟩
         · rcases As.mp hk with z | z
           · exact sub k z
           · rw[Ak.mp z];exact mX
         · rw[Aq,Bf];refine⟨nd,by simp,λu hu v hv=>?_⟩;obtain⟨k,hk,rfl⟩:=Ax.mp hu;have ev:v=X1.2:=by simpa using hv
           subst ev;intro z;have:=List.any_eq_false.mp cc k hk;exact this (decide_eq_true z)
 · rintro σ H' ⟨⟨y,rfl⟩,S2,B2,c2,g2,ks,e2,sub,nd,le⟩;rw[Ab] at le;have hwl:=hw.len;exact⟨_,rfl,q r ks H' nr ⟨e2,λx hx=>⟨g2 x (sub x hx),(hw.ok x (sub x hx)).2⟩,by omega⟩ (by omega) nd B2 S2⟩
theorem zfB(F:Fun K "_law_picked" "_law_picked" Pd f fd)(Ir:Γ28 P w K mg base):FnOk P w K mg base Jp 2 f fd ["well","row"] (Vg):=by
 refine F.ok HB (λvs H Q E h=>?_) (λcdv A outer s H vs Q E hr h=>?_)
 · obtain⟨b,g,l,a,n,xs,rfl,Bg,hn,ha,ab,ag,lx,q⟩:=h;rfl
 obtain⟨b,g,l,a,n,xs,rfl,Bg,hn,ha,ab,ag,lx,q⟩:=h;refine⟨_,(IZ (Jk (i:=2) HB.nd rfl (Or.inr rfl) (MB Pa rfl B.list_ KN (IS (pv 1) IT)))
  (IZ (Jk (i:=3) HB.nd rfl (Or.inl rfl) (Jd Ir (hr.mono (by decide)) rfl (IS (pv 0) (IS IV IT))))
  (IZ (J0 (Jy Kc (Jd Ir (hr.mono (by decide)) rfl (IS (pv 0) (IS IV IT))) IV (Js _)) (Jb (Jk (i:=3) HB.nd rfl (Or.inl rfl) (Jm JK rfl B.len_ J9 (IS (pv 2) IT)))) Jz)
  (Jb (Jl (K6 (N':=["k","well","left"]) (js:=[none,some 0,some 2]) rfl (JN (N:=["well","row","left","many"]) (outer:=Jh Pd) (by decide+kernel)) (LF rfl B.range_ (IS (Jm (QG rfl) rfl B.min_ PF (IS (pv 3) (IS (Jm JK rfl B.len_ J9 (IS (pv 1) IT)) IT))) IT)) (λ_ _ _ _ _=>(Jn (i:=0) Mm rfl (Or.inl rfl))) (λ_ _ _ _ _=>Ke) (λ_ _ _ _ _=>(Tv K rfl AQ DJ DK Q0 (pv 2) (IS (Jd Ir (hr.mono (by decide)) rfl (IS (pv 1) (IS (Jm (Wl K rfl) rfl B.len_ J9 (IS (pv 2) IT)) IT))) IT))))))))),?_⟩
 refine⟨_,rfl,a,_,rfl,.inl (SqL.of ha),λlf hlf=>?_⟩;have s0:=Jf hlf (.lst xs);have e0:(IU H lf (.lst xs)) lf=some (.lst xs):=IX;have B0:=Bg.same s0;obtain⟨fb,fg,fl⟩:=Bg.free hlf;have ha0:=s0 _ _ ha;have S0:SameB b g H (IU H lf (.lst xs)):=s0.sameB;generalize IU H lf (.lst xs)=H0 at*;refine⟨_,rfl,b,g,l,_,4,rfl,B0,by omega,by decide,by decide,λm H1 m0 m3 B1 S1=>?_⟩;have e1:=S1 _ _ e0 fb fg;have ha1:=S1 _ _ ha0 ab ag;have S01:=S0.trans S1;dsimp only;refine L9 (λσ' H'=>∃k:Int,σ'=[some (.ref b),some (.ref a),some (.ref lf),some (.int k)]∧0≤k∧SameB b g H1 H'∧Well H' b g l (n+2)) (λZ hZ=>?_) ?_
 · refine⟨_,rfl,b,g,l,_,8,rfl,B1,by omega,by decide,by decide,λc H2 c0 c1 B2 S2=>⟨rfl,_,rfl,Jw (λh=>?_) (λh=>?_)⟩⟩
   · exact⟨_,rfl,lf,_,rfl,.inl (SqL.of (S2 _ _ e1 fb fg)),hZ _ _ ⟨_,rfl,by omega,S2,B2.mono (by omega)⟩⟩
   · exact hZ _ _ ⟨m,rfl,m0,S2,B2.mono (by omega)⟩
 rintro σ' H2 ⟨k,rfl,k0,S2,B2⟩;have e2:=S2 _ _ e1 fb fg;have ha2:=S2 _ _ ha1 ab ag;have S02:=S01.trans S2;have nf:∀x,H2 x=none→H x=none:=λx hx=>B2.back S02 x hx;refine⟨_,rfl,_,rfl,a,_,rfl,.inl (SqL.of ha2),_,_,rfl,?_⟩;obtain⟨M,hM,hM2⟩:∃M:Nat,(if(xs.length:Int)<k then(xs.length:Int) else k)=(M:Int)∧M≤xs.length:=by
  by_cases h:(xs.length:Int)<k
  · exact⟨xs.length,by rw[if_pos h],Af _⟩
  · exact⟨k.toNat,by rw[if_neg h];omega,by omega⟩
 rw[hM];refine⟨_,rfl,(by omega),(by omega),λp hp=>?_⟩;have sp:=Jf hp (.lst []);obtain⟨pb,pg,pl⟩:=B2.free hp;have npf:p≠lf:=λe=>by rw[e,e2] at hp;cases hp
 refine Mj (lo:=0) (n:=M) (λi σ' ys H'=>(∃v,σ'=[v,some (.ref b),some (.ref lf)])∧(SameB b g H H'∧Well H' b g l (n+2+(i:Int)))∧H' p=some (.lst ys)∧∃zs:List V,H' lf=some (.lst zs)∧zs.length=xs.length - i∧(ys++zs).Perm xs) ⟨⟨none,rfl⟩,⟨S02.trans sp.sameB,(B2.same sp).mono (by omega)⟩,IX,xs,sp _ _ e2,by simp,Ds _⟩ ?_ ?_ ?_
 · rintro i σ' ys H' hi ⟨_,_,h1,zs,h2,h3,h4⟩;have:=h4.length_eq;rw[A5] at this;exact⟨h1,JB (by omega)⟩
 · rintro i σ' ys H' N hi ⟨⟨v,rfl⟩,⟨S1,B1⟩,h1,zs,h2,h3,h4⟩ hN;refine⟨_,rfl,.inl ⟨rfl,_,SqL.of h2⟩,_,rfl,_,rfl,lf,_,rfl,.inl (SqL.of h2),b,g,l,_,_,rfl,B1,by omega,by omega,Ks (by omega),λc H2 c0 c1 B2 S2=>?_⟩;obtain⟨k,rfl⟩:∃k:Nat,c=(k:Int):=⟨c.toNat,by omega⟩;have hk:k<zs.length:=by omega
   have f2:=S2 _ _ h2 fb fg;have g2':=S2 _ _ h1 pb pg;refine⟨lf,zs,(k:Int),k,zs[k],rfl,rfl,f2,by omega,by omega,?_,AK hk,?_⟩
   · unfold PySem.seqIndex?;simp;omega
   · refine⟨by rw[Ji npf];exact g2',hN _ _ _ ⟨⟨_,rfl⟩,⟨?_,?_⟩,IX,zs.eraseIdx k,?_,?_,?_⟩⟩
     · exact((S1.trans S2).off hlf).off (nf p hp)
     · exact((B2.off fb fg fl).off pb pg pl).mono (by omega)
     · rw[Ji npf.symm,IX]
     · rw[DO];simp[hk];omega
     · rw[BE];exact((QJ zs k hk).append_left ys).trans h4
 · rintro σ' ys H' ⟨_,⟨S1,B1⟩,h1,zs,h2,h3,h4⟩;exact q p ys zs H' (nf p hp) h1 h4 (B1.mono (by omega)) S1
theorem ziS(F:Fun K "_law_web" "_law_web" OS f fd)(Ir:Γ28 P w K mg base):FnOk P w K mg base Jp 2 f fd ["well","most"] (TM):=by
 refine F.ok HC (λvs H Q E h=>?_) (λcdv A outer s H vs Q E hr h=>?_)
 · obtain⟨b,g,l,n,most,rfl,Bg,hn,m1,m2,q⟩:=h;rfl
 obtain⟨b,g,l,n,most,rfl,Bg,hn,m1,m2,q⟩:=h;refine⟨_,(IZ (Jk (i:=2) HC.nd rfl (Or.inr rfl) (Jd Ir (hr.mono (by decide)) rfl (IS (pv 0) (IS IV IT))))
  (IZ (Jk (i:=3) HC.nd rfl (Or.inl rfl) (Jd Ir (hr.mono (by decide)) rfl (IS (pv 0) (IS (pv 1) IT))))
  (IZ (J0 (Jy Kc (pv 2) IV (Js _)) (Jb (Jl (zgo rfl (pv 3) rfl B.list_ rfl B.range_))) Jz)
  (Jb (Jl (K6 (N':=["place","well","pick"]) (js:=[none,some 0,some 2]) rfl (JN (N:=["well","most","pick","many"]) (outer:=Jh OS) (by decide+kernel)) (LF rfl B.range_ (IS (pv 3) IT)) (λ_ _ _ _ _=>(Jn (i:=0) Of rfl (Or.inl rfl))) (λ_ _ _ _ _=>Ke) (λ_ _ _ _ _=>(OM (Jy Kc (pv 2) IV (Js _)) IV (Jd Ir (hr.mono (by decide)) rfl (IS (pv 1) (IS (Jg JE (pv 0) IV) IT))))))))))),?_⟩
 refine⟨_,rfl,b,g,l,_,4,rfl,Bg,by omega,by decide,by decide,λpk H1 p0 p3 B1 S1=>?_⟩;refine⟨_,rfl,_,rfl,b,g,l,_,most,rfl,B1,by omega,by omega,Ks (by omega),λm H2 k0 k1 B2 S2=>?_⟩;have S02:=S1.trans S2;have nf:∀x,H2 x=none→H x=none:=λx hx=>B2.back S02 x hx;obtain⟨M,rfl⟩:∃M:Nat,m=(M:Int):=⟨m.toNat,by omega⟩;dsimp only;refine L9 (λσ' H'=>σ'=[some (.ref b),some (.int most),some (.int pk),some (.int (M:Int))]∧H'=H2) (λZ hZ=>?_) ?_
 · refine⟨_,rfl,rfl,_,rfl,Jw (λh=>?_) (λh=>hZ _ _ ⟨rfl,rfl⟩)⟩;refine⟨_,rfl,M,rfl,by omega,λr hr=>?_⟩;have s3:=Jf hr (.lst (((AG M).map (λ(i:Nat)=>(i:Int))).map V.int));exact q r _ _ (nf r hr) ⟨IX,zjb (by omega)⟩ ((B2.same s3).mono (by omega)) (S02.trans s3.sameB)
 rintro σ' H' ⟨rfl,rfl⟩;refine⟨_,rfl,_,rfl,(by omega),(by omega),λp hp=>?_⟩;have sp:=Jf hp (.lst []);obtain⟨pb,pg,pl⟩:=B2.free hp;refine Mj (lo:=0) (n:=M) (λi σ' ys H3=>(∃v,σ'=[v,some (.ref b),some (.int pk)])∧(SameB b g H H3∧Well H3 b g l (n+2+(i:Int)))∧H3 p=some (.lst ys)∧∃L:List Int,ys=L.map V.int∧L.length=i∧∀(j:Nat)y,L[j]?=some y→0≤y∧y≤(j:Int)) ⟨⟨none,rfl⟩,⟨S02.trans sp.sameB,(B2.same sp).mono (by omega)⟩,IX,[],rfl,rfl,λj y e=>by simp at e⟩ ?_ ?_ ?_
 · rintro i σ' ys H3 hi ⟨_,_,h1,L,rfl,h3,h4⟩;exact⟨h1,JB (by rw[Ab];omega)⟩
 · rintro i σ' ys H3 N hi ⟨⟨v,rfl⟩,⟨S3,B3⟩,h1,L,rfl,h3,h4⟩ hN;refine⟨_,rfl,rfl,_,rfl,Jw (λh=>?_) (λh=>?_)⟩
   · refine⟨h1,hN _ _ _ ⟨⟨_,rfl⟩,⟨S3.off (nf p hp),(B3.off pb pg pl).mono (by omega)⟩,IX,L++[0],by rw[Aq];rfl,by simp;omega,U_ h4 (by omega) (by omega)⟩⟩
   · refine⟨_,rfl,_,rfl,_,_,rfl,rfl,b,g,l,_,_,rfl,B3,by omega,by omega,Ks (by omega),λc H4 c0 c1 B4 S4=>?_⟩;refine⟨S4 _ _ h1 pb pg,hN _ _ _ ⟨⟨_,rfl⟩,⟨(S3.trans S4).off (nf p hp),(B4.off pb pg pl).mono (by omega)⟩,IX,L++[c],by rw[Aq];rfl,by simp;omega,U_ h4 (by omega) (by omega)⟩⟩
 · rintro σ' ys H3 ⟨_,⟨S3,B3⟩,h1,L,rfl,h3,h4⟩;exact q p L H3 (nf p hp) ⟨h1,by omega,h4⟩ (B3.mono (by omega)) S3
theorem zho(F:Fun K "_law_near" "_law_near" ON f fd)  :FnOk P w K mg base Jp 1 f fd ["web","p"] (Ur):=by
 refine F.ok HD (λvs H Q E h=>?_) (λcdv A outer s H vs Q E hr h=>?_)
 · obtain⟨a,W,p,rfl,⟨ha,hW⟩,hp,q⟩:=h;rfl
 obtain⟨a,W,p,rfl,⟨ha,hW⟩,hp,q⟩:=h;refine⟨_,(IZ (M7 (N':=["place","web","p"]) (js:=[none,some 0,some 1]) (i:=2) HD.nd rfl (Or.inl rfl) rfl (JN (N:=["web","p","found"]) (outer:=Jh ON) (by decide+kernel)) (LF rfl B.range_ (IS (Jm JK rfl B.len_ J9 (IS (pv 0) IT)) IT)) (λ_ _ _ _ _=>(Jn (i:=0) Oe rfl (Or.inl rfl))) (λ_ _ _ _ _=>MZ (Jy Kc (Jx (Z6 K rfl) (pv 1) (pv 0) (λ_ _=>rfl)) (pv 2) (Js _))) (λ_ _ _ _ _=>(Jg JE (pv 0) IV)))
  (Jb (Jl (OM (Jy Kc (pv 1) IV (Js _)) (pv 2) (Jg Nu (JM (IS (Jx JA (pv 0) (Jg L6 (pv 1) IV) (λ_ _=>rfl)) IT)) (pv 2)))))),?_⟩
 have lw:=hW.1;have lm:(W.map V.int).length=W.length:=Ab _;refine⟨_,rfl,a,_,rfl,.inl (SqL.of ha),_,rfl,by omega,by omega,λl hl=>?_⟩;refine Mj (lo:=0) (n:=(W.map V.int).length) (λi σ' ys H'=>(∃v,σ'=[v,some (.ref a),some (.int p)])∧Same H H'∧H' l=some (.lst ys)∧ys=(((AG i).filter (λk=>W.getD k 0==p)).map (λ(k:Nat)=>(k:Int)+1)).map V.int) ⟨⟨none,rfl⟩,Jf hl _,IX,rfl⟩ ?_ ?_ ?_
 · rintro i σ' ys H' hi ⟨_,s,h1,h2⟩;refine⟨h1,?_⟩;rw[h2,Ab,Ab];have:=BC (λk=>W.getD k 0==p) (AG i);rw[BF] at this;exact JB (by omega)
 · rintro i σ' ys H' N hi ⟨⟨v,rfl⟩,s,h1,h2⟩ hN;have hi':i<W.length:=by omega
   have e2:W[i]?=some W[i]:=by simp
   have gd:W.getD i 0=W[i]:=by rw[Cv,e2];rfl
   generalize W[i]=n at*;have at1:JI (W.map V.int) (0+(i:Int))=some (.int n):=by rw[Int.zero_add];exact K7 (by rw[Am,e2];rfl)
   refine⟨_,rfl,_,rfl,a,_,_,_,rfl,rfl,SqL.of (s _ _ ha),at1,_,rfl,rfl,_,rfl,?_⟩;by_cases hn:n=p
   · subst hn;rw[decide_eq_true rfl];refine IY ⟨_,rfl,_,_,rfl,rfl,h1,hN _ _ _ ⟨⟨_,rfl⟩,Kw s hl,IX,?_⟩⟩;rw[h2,ES,BR,Aq,Aq,DM,if_pos (by rw[gd];simp),Int.zero_add];rfl
   · rw[decide_eq_false (λz=>hn (by injection z))];refine IW (hN _ _ _ ⟨⟨_,rfl⟩,s,h1,?_⟩);rw[h2,ES,BR,DM,if_neg (by rw[gd];simpa using hn)];simp
 · rintro σ' ys H' ⟨_,s,h1,h2⟩;rw[lm] at h2;have e3:H' l=some (.lst ((WB.kids W p).map V.int)):=by rw[h1,h2];rfl
   refine⟨_,rfl,rfl,_,rfl,Jw (λh=>?_) (λh=>?_)⟩
   · have h0:p=0:=by have:=of_decide_eq_true h;injection this
     refine⟨_,rfl,q l H' s hl ?_⟩;rw[e3];unfold WB.roads;rw[if_neg (by omega)];rfl
   · have h0:0<p:=by
      have:=hp.1;have:p≠0:=λz=>h (decide_eq_true (by rw[z]));omega
     have at1:JI (W.map V.int) (p - 1)=some (.int (WB.par W p)):=by obtain⟨k,hk⟩:=Dw (show 0≤p - 1 by omega);have:=WB.par_at hp h0;rw[hk] at this ⊢;exact K7 (by rw[Am];rw[show((k:Int)).toNat=k from rfl] at this;rw[this];rfl)
     refine⟨_,rfl,_,rfl,_,_,rfl,rfl,a,_,_,_,rfl,rfl,SqL.of (s _ _ ha),at1,Mz,λlb hlb=>?_⟩;have s1:=Jf hlb (.lst [V.int (WB.par W p)]);have kl:=WB.kids_len W p;refine⟨_,rfl,lb,l,_,_,rfl,rfl,IX,s1 _ _ e3,MN (by rw[Ab];show 1+_≤_;omega),λl3 hl3=>q l3 _ (s.trans (s1.trans (Jf hl3 _))) (YM (s.trans s1) hl3) ?_⟩;rw[IX];unfold WB.roads;rw[if_pos h0];rfl
theorem zfD(F:Fun K "_law_beyond" "_law_beyond" Rf f fd)(I0:Γ41 P w K mg base):FnOk P w K mg base Jp 2 f fd ["web","p","q"] (VG):=by
 refine F.ok HE (λvs H Q E h=>?_) (λcdv A outer s H vs Q E hr h=>?_)
 · obtain⟨a,W,p,q',rfl,⟨ha,hW⟩,hp,hq,hm,q⟩:=h;rfl
 obtain⟨a,W,p,q',rfl,⟨ha,hW⟩,hp,hq,hm,q⟩:=h;refine⟨_,(IZ (Jk (i:=3) HE.nd rfl (Or.inl rfl) (JM (IS (pv 2) IT)))
  (IZ (Jk (i:=4) HE.nd rfl (Or.inl rfl) IV)
  (IZ (Qq By (Jy Nt (pv 4) (Jm JK rfl B.len_ J9 (IS (pv 3) IT)) (Js _)) (IZ (KH By rfl (JV (Jd I0 (hr.mono (by decide)) rfl (IS (pv 0) (IS (Jx JA (pv 3) (pv 4) (λ_ _=>rfl)) IT)))) (Jn (i:=5) HE.nd rfl (Or.inl rfl)) (Jb (J0 (PW.pt (Oz (Jy LI (pv 5) (pv 1) (Js _)) (O3 (Jy Rc (pv 5) (pv 3) (by with_unfolding_all rfl))))) (Jb (Kv (KD AQ Bu Bv Lf (pv 3) (IS (pv 5) IT)))) Jz)))
  (Jb (Jk (i:=4) HE.nd rfl (Or.inl rfl) (Jg JE (pv 4) IV)))))
  (Jb (Jl (pv 3)))))),?_⟩
 have adj:=(WB.roads_adj hW hp hm).2;refine⟨_,rfl,Mz,λl hl=>?_⟩;have s0:=Jf hl (.lst [V.int q']);have e0:(IU H l (.lst [V.int q'])) l=some (.lst (([q']:List Int).map V.int)):=IX;generalize IU H l (.lst [V.int q'])=H0 at*;refine J7 ?_;intro σ11
 let Pv11:Nat→L2.St→Hp→Prop:=λm σ H'=>∃(y5:Option V)(k:Nat)(fs:List Int),σ=[some (.ref a),some (.int p),some (.int q'),some (.ref l),some (.int (k:Int)),y5]∧Same H H'∧H' l=some (.lst (fs.map V.int))∧Bfs W p q' fs∧(∀i x,i<k→fs[i]?=some x→∀y∈WB.roads W x,y=p∨y∈fs)∧k≤fs.length∧m=24 - k
 let Pv10:L2.St→Hp→Prop:=λσ H'=>∃y4 y5 fs,σ=[some (.ref a),some (.int p),some (.int q'),some (.ref l),y4,y5]∧Same H H'∧H' l=some (.lst (fs.map V.int))∧Bfs W p q' fs∧(∀x∈fs,∀y∈WB.roads W x,y=p∨y∈fs)
 refine QV Pv11
  Pv10 ?_ ?_ ?_
 · exact⟨_,none,0,[q'],rfl,s0,e0,⟨by simp,λx hx=>by rw[Ak.mp hx];exact WB.side_self hW hp hq adj,Ak.mpr rfl⟩,λi x hi=>absurd hi (Ea _),Bc _,rfl⟩
 · rintro m σ H1 Z ⟨y5,k,fs,rfl,s1,e1,D1,C1,k1,rfl⟩ hZ;have l24:=D1.len hW;refine⟨_,rfl,_,rfl,l,_,rfl,.inl (SqL.of e1),_,_,rfl,rfl,_,rfl,Jw (λh=>?_) (λh=>?_)⟩
   · have hk:k<fs.length:=by have:=of_decide_eq_true h;rw[Ab] at this;omega
     have ek:fs[k]?=some fs[k]:=by simp
     have hx:=Av ek;have at1:JI (fs.map V.int) (k:Int)=some (.int fs[k]):=K7 (by rw[Am,ek];rfl);generalize fs[k]=x at*;have px:=(WB.side_mem.mp (D1.inS x hx)).1;refine⟨λσ H'=>∃(y5:Option V)(k':Nat)(fs':List Int),σ=[some (.ref a),some (.int p),some (.int q'),some (.ref l),some (.int (k':Int)),y5]∧Same H H'∧H' l=some (.lst (fs'.map V.int))∧Bfs W p q' fs'∧(∀i x,i<k'→fs'[i]?=some x→∀y∈WB.roads W x,y=p∨y∈fs')∧k'≤fs'.length∧24 - k'<24 - k,?_,?_⟩
     · rintro σ' H' ⟨a1,a2,a3,a4,a5,a6,a7,a8,a9,a10⟩;exact⟨_,a10,a1,a2,a3,a4,a5,a6,a7,a8,a9,rfl⟩
     refine⟨_,rfl,_,rfl,_,rfl,l,_,_,_,rfl,rfl,SqL.of e1,at1,a,W,x,rfl,⟨s1 _ _ ha,hW⟩,px,λln H2 s2 n2 e2=>?_⟩;have lne:l≠ln:=JJ e1 n2
     let Pv12:Nat→L2.St→Hp→Prop:=λj σ H'=>∃y5 ys,σ=[some (.ref a),some (.int p),some (.int q'),some (.ref l),some (.int (k:Int)),y5]∧Same H H'∧H' ln=some (.lst ((WB.roads W x).map V.int))∧H' l=some (.lst ((fs++ys).map V.int))∧Bfs W p q' (fs++ys)∧(∀(i:Nat)(y:Int),i<j→(WB.roads W x)[i]?=some y→y=p∨y∈fs++ys)
     refine⟨ln,rfl,⟨_,SqL.of e2⟩,LO (K:=K) (a:=ln) (xs:=(WB.roads W x).map V.int) Pv12 ?_ ?_ ?_ ?_⟩
     · exact⟨y5,[],rfl,s1.trans s2,e2,by rw[CG];exact s2 _ _ e1,by rw[CG];exact D1,λi y hi=>absurd hi (Ea _)⟩
     · rintro j σ H' _ ⟨_,_,_,_,h,_⟩;exact SqL.of h
     · rintro j v σ H3 hv ⟨y6,ys,rfl,s3,n3,e3,D3,C3⟩;rw[Am] at hv;cases ey:(WB.roads W x)[j]? with
       | none=>rw[ey] at hv;cases hv
       | some y=>
        rw[ey] at hv;obtain rfl:V.int y=v:=AD hv;have hyr:=Av ey;have l3:=D3.len hW;have old:y=p∨y∈fs++ys→∀(i:Nat)(z:Int),i<j+1→(WB.roads W x)[i]?=some z→z=p∨z∈fs++ys:=λh i z hi hz=>by
         by_cases hij:i<j
         · exact C3 i z hij hz
         · obtain rfl:i=j:=by omega
           rw[ey] at hz;cases hz;exact h
        refine⟨_,rfl,_,rfl,rfl,_,rfl,?_⟩;by_cases yp:y=p
        · rw[decide_eq_true (congrArg V.int yp)];exact IW (IW ⟨_,ys,rfl,s3,n3,e3,D3,old (.inl yp)⟩)
        · rw[decide_eq_false (λz=>yp (by injection z))];refine IY ⟨_,rfl,_,rfl,Q_ (SqL.of e3) ⟨_,rfl,?_⟩⟩;rw[show(fs++ys).any (λz=>z==y)=WB.has (fs++ys) y from rfl];cases c:WB.has (fs++ys) y with
          | true=>exact IW ⟨_,ys,rfl,s3,n3,e3,D3,old (.inr (WB.has_iff.mp c))⟩
          | false=>
           have ny:y ∉ fs++ys:=λz=>by rw[WB.has_iff.mpr z] at c;cases c
           have D4:=D3.put ny (WB.side_closed hW hp hq adj (D1.inS x hx) hyr yp);refine IY ⟨_,rfl,.inl ⟨rfl,_,SqL.of e3⟩,_,rfl,l,_,_,rfl,rfl,e3,(by rw[Ab];exact JB (by omega)),?_⟩;refine⟨_,ys++[y],rfl,Kw s3 hl,by rw[Ji lne.symm];exact n3,by rw[IX,←BE,Aq (l₂:=[y])];rfl,by rw[←BE];exact D4,λi z hi hz=>?_⟩;by_cases hij:i<j
           · rw[←BE];exact(C3 i z hij hz).imp_right λh=>AO _ h
           · obtain rfl:i=j:=by omega
             rw[ey] at hz;cases hz;exact .inr (by simp)
     · rintro σ H3 ⟨y6,ys,rfl,s3,n3,e3,D3,C3⟩;refine⟨_,rfl,_,_,rfl,rfl,?_⟩;refine⟨y6,k+1,fs++ys,rfl,s3,e3,D3,λi z hi hz y hy=>?_,by rw[A5];omega,by omega⟩;by_cases hik:i<k
       · rw[BQ (by omega)] at hz;exact(C1 i z hik hz y hy).imp_right λh=>AO _ h
       · obtain rfl:i=k:=by omega
         rw[BQ hk,ek] at hz;cases hz;obtain⟨j,hj⟩:=CF hy;refine C3 j y ?_ hj;rw[Ab];exact(Au.mp hj).1
   · have hk:k=fs.length:=by
      have:¬(k:Int)<((fs.map V.int).length:Int):=λz=>h (decide_eq_true z);rw[Ab] at this;omega
     refine hZ _ _ ⟨_,_,fs,rfl,s1,e1,D1,λx hx y hy=>?_⟩;obtain⟨i,hi⟩:=CF hx;exact C1 i x (by rw[hk];exact(Au.mp hi).1) hi y hy
 · rintro σ H1 ⟨y4,y5,fs,rfl,s1,e1,D1,C1⟩;exact⟨_,rfl,q l fs H1 s1 hl e1 (D1.done hW hp hq adj C1) (D1.len hW)⟩
theorem zfz(F:Fun K "_law_turned" "_law_turned" Pe f fd)(Ir:Γ28 P w K mg base):FnOk P w K mg base Jp 2 f fd ["well","row"] (Vi):=by
 refine F.ok HF (λvs H Q E h=>?_) (λcdv A outer s H vs Q E hr h=>?_)
 · obtain⟨b,g,l,a,n,xs,rfl,Bg,hn,ha,ab,ag,lx,q⟩:=h;rfl
 obtain⟨b,g,l,a,n,xs,rfl,Bg,hn,ha,ab,ag,lx,q⟩:=h;refine⟨_,(IZ (Jk (i:=2) HF.nd rfl (Or.inr rfl) (MB Pa rfl B.list_ KN (IS (pv 1) IT)))
  (Jb (Jl (K6 (N':=["k","well","left"]) (js:=[none,some 0,some 2]) rfl (JN (N:=["well","row","left"]) (outer:=Jh Pe) (by decide+kernel)) (LF rfl B.range_ (IS (Jm JK rfl B.len_ J9 (IS (pv 1) IT)) IT)) (λ_ _ _ _ _=>(Jn (i:=0) Mm rfl (Or.inl rfl))) (λ_ _ _ _ _=>Ke) (λ_ _ _ _ _=>(Tv K rfl AQ DJ DK Q0 (pv 2) (IS (Jd Ir (hr.mono (by decide)) rfl (IS (pv 1) (IS (Jm (Wl K rfl) rfl B.len_ J9 (IS (pv 2) IT)) IT))) IT))))))),?_⟩
 refine⟨_,rfl,a,_,rfl,.inl (SqL.of ha),λlf hlf=>?_⟩;have s0:=Jf hlf (.lst xs);have e0:(IU H lf (.lst xs)) lf=some (.lst xs):=IX;have B0:=Bg.same s0;obtain⟨fb,fg,fl⟩:=Bg.free hlf;have ha0:=s0 _ _ ha;have S0:SameB b g H (IU H lf (.lst xs)):=s0.sameB;generalize IU H lf (.lst xs)=H0 at*;refine⟨_,rfl,a,_,rfl,.inl (SqL.of ha0),_,rfl,(by omega),(by omega),λp hp=>?_⟩;have sp:=Jf hp (.lst []);obtain⟨pb,pg,pl⟩:=B0.free hp;have npf:p≠lf:=λe=>by rw[e,e0] at hp;cases hp
 refine Mj (lo:=0) (n:=xs.length) (λi σ' ys H'=>(∃v,σ'=[v,some (.ref b),some (.ref lf)])∧(SameB b g H H'∧Well H' b g l (n+(i:Int)))∧H' p=some (.lst ys)∧∃zs:List V,H' lf=some (.lst zs)∧zs.length=xs.length - i∧(ys++zs).Perm xs) ⟨⟨none,rfl⟩,⟨S0.trans sp.sameB,(B0.same sp).mono (by omega)⟩,IX,xs,sp _ _ e0,by simp,Ds _⟩ ?_ ?_ ?_
 · rintro i σ' ys H' hi ⟨_,_,h1,zs,h2,h3,h4⟩;have:=h4.length_eq;rw[A5] at this;exact⟨h1,JB (by omega)⟩
 · rintro i σ' ys H' N hi ⟨⟨v,rfl⟩,⟨S1,B1⟩,h1,zs,h2,h3,h4⟩ hN;refine⟨_,rfl,.inl ⟨rfl,_,SqL.of h2⟩,_,rfl,_,rfl,lf,_,rfl,.inl (SqL.of h2),b,g,l,_,_,rfl,B1,by omega,by omega,Ks (by omega),λc H2 c0 c1 B2 S2=>?_⟩;obtain⟨k,rfl⟩:∃k:Nat,c=(k:Int):=⟨c.toNat,by omega⟩;have hk:k<zs.length:=by omega
   have f2:=S2 _ _ h2 fb fg;have g2':=S2 _ _ h1 pb pg;refine⟨lf,zs,(k:Int),k,zs[k],rfl,rfl,f2,by omega,by omega,?_,AK hk,?_⟩
   · unfold PySem.seqIndex?;simp;omega
   · refine⟨by rw[Ji npf];exact g2',hN _ _ _ ⟨⟨_,rfl⟩,⟨?_,?_⟩,IX,zs.eraseIdx k,?_,?_,?_⟩⟩
     · exact((S1.trans S2).off hlf).off (s0.free hp)
     · exact((B2.off fb fg fl).off pb pg pl).mono (by omega)
     · rw[Ji npf.symm,IX]
     · rw[DO];simp[hk];omega
     · rw[BE];exact((QJ zs k hk).append_left ys).trans h4
 · rintro σ' ys H' ⟨_,⟨S1,B1⟩,h1,zs,h2,h3,h4⟩;have:zs=[]:=Dx.mp (by omega);subst this;rw[CG] at h4;exact q p ys H' (s0.free hp) h1 h4 (B1.mono (by omega)) S1
theorem zfA(F:Fun K "_law_stands" "_law_stands" Rh f fd)(IA:Γ43 P w K mg base)(IB:Γ30 P w K mg base)(Ir:Γ28 P w K mg base)(IC:Γ39 P w K mg base):FnOk P w K mg base Jp 4 f fd ["well","web","pool","many"] (Vh):=by
 refine F.ok HG (λvs H Q E h=>?_) (λcdv A outer s H vs Q E hr h=>?_)
 · obtain⟨b,g,l,a,c,n,many,W,ws,rfl,Bg,hn,hW,ab,ag,hw,cb,cg,nd,lw,m1,m2,q⟩:=h;rfl
 obtain⟨b,g,l,a,c,n,many,W,ws,rfl,Bg,hn,hW,ab,ag,hw,cb,cg,nd,lw,m1,m2,q⟩:=h;refine⟨_,(IZ (Jk (i:=4) HG.nd rfl (Or.inl rfl) (JM IT))
  (IZ (KH By rfl (JV (Jd IA (hr.mono (by decide)) rfl (IS (pv 0) (IS (Jd IB (hr.mono (by decide)) rfl (IS (pv 0) (IS (pv 3) IT))) IT)))) (Jn (i:=5) HG.nd rfl (Or.inl rfl)) (Jb (Kv (KD AQ Bu Bv Lf (pv 4) (IS (JU (IS (pv 5) (IS (Jd Ir (hr.mono (by decide)) rfl (IS (pv 0) (IS (Jg JE (Jm JK rfl B.len_ J9 (IS (pv 1) IT)) IV) IT))) (IS (Lg O6 (Jd IC (hr.mono (by decide)) rfl (IS (pv 0) (IS (pv 2) IT))) Ld (Le IV)) IT)))) IT)))))
  (Jb (Jl (pv 4))))),?_⟩
 refine⟨Kq,λr hr'=>?_⟩;obtain⟨rb,rg,rl⟩:=Bg.free hr';have s0:=Jf hr' (.lst []);have e0:(IU H r (.lst [])) r=some (.lst []):=IX;have nr:H r=none:=hr';have B0:=Bg.same s0;have ra:r≠a:=λe=>by rw[e,hW.1] at hr';cases hr'
 have rc:r≠c:=λe=>by rw[e,hw.at'] at hr';cases hr'
 have S0:SameB b g H (IU H r (.lst [])):=s0.sameB;generalize IU H r (.lst [])=H0 at*;refine⟨_,rfl,_,rfl,_,rfl,b,g,l,_,many,rfl,B0,by omega,m1,m2,λf fs H1 hf ef asc okf f1 f2 B1 S1=>?_⟩;obtain⟨fb,fg,_⟩:=B0.free hf;refine⟨b,g,l,f,_,_,rfl,B1,by omega,ef,fb,fg,by rw[Ab];omega,λh hv H2 hh eh pm B2 S2=>?_⟩;obtain⟨hs,hp,rfl⟩:=OP pm fs rfl;have S02:=S0.trans (S1.trans S2);have hsl:hs.length≤30:=by rw[hp.length_eq];omega
 have hsn:hs.Nodup:=hp.nodup_iff.mpr (asc.imp λhlt e=>To hlt e);obtain⟨hb,hg',_⟩:=B1.free hh;have e2:=S2 _ _ (S1 _ _ e0 rb rg) rb rg;have hr2:h≠r:=λe=>by rw[e,S1 _ _ e0 rb rg] at hh;cases hh
 let Pv13:Nat→L2.St→Hp→Prop:=λi σ H'=>(∃y,σ=[some (.ref b),some (.ref a),some (.ref c),some (.int many),some (.ref r),y])∧SameB b g H H'∧Well H' b g l (n+1100+101*(i:Int))∧H' h=some (.lst (hs.map V.str))∧∃xs:List Stand,H' r=some (.lst (xs.map λx=>V.ref x.a))∧xs.map (·.hand)=hs.take i∧∀x∈xs,StAt H' W x∧H x.l=none∧x.l≠r
 refine⟨h,rfl,⟨_,SqL.of eh⟩,LO (K:=K) (a:=h) (xs:=hs.map V.str) Pv13 ?_ ?_ ?_ ?_⟩
 · exact⟨⟨none,rfl⟩,S02,B2.mono (by omega),eh,[],e2,rfl,λx hx=>(by simp at hx)⟩
 · rintro i σ H' hi ⟨_,_,_,h,_⟩;exact SqL.of h
 · rintro i x σ H3 hx ⟨⟨y,rfl⟩,S3,B3,h3,xs,e3,hd,g3⟩;rw[Am] at hx;cases ew:hs[i]? with
   | none=>rw[ew] at hx;cases hx
   | some f'=>
    rw[ew] at hx;cases hx;have hil:i<hs.length:=(Au.mp ew).1;have a3:=S3 _ _ hW.1 ab ag;have w3:=hw.sameW Bg cb cg S3;refine J7 ?_;intro σ12;refine⟨_,rfl,.inl ⟨rfl,_,SqL.of e3⟩,_,rfl,_,rfl,_,rfl,a,_,rfl,.inl (SqL.of a3),_,_,rfl,rfl,b,g,l,_,_,rfl,B3,by omega,by omega,Ks (by have:=hW.2.1;rw[Ab];omega),λpo H4 po0 po1 B4 S4=>?_⟩;have w4:WsAt H4 c ws:=w3.sameW B3 cb cg S4;have e4:=S4 _ _ e3 rb rg;refine⟨_,rfl,_,rfl,b,g,l,c,_,_,rfl,B4,by omega,w4.at',cb,cg,by rw[Ab];omega,λpk ys zs H5 hpk epk pm5 B5 S5=>?_⟩;obtain⟨us,up,eu⟩:=OP pm5 ws rfl;have ey:ys=(us.take ys.length).map λx=>V.ref x.1:=by rw[EE,eu,List.take_left]
    have sub1:(us.take ys.length).Sublist us:=Ez _ _;generalize us.take ys.length=us' at ey sub1;subst ey;refine⟨_,rfl,pk,_,rfl,SqL.of epk,λnl hnl=>?_⟩;rw[Q4 (k:=10) rfl,←EE] at*;have sub2:(us'.take 10).Sublist us:=(Ez _ _).trans sub1;have l10:(us'.take 10).length≤10:=by rw[AE];omega
    generalize us'.take 10=vs at*;have s6:=Jf hnl (.lst (vs.map λx=>V.ref x.1));have e6:(IU H5 nl (.lst (vs.map λx=>V.ref x.1))) nl=some (.lst (vs.map λx=>V.ref x.1)):=IX;have B6:=B5.same s6;have S35:=S4.trans S5;have n5:H nl=none:=B5.back (S3.trans S35) nl hnl;generalize IU H5 nl (.lst (vs.map λx=>V.ref x.1))=H6 at*;refine⟨Nl,λtp htp=>?_⟩;have s7:=Jf htp (.tup [V.str f',V.int po,V.ref nl]);have e7:(IU H6 tp (.tup [V.str f',V.int po,V.ref nl])) tp=some (.tup [V.str f',V.int po,V.ref nl]):=IX;have B7:=B6.same s7;have s57:Same H5 (IU H6 tp (.tup [V.str f',V.int po,V.ref nl])):=s6.trans s7;have e6':=s7 _ _ e6;generalize IU H6 tp (.tup [V.str f',V.int po,V.ref nl])=H7 at*;have S37:=S35.trans s57.sameB;have e7r:=s57 _ _ (S5 _ _ e4 rb rg);have w7:∀x∈vs,WishAt H7 x.1 x.2∧WOk x.2:=λx hx=>by have mx:=up.mem_iff.mp (sub2.subset hx);exact⟨(((w4.ok x mx).1).sameW B4 S5).same s57,(w4.ok x mx).2⟩
    have nr7:nl≠r:=λe=>by rw[e,S5 _ _ e4 rb rg] at hnl;cases hnl
    have lx:xs.length≤30:=by have:=congrArg CP hd;rw[Ab,AE] at this;omega
    have ndv:(vs.map (·.2)).Nodup:=((up.map (·.2)).nodup_iff.mpr nd).sublist (sub2.map _);have fo:FieldOk f':=okf f' (hp.mem_iff.mp (Av ew));have new:StAt H7 W ⟨tp,f',po,nl,vs⟩:=⟨e7,⟨e6',w7,AM l10 (by decide)⟩,ndv,l10,fo,⟨po0,(by rw[Ab] at po1;show po≤(W.length:Int);omega)⟩⟩;refine⟨r,_,_,rfl,rfl,e7r,?_,?_⟩
    · rw[Ab];exact JB (by omega)
    · have tu:JS H7 (IU H7 r (.lst ((xs.map λx=>V.ref x.a)++[V.ref tp]))):=λz zs e=>by
       rw[Ji (λq=>by rw[q,e7r] at e;cases e)];exact e
      have ol:∀y:Stand,StAt H7 W y→y.l≠r→StAt (IU H7 r (.lst ((xs.map λx=>V.ref x.a)++[V.ref tp]))) W y:=λy h hyr=>
       ⟨tu _ _ h.at',⟨by rw[Ji hyr];exact h.ws.at',λx hx=>⟨(h.ws.ok x hx).1.keep tu,(h.ws.ok x hx).2⟩,h.ws.len⟩,h.nd,h.few,h.name,h.post⟩
      refine⟨⟨_,rfl⟩,(S3.trans S37).off nr,(B7.off rb rg rl).mono (by omega),by rw[Ji hr2];exact S37 _ _ h3 hb hg',xs++[⟨tp,f',po,nl,vs⟩],by rw[IX,Aq];rfl,?_,λx hx=>?_⟩
      · rw[Aq,hd,CM,ew];rfl
      · rcases As.mp hx with z | z
        · obtain⟨g1,g2,g4⟩:=g3 x z;obtain⟨xb,xg,_⟩:=Bg.free g2;have g5:StAt H7 W x:=⟨s57 _ _ (B4.tup S5 (B3.tup S4 g1.at')),((g1.ws.sameW B3 xb xg S4).sameW B4 xb xg S5).same s57,g1.nd,g1.few,g1.name,g1.post⟩;exact⟨ol x g5 g4,g2,g4⟩
        · rw[Ak.mp z];exact⟨ol _ new nr7,n5,nr7⟩
 · rintro σ H3 ⟨⟨y,rfl⟩,S3,B3,h3,xs,e3,hd,g3⟩;rw[Ab,Bx] at hd;refine⟨_,rfl,q r xs H3 nr ⟨e3,λx hx=>(g3 x hx).1,by rw[hd];exact hsn,?_⟩ (λx hx=>(g3 x hx).2.1) (B3.mono (by rw[Ab];omega)) S3⟩;have:=congrArg CP hd;rw[Ab] at this;omega
theorem zfy(F:Fun K "_law_wanted" "_law_wanted" Ri f fd)  :FnOk P w K mg base Jp 1 f fd ["stands","posts"] (VM):=by
 refine F.ok HH (λvs H Q E h=>?_) (λcdv A outer s H vs Q E hr h=>?_)
 · obtain⟨l,c,W,xs,F,rfl,hx,hc,q⟩:=h;rfl
 obtain⟨l,c,W,xs,F,rfl,hx,hc,q⟩:=h;refine⟨_,(IZ (Jk (i:=2) HH.nd rfl (Or.inl rfl) (JM IT))
  (IZ (KH By rfl (JV (pv 0)) (KZ rfl (J3 (Jn (i:=3) HH.nd rfl (Or.inl rfl)) (J3 (Jn (i:=4) HH.nd rfl (Or.inl rfl)) (J3 (Jn (i:=5) HH.nd rfl (Or.inl rfl)) Ku)))) (Jb (J0 (Jy zj4 (pv 4) (pv 1) (by with_unfolding_all rfl)) (Jb (Jk (i:=2) HH.nd rfl (Or.inl rfl) (Jg Nu (pv 2) (pv 5)))) Jz)))
  (Jb (Jl (pv 2))))),?_⟩
 refine⟨Kq,λr0 hr0=>?_⟩;have s0:=Jf hr0 (.lst [])
 let Pv14:Nat→L2.St→Hp→Prop:=λi σ H'=>(∃r y3 y4 y5,σ=[some (.ref l),some (.ref c),some (.ref r),y3,y4,y5]∧H r=none∧H' r=some (.lst ((KG (WB.has F) (xs.take i)).map λx=>V.ref x.1)))∧Same H H'
 refine⟨_,rfl,l,rfl,⟨_,SqL.of (s0 _ _ hx.at')⟩,LO (K:=K) (a:=l) (xs:=xs.map λx=>V.ref x.a) Pv14 ?_ ?_ ?_ ?_⟩
 · exact⟨⟨r0,none,none,none,rfl,hr0,IX⟩,s0⟩
 · rintro i σ H' hi ⟨_,s⟩;exact SqL.of (s _ _ hx.at')
 · rintro i v σ H1 hv ⟨⟨r,y3,y4,y5,rfl,nr,e1⟩,s1⟩;rw[Am] at hv;cases ew:xs[i]? with
   | none=>rw[ew] at hv;cases hv
   | some x1=>
    rw[ew] at hv;cases hv;have o1:=(hx.ok x1 (Av ew)).same s1;refine⟨x1.a,_,rfl,SqT.of o1.at',rfl,_,_,rfl,_,_,rfl,_,_,rfl,rfl,?_⟩;refine⟨_,rfl,_,rfl,XR (SqL.of (s1 _ _ hc)) ⟨_,rfl,?_⟩⟩;have sn:=ziy (f:=WB.has F) ew;rw[show F.any (λy=>y==x1.post)=WB.has F x1.post from rfl];cases c:WB.has F x1.post with
    | true=>
     rw[c,if_pos rfl] at sn;refine IY ⟨_,rfl,_,rfl,r,x1.l,_,_,rfl,rfl,e1,o1.ws.at',?_,λr2 hr2=>?_⟩
     · have h1:=VD (f:=WB.has F) (xs:=xs.take i) λx hx'=>(hx.ok x (Dr hx')).few;rw[AE] at h1;have h2:=o1.few;have h3:=hx.len;rw[Ab,Ab];exact MN (by omega)
     · exact⟨⟨r2,_,_,_,rfl,s1.free hr2,by rw[IX,sn,Aq]⟩,s1.trans (Jf hr2 _)⟩
    | false=> rw[c,if_neg (by decide),CG] at sn;exact IW ⟨⟨r,_,_,_,rfl,nr,by rw[e1,sn]⟩,s1⟩
 · rintro σ H1 ⟨⟨r,y3,y4,y5,rfl,nr,e1⟩,s1⟩;rw[Ab,Bx] at e1;exact⟨_,rfl,q r H1 s1 nr (WsAt.wants (hx.same s1) e1)⟩
theorem zc8(F:Fun K "_law_stands_kept" "_law_stands_kept" Ph f fd)  :FnOk P w K mg base Jp 1 f fd ["stands"] (TH):=by
 refine F.ok zcY (λvs H Q E h=>?_) (λcdv A outer s H vs Q E hr h=>?_)
 · obtain⟨l,W,xs,rfl,hx,q⟩:=h;rfl
 obtain⟨l,W,xs,rfl,hx,q⟩:=h;refine⟨_,(Jb (Jl (K6 (N':=["hand","post","wishes"]) (js:=[none,none,none]) rfl (JN (N:=["stands"]) (outer:=Jh Ph) (by decide+kernel)) (JV (pv 0)) (λ_ _ _ _ _=>(MT K rfl (n:=3) rfl (J3 (Jn (i:=0) Lr rfl (Or.inl rfl)) (J3 (Jn (i:=1) Lr rfl (Or.inl rfl)) (J3 (Jn (i:=2) Lr rfl (Or.inl rfl)) Ku))))) (λ_ _ _ _ _=>Ke) (λ_ _ _ _ _=>(JU (IS (pv 0) (IS (pv 1) (IS (MB (zfS K rfl) rfl B.list_ KN (IS (pv 2) IT)) IT)))))))),?_⟩;refine⟨_,rfl,l,rfl,⟨_,SqL.of hx.at'⟩,λr hr=>?_⟩;have hl:=hx.len;refine M9 (xs:=xs.map λx=>V.ref x.a) (λi σ' vs H'=>(∃v1 v2 v3,σ'=[v1,v2,v3])∧Same H H'∧H' r=some (.lst vs)∧∃ys:List Stand,vs=(ys.map λx=>V.ref x.a)∧ys.map JH=(xs.take i).map JH∧∀y∈ys,StAt H' W y∧y.l≠r) ⟨⟨none,none,none,rfl⟩,Jf hr _,IX,[],rfl,rfl,λy hy=>by simp at hy⟩ ?_ ?_ ?_
 · rintro i σ' vs H' hi ⟨_,s,h1,ys,rfl,h2,h3⟩;refine⟨SqL.of (s _ _ hx.at'),h1,?_⟩;have:=congrArg CP h2;rw[Ab,Ab,AE] at this;rw[Ab];exact JB (by omega)
 · rintro i x σ' vs H' N hy ⟨⟨v1,v2,v3,rfl⟩,s,h1,ys,rfl,h2,h3⟩ hN;rw[Am] at hy;cases e1:xs[i]? with
   | none=>rw[e1] at hy;cases hy
   | some x1=>
    rw[e1] at hy;cases hy;have o1:=(hx.ok x1 (Av e1)).same s;refine⟨x1.a,_,rfl,SqT.of o1.at',rfl,_,_,rfl,_,_,rfl,_,_,rfl,rfl,?_⟩;refine⟨_,rfl,_,rfl,_,rfl,x1.l,_,rfl,.inl (SqL.of o1.ws.at'),λnl hnl=>?_⟩;have s2:=Jf hnl (.lst (x1.ws.map λx=>V.ref x.1));have e2:(IU H' nl (.lst (x1.ws.map λx=>V.ref x.1))) nl=some (.lst (x1.ws.map λx=>V.ref x.1)):=IX;generalize IU H' nl (.lst (x1.ws.map λx=>V.ref x.1))=H2 at*;refine⟨Nl,λtp htp=>?_⟩;have s3:=Jf htp (.tup [V.str x1.hand,V.int x1.post,V.ref nl]);have e3:(IU H2 tp (.tup [V.str x1.hand,V.int x1.post,V.ref nl])) tp=some (.tup [V.str x1.hand,V.int x1.post,V.ref nl]):=IX;generalize IU H2 tp (.tup [V.str x1.hand,V.int x1.post,V.ref nl])=H3 at*;have s13:=s2.trans s3;have o3:=o1.same s13;have new:StAt H3 W ⟨tp,x1.hand,x1.post,nl,x1.ws⟩:=⟨e3,⟨s3 _ _ e2,o3.ws.ok,o3.ws.len⟩,o3.nd,o3.few,o3.name,o3.post⟩;have h13:=s13 _ _ h1;refine⟨h13,hN _ _ _ ⟨⟨_,_,_,rfl⟩,Kw (s.trans s13) hr,IX,ys++[⟨tp,x1.hand,x1.post,nl,x1.ws⟩],by rw[Aq];rfl,?_,λy hy=>?_⟩⟩
    · rw[Aq,h2,CM,e1,Aq];rfl
    · have ol:∀y:Stand,StAt H3 W y→y.l≠r→StAt (IU H3 r (.lst ((ys.map λx=>V.ref x.a)++[V.ref tp]))) W y:=λy h hyr=>by
       have tu:JS H3 (IU H3 r (.lst ((ys.map λx=>V.ref x.a)++[V.ref tp]))):=λz zs e=>by rw[Ji (λq=>by rw[q,h13] at e;cases e)];exact e
       exact⟨tu _ _ h.at',⟨by rw[Ji hyr];exact h.ws.at',λx hx=>⟨(h.ws.ok x hx).1.keep tu,(h.ws.ok x hx).2⟩,h.ws.len⟩,h.nd,h.few,h.name,h.post⟩
      rcases As.mp hy with z | z
      · exact⟨ol y ((h3 y z).1.same s13) (h3 y z).2,(h3 y z).2⟩
      · rw[Ak.mp z];have nn:nl≠r:=λe=>by rw[e,h1] at hnl;cases hnl
        exact⟨ol _ new nn,nn⟩
 · rintro σ' vs H' ⟨_,s,h1,ys,rfl,h2,h3⟩;rw[Ab,Bx] at h2;refine q r ys H' hr s ⟨h1,λy hy=>(h3 y hy).1,?_,?_⟩ h2
   · have:=congrArg (List.map (·.1)) h2;rw[BY,BY] at this;rw[show(ys.map (·.hand))=xs.map (·.hand) from this];exact hx.nd
   · have:=congrArg CP h2;rw[Ab,Ab] at this;omega
theorem zdA(F:Fun K "_law_some_piece" "_law_some_piece" Rx f fd)(Ir:Γ28 P w K mg base):FnOk P w K mg base Jp 2 f fd ["well","names","grid","wide"] (Ww):=by
 refine F.ok HI (λvs H Q E h=>?_) (λcdv A outer s H vs Q E hr h=>?_)
 · obtain⟨b,g,l,a,t,n,lo,sz,wide,fs,rfl,Bg,hn,hN,ht,z1,z2,w1,w2,q⟩:=h;rfl
 obtain⟨b,g,l,a,t,n,lo,sz,wide,fs,rfl,Bg,hn,hN,ht,z1,z2,w1,w2,q⟩:=h;refine⟨_,(IZ (Jk (i:=4) HI.nd rfl (Or.inl rfl) (JM IT))
  (IZ (KH By rfl (JV (pv 1)) (Jn (i:=5) HI.nd rfl (Or.inl rfl)) (Jb (J0 (Jy M0 (Jd Ir (hr.mono (by decide)) rfl (IS (pv 0) (IS IV IT))) IV (Js _)) (IZ (Jk (i:=6) HI.nd rfl (Or.inl rfl) (Jg JE (Jx KO (pv 2) IV (λ_ _=>rfl)) (Jg LM (Jx KO (pv 2) IV (λ_ _=>rfl)) (Jg L6 (Jd Ir (hr.mono (by decide)) rfl (IS (pv 0) (IS (Jg JE (Jg LM IV (pv 3)) IV) IT))) IV))))
  (IZ (Jk (i:=7) HI.nd rfl (Or.inl rfl) (Jd Ir (hr.mono (by decide)) rfl (IS (pv 0) (IS IV IT))))
  (IZ (Jk (i:=8) HI.nd rfl (Or.inl rfl) (Jd Ir (hr.mono (by decide)) rfl (IS (pv 0) (IS (Jx KO (pv 2) IV (λ_ _=>rfl)) IT))))
  (Jb (Kv (KD AQ Bu Bv Lf (pv 4) (IS (JU (IS (pv 5) (IS (Jg JE (pv 6) (Jx JA (JM (IS IV (IS (Jg L6 (Jx KO (pv 2) IV (λ_ _=>rfl)) IV) (IS (pv 8) IT)))) (pv 7) (λ_ _=>rfl))) IT))) IT))))))) Jz)))
  (Jb (Jl (MB Wm rfl B.tuple_ L8 (IS (pv 4) IT)))))),?_⟩
 refine⟨Kq,λr hr'=>?_⟩;obtain⟨rb,rg,rl⟩:=Bg.free hr';have s0:=Jf hr' (.lst []);have e0:(IU H r (.lst [])) r=some (.lst []):=IX;have a0:=s0 _ _ hN.at';have nr:H r=none:=hr';have B0:=Bg.same s0;have t0:=s0 _ _ ht;have ra:r≠a:=λe=>by rw[e,hN.at'] at hr';cases hr'
 have S0:SameB b g H (IU H r (.lst [])):=s0.sameB;generalize IU H r (.lst [])=H0 at*;have fl:=hN.len
 let Pv15:Nat→L2.St→Hp→Prop:=λi σ H'=>(∃y5 y6 y7 y8,σ=[some (.ref b),some (.ref a),some (.ref t),some (.int wide),some (.ref r),y5,y6,y7,y8])∧SameB b g H H'∧Well H' b g l (n+4*(i:Int))∧H' a=some (.lst (fs.map V.str))∧H' t=some (.tup [.int lo,.int sz])∧∃ps:List (Addr×PP),H' r=some (.lst (ps.map λp=>V.ref p.1))∧(∀p∈ps,H' p.1=some (.tup [.str p.2.1,.int p.2.2]))∧(ps.map (·.2.1)).Sublist (fs.take i)
 refine⟨_,rfl,a,rfl,⟨_,SqL.of a0⟩,LO (K:=K) (a:=a) (xs:=fs.map V.str) Pv15 ?_ ?_ ?_ ?_⟩
 · exact⟨⟨none,none,none,none,rfl⟩,S0,B0.mono (by omega),a0,t0,[],e0,λp hp=>(by simp at hp),E5 _⟩
 · rintro i σ H' hi ⟨_,_,_,h,_⟩;exact SqL.of h
 · rintro i x σ H1 hx ⟨⟨y5,y6,y7,y8,rfl⟩,S1,B1,a1,t1,ps,e1,g1,sl⟩;rw[Am] at hx;cases ef:fs[i]? with
   | none=>rw[ef] at hx;cases hx
   | some f=>
    rw[ef] at hx;cases hx;have hif:i<fs.length:=(Au.mp ef).1;have tk:fs.take (i+1)=fs.take i++[f]:=by rw[CM,ef];rfl
    refine J7 ?_;intro σ13;refine⟨_,rfl,b,g,l,_,6,rfl,B1,by omega,by decide,by decide,λk H2 k0 k1 B2 S2=>⟨_,_,rfl,rfl,_,rfl,Jw (λh=>?_) (λh=>?_)⟩⟩
    · have t2:=B1.tup S2 t1;refine⟨_,rfl,t,_,0,_,rfl,rfl,SqT.of t2,rfl,_,rfl,t,_,1,_,rfl,rfl,SqT.of t2,rfl,?_⟩;refine⟨_,rfl,_,rfl,_,_,rfl,rfl,.inl ⟨by decide,by decide⟩,_,_,rfl,rfl,b,g,l,_,_,rfl,B2,by omega,by omega,Ks (by omega),λx H3 x0 x1 B3 S3=>?_⟩;refine⟨_,_,rfl,rfl,_,_,rfl,rfl,.inl ⟨by omega,by omega⟩,_,_,rfl,rfl,?_⟩;refine J7 ?_;intro σ14;refine⟨_,rfl,b,g,l,_,3,rfl,B3,by omega,by decide,by decide,λpk H4 p0 p1 B4 S4=>?_⟩;have t4:=B3.tup S4 (B2.tup S3 t2);refine J7 ?_;intro σ15;refine⟨_,rfl,_,rfl,t,_,1,_,rfl,rfl,SqT.of t4,rfl,b,g,l,_,sz,rfl,B4,by omega,by omega,Int.lt_of_le_of_lt z2 (by decide),λwi H5 wi0 wi1 B5 S5=>?_⟩;have t5:=B4.tup S5 t4;have S15:=S2.trans (S3.trans (S4.trans S5));have e5:=S15 _ _ e1 rb rg;refine J7 ?_;intro σ16;refine⟨_,rfl,.inl ⟨rfl,_,SqL.of e5⟩,?_⟩;refine⟨_,rfl,_,rfl,_,rfl,t,_,1,_,rfl,rfl,SqT.of t5,rfl,_,_,rfl,rfl,_,rfl,Nl,λwl hwl=>?_⟩;have s6:=Jf hwl (.lst [V.int 0,V.int (sz - 1),V.int wi]);have e6:(IU H5 wl (.lst [V.int 0,V.int (sz - 1),V.int wi])) wl=some (.lst [V.int 0,V.int (sz - 1),V.int wi]):=IX;have B6:=B5.same s6;generalize IU H5 wl (.lst [V.int 0,V.int (sz - 1),V.int wi])=H6 at*;obtain⟨vv,hvv⟩:∃vv:Int,JI [V.int 0,V.int (sz - 1),V.int wi] pk=some (.int vv):=by
       have:pk=0∨pk=1∨pk=2:=by omega
       rcases this with rfl | rfl | rfl
       · exact⟨_,rfl⟩
       · exact⟨_,rfl⟩
       · exact⟨_,rfl⟩
      refine⟨_,rfl,wl,_,pk,_,rfl,rfl,SqL.of e6,hvv,_,_,rfl,rfl,JL,λtp htp=>?_⟩;have s7:=Jf htp (.tup [V.str f,V.int (lo+sz*(x - 1)+vv)]);have e7:(IU H6 tp (.tup [V.str f,V.int (lo+sz*(x - 1)+vv)])) tp=some (.tup [V.str f,V.int (lo+sz*(x - 1)+vv)]):=IX;have B7:=B6.same s7;have S67:Same H5 (IU H6 tp (.tup [V.str f,V.int (lo+sz*(x - 1)+vv)])):=s6.trans s7;have S17:=S15.trans S67.sameB;have er:=S67 _ _ e5;have lp:ps.length≤12:=by have:=sl.length_le;rw[Ab,AE] at this;omega
      generalize IU H6 tp (.tup [V.str f,V.int (lo+sz*(x - 1)+vv)])=H7 at*;refine⟨r,_,_,rfl,rfl,er,?_,?_⟩
      · rw[Ab];exact JB (by omega)
      · have tu:JS H7 (IU H7 r (.lst ((ps.map λp=>V.ref p.1)++[V.ref tp]))):=λz zs e=>by
         rw[Ji (λq=>by rw[q,er] at e;cases e)];exact e
        have g7:∀p∈ps,H7 p.1=some (.tup [.str p.2.1,.int p.2.2]):=λp hp=>S67 _ _ (B4.tup S5 (B3.tup S4 (B2.tup S3 (B1.tup S2 (g1 p hp)))));refine⟨⟨_,_,_,_,rfl⟩,(S1.trans S17).off nr,(B7.off rb rg rl).mono (by omega),by rw[Ji ra.symm];exact S17 _ _ a1 hN.nb hN.ng,tu _ _ (S67 _ _ t5),ps++[(tp,f,lo+sz*(x - 1)+vv)],by rw[IX,Aq];rfl,λp hp=>?_,?_⟩
        · rcases As.mp hp with y | y
          · exact tu _ _ (g7 p y)
          · rw[Ak.mp y];exact tu _ _ e7
        · rw[tk,Aq];exact List.Sublist.append sl (E5 _)
    · exact⟨⟨_,_,_,_,rfl⟩,S1.trans S2,B2.mono (by omega),S2 _ _ a1 hN.nb hN.ng,B1.tup S2 t1,ps,S2 _ _ e1 rb rg,λp hp=>B1.tup S2 (g1 p hp),by rw[tk];exact sl.trans (Gb _ _)⟩
 · rintro σ H1 ⟨⟨y5,y6,y7,y8,rfl⟩,S1,B1,a1,t1,ps,e1,g1,sl⟩;rw[Ab,Bx] at sl;refine⟨_,rfl,r,_,rfl,.inl ⟨SqL.of e1,λu hu=>?_⟩⟩;have s2:=Jf hu (.tup (ps.map λp=>V.ref p.1));refine q u (ps.map (·.2)) _ ⟨ps,rfl,IX,λp hp=>s2 _ _ (g1 p hp)⟩ ⟨?_,?_,?_⟩ ((B1.same s2).mono (by rw[Ab];omega)) (S1.trans s2.sameB)
   · have:=sl.length_le;rw[Ab] at this ⊢;omega
   · intro x hx;obtain⟨p,hp,rfl⟩:=Ax.mp hx;exact hN.ok _ (sl.subset (Bs hp))
   · rw[BY];exact hN.asc.sublist sl
theorem zdB(F:Fun K "_law_more_names" "_law_more_names" Pi f fd)(Iu:Γ29 P w K mg base)(Ir:Γ28 P w K mg base):FnOk P w K mg base Jp 3 f fd ["well","names"] (Wu):=by
 refine F.ok HJ (λvs H Q E h=>?_) (λcdv A outer s H vs Q E hr h=>?_)
 · obtain⟨b,g,l,a,n,fs,rfl,Bg,hn,hN,l6,q⟩:=h;rfl
 obtain⟨b,g,l,a,n,fs,rfl,Bg,hn,hN,l6,q⟩:=h;refine⟨_,(IZ (M7 (N':=["k","well"]) (js:=[none,some 0]) (i:=2) HJ.nd rfl (Or.inl rfl) rfl (JN (N:=["well","names","more"]) (outer:=Jh Pi) (by decide+kernel)) (LF rfl B.range_ (IS (Jd Ir (hr.mono (by decide)) rfl (IS (pv 0) (IS IV IT))) IT)) (λ_ _ _ _ _=>(Jn (i:=0) Oc rfl (Or.inl rfl))) (λ_ _ _ _ _=>Ke) (λ_ _ _ _ _=>(Jd Iu (hr.mono (by decide)) rfl (IS (pv 1) (IS IV IT)))))
  (Jb (Jl (ziO rfl (Jg Nu (pv 1) (pv 2)) rfl B.sorted_ rfl B.set_)))),?_⟩
 refine⟨_,rfl,b,g,l,_,3,rfl,Bg,by omega,by decide,by decide,λc H1 c0 c1 B1 S1=>?_⟩;obtain⟨M,rfl⟩:∃M:Nat,c=(M:Int):=⟨c.toNat,by omega⟩;refine⟨_,rfl,(by omega),(by omega),λp hp=>?_⟩;have sp:=Jf hp (.lst []);obtain⟨pb,pg,pl⟩:=B1.free hp;have nf:∀x,H1 x=none→H x=none:=λx hx=>B1.back S1 x hx;refine Mj (lo:=0) (n:=M) (λi σ' ys H'=>(∃v,σ'=[v,some (.ref b)])∧(SameB b g H H'∧Well H' b g l (n+1+12*(i:Int)))∧H' p=some (.lst ys)∧∃ts:List Str,ys=ts.map V.str∧ts.length=i∧∀t∈ts,FieldOk t) ⟨⟨none,rfl⟩,⟨S1.trans sp.sameB,(B1.same sp).mono (by omega)⟩,IX,[],rfl,rfl,λt ht=>by simp at ht⟩ ?_ ?_ ?_
 · rintro i σ' ys H' hi ⟨_,_,h1,L,rfl,h3,h4⟩;exact⟨h1,JB (by rw[Ab];omega)⟩
 · rintro i σ' ys H' N hi ⟨⟨v,rfl⟩,⟨S3,B3⟩,h1,L,rfl,h3,h4⟩ hN;refine⟨_,rfl,b,g,l,_,8,rfl,B3,by omega,by decide,by decide,λx H4 okx B4 S4=>?_⟩;refine⟨S4 _ _ h1 pb pg,hN _ _ _ ⟨⟨_,rfl⟩,⟨(S3.trans S4).off (nf p hp),(B4.off pb pg pl).mono (by omega)⟩,IX,L++[x],by rw[Aq];rfl,by simp;omega,λt ht=>?_⟩⟩;rcases As.mp ht with z | z
   · exact h4 t z
   · rw[Ak.mp z];exact okx
 · rintro σ' ys H' ⟨_,⟨S3,B3⟩,h1,L,rfl,h3,h4⟩;refine J7 ?_;intro σ17;have a3:=S3 _ _ hN.at' hN.nb hN.ng;refine⟨_,rfl,_,rfl,a,p,_,_,rfl,rfl,a3,h1,?_,λu hu=>?_⟩
   · rw[Ab,Ab];exact AM (show fs.length+L.length≤1000 by omega) (by decide)
   · have s4:=Jf hu (.lst (fs.map V.str++L.map V.str));have e4:(IU H' u (.lst (fs.map V.str++L.map V.str))) u=some (.lst ((fs++L).map V.str)):=by rw[IX,Aq]
     have B4:=B3.same s4;have S4:=S3.trans s4.sameB;generalize IU H' u (.lst (fs.map V.str++L.map V.str))=H4 at*;refine⟨u,_,rfl,SqL.of e4,by simp;omega,λz ms nd me le so hz=>?_⟩;have s5:=Jf hz (.lst (ms.map V.str));obtain⟨zb,zg,zl⟩:=B4.free hz;refine q z ms _ (B4.back S4 z hz) ⟨IX,VF so nd,λf hf=>?_,?_,zb,zg⟩ ((B4.same s5).mono (by omega)) (S4.trans s5.sameB)
     · rcases As.mp ((me f).mp hf) with y | y
       · exact hN.ok f y
       · exact h4 f y
     · rw[A5] at le;omega
theorem zdT(F:Fun K "_law_far_piece" "_law_far_piece" R5 f fd)(Ir:Γ28 P w K mg base):FnOk P w K mg base Jp 2 f fd ["well","piece"] (Wc):=by
 refine F.ok HK (λvs H Q E h=>?_) (λcdv A outer s H vs Q E hr h=>?_)
 · obtain⟨b,g,l,c,n,p,rfl,Bg,hn,hp,pok,q⟩:=h;rfl
 obtain⟨b,g,l,c,n,p,rfl,Bg,hn,hp,pok,q⟩:=h;refine⟨_,(IZ (J0 (PW.pt (KE (Jy (Yo (Ml hr)) (pv 1) (JU IT) (Js _)) (KI (Jy M0 (Jd Ir (hr.mono (by decide)) rfl (IS (pv 0) (IS IV IT))) IV (Js _))))) (Jb (Jl (pv 1))) Jz)
  (IZ (Jk (i:=2) HK.nd rfl (Or.inl rfl) (Jd Ir (hr.mono (by decide)) rfl (IS (pv 0) (IS (Jm JK rfl B.len_ J9 (IS (pv 1) IT)) IT))))
  (IZ (Jk (i:=3) HK.nd rfl (Or.inl rfl) (Jx JA (JM (IS (Jg Lb IV IV) (IS (Jg L6 IV (Jg Lb IV IV)) IT))) (Jd Ir (hr.mono (by decide)) rfl (IS (pv 0) (IS IV IT))) (λ_ _=>rfl)))
  (Jb (Jl (Jg PZ (Jg PZ (Lg O7 (pv 1) Ld (Le (pv 2))) (JU (IS (JU (IS (Jx KO (Jx KO (pv 1) (pv 2) (λ_ _=>rfl)) IV (λ_ _=>rfl)) (IS (pv 3) IT))) IT))) (Lg O7 (pv 1) (Le (Jg JE (pv 2) IV)) Ld))))))),?_⟩
 have hp0:=hp;obtain⟨ps,rfl,hA,hP⟩:=hp;have lp:ps.length≤100:=by have:=pok.len;rw[Ab] at this;exact this
 refine L9 (λσ' H'=>σ'=L2.start ["well","piece","at","number"] [V.ref b,V.ref c]∧SameB b g H H'∧Well H' b g l (n+1)∧ps≠[]) (λZ hZ=>?_) ?_
 · refine⟨_,rfl,Kq,λu hu=>?_⟩;have s0:=Jf hu (.tup []);have e0:(IU H u (.tup [])) u=some (.tup []):=IX;generalize IU H u (.tup [])=H0 at*;refine⟨c,u,_,rfl,rfl,s0 _ _ hA,e0,_,rfl,?_⟩;have same:∀H',SameB b g H H'→Well H' b g l (n+1)→Q (.ref c) H':=λH' S B'=>q c _ H' ⟨ps,rfl,Bg.tup S hA,λp hp=>Bg.tup S (hP p hp)⟩ pok (B'.mono (by omega)) S;cases ps with
   | nil=>exact IY (IY ⟨_,rfl,same _ s0.sameB ((Bg.same s0).mono (by omega))⟩)
   | cons p0 pr=>
    refine IW ⟨_,rfl,b,g,l,_,8,rfl,Bg.same s0,by omega,by decide,by decide,λk H1 k0 k1 B1 S1=>⟨_,_,rfl,rfl,_,rfl,Jw (λh=>?_) (λh=>?_)⟩⟩
    · exact⟨_,rfl,same _ (s0.sameB.trans S1) B1⟩
    · exact hZ _ _ ⟨rfl,s0.sameB.trans S1,B1,by simp⟩
 rintro σ' H1 ⟨rfl,S1,B1,pne⟩;have A1:=Bg.tup S1 hA;have P1:∀p∈ps,H1 p.1=some (.tup [.str p.2.1,.int p.2.2]):=λp hp=>Bg.tup S1 (hP p hp);have ppos:0<ps.length:=Hc.mpr pne;refine⟨_,rfl,_,rfl,c,_,rfl,.inr (SqT.of A1),b,g,l,_,_,rfl,B1,by omega,(by rw[Ab];omega),(by rw[Ab];exact Ks (by omega)),λk H2 k0 k1 B2 S2=>?_⟩;obtain⟨k,rfl⟩:∃k':Nat,k=(k':Int):=⟨k.toNat,by omega⟩;rw[Ab] at k1;have hk:k<ps.length:=by omega
 have A2:=B1.tup S2 A1;have P2:∀p∈ps,H2 p.1=some (.tup [.str p.2.1,.int p.2.2]):=λp hp=>B1.tup S2 (P1 p hp);obtain⟨p1,ep⟩:∃p1,ps[k]?=some p1:=⟨ps[k],AK hk⟩;have hat:JI (ps.map λp=>V.ref p.1) (k:Int)=some (V.ref p1.1):=K7 (by rw[Am,ep];rfl);refine J7 ?_;intro σ18;have cp:Pu 10 15:=⟨by decide,by decide,by decide⟩;refine⟨_,_,rfl,rfl,cp,_,_,rfl,rfl,cp,_,_,rfl,rfl,JL,λwl hwl=>?_⟩;dsimp only;generalize(10:Int)^(15:Int).toNat=T at*;have s3:=Jf hwl (.lst [V.int T,V.int (0 - T)]);have e3:(IU H2 wl (.lst [V.int T,V.int (0 - T)])) wl=some (.lst [V.int T,V.int (0 - T)]):=IX;have B3:=B2.same s3;obtain⟨wb,wg,_⟩:=B2.free hwl;generalize IU H2 wl (.lst [V.int T,V.int (0 - T)])=H3 at*;refine⟨_,rfl,b,g,l,_,2,rfl,B3,by omega,by decide,by decide,λm H4 m0 m1 B4 S4=>?_⟩;have e4:=S4 _ _ e3 wb wg;obtain⟨vv,hvv⟩:∃vv:Int,JI [V.int T,V.int (0 - T)] m=some (.int vv):=by
  have:m=0∨m=1:=by omega
  rcases this with rfl | rfl
  · exact⟨_,rfl⟩
  · exact⟨_,rfl⟩
 refine⟨wl,_,m,_,rfl,rfl,SqL.of e4,hvv,?_⟩;refine J7 ?_;intro σ19;have S24:=s3.sameB.trans S4;have A4:=B2.tup S24 A2;have P4:∀p∈ps,H4 p.1=some (.tup [.str p.2.1,.int p.2.2]):=λp hp=>B2.tup S24 (P2 p hp);have S04:=S1.trans (S2.trans S24);refine⟨_,rfl,_,rfl,_,rfl,c,_,rfl,A4,λp5 H5 s5 e5=>?_⟩;rw[Q4 (n:=k) rfl,←EE] at e5;refine⟨_,rfl,_,rfl,c,_,_,_,rfl,rfl,SqT.of (s5 _ _ A4),hat,p1.1,_,0,_,rfl,rfl,SqT.of (s5 _ _ (P4 p1 (Av ep))),rfl,_,rfl,JL,λc1 hc1=>?_⟩;have s6:=Jf hc1 (.tup [V.str p1.2.1,V.int vv]);have e6:(IU H5 c1 (.tup [V.str p1.2.1,V.int vv])) c1=some (.tup [V.str p1.2.1,V.int vv]):=IX;generalize IU H5 c1 (.tup [V.str p1.2.1,V.int vv])=H6 at*;refine⟨Mz,λc2 hc2=>?_⟩;have s7:=Jf hc2 (.tup [V.ref c1]);have e7:(IU H6 c2 (.tup [V.ref c1])) c2=some (.tup [V.ref c1]):=IX;generalize IU H6 c2 (.tup [V.ref c1])=H7 at*;refine⟨p5,c2,_,_,rfl,rfl,s7 _ _ (s6 _ _ e5),e7,(by rw[Ab,AE];exact AM (show min k ps.length+1≤1000 by omega) (by decide)),λd1 H8 s8 e8=>?_⟩;have t7:=s5.trans (s6.trans s7);refine⟨_,rfl,_,rfl,_,_,rfl,rfl,_,rfl,c,_,rfl,s8 _ _ (t7 _ _ A4),λp9 H9 s9 e9=>?_⟩;rw[V5 (n:=k+1) (by omega),←F7] at e9;refine⟨d1,p9,_,_,rfl,rfl,s9 _ _ e8,e9,(by rw[A5,Ab,AE,Ab,Dt];exact AM (show min k ps.length+1+(ps.length - (k+1))≤1000 by omega) (by decide)),λd2 Hx sx ex=>?_⟩;have tx:=t7.trans (s8.trans (s9.trans sx));have ea:((ps.take k).map λp:Addr×PP=>V.ref p.1)++[V.ref c1]++(ps.drop (k+1)).map (λp:Addr×PP=>V.ref p.1)=(ps.take k++[((c1,p1.2.1,vv):Addr×PP)]++ps.drop (k+1)).map λp:Addr×PP=>V.ref p.1:=by simp
 rw[ea] at ex;have flds:(ps.take k++[((c1,p1.2.1,vv):Addr×PP)]++ps.drop (k+1)).map (·.2.1)=ps.map (·.2.1):=by
  have e0:ps=ps.take k++[p1]++ps.drop (k+1):=by have h1:=(GI (k+1) ps).symm;rw[CM,ep] at h1;exact h1
  conv=>rhs;rw[e0]
  simp
 refine q d2 ((ps.take k++[((c1,p1.2.1,vv):Addr×PP)]++ps.drop (k+1)).map (·.2)) Hx ⟨_,rfl,ex,λy hy=>?_⟩ ⟨?_,?_,?_⟩ ((B4.same tx).mono (by omega)) (S04.trans tx.sameB)
 · rcases As.mp hy with y1 | y1
   · rcases As.mp y1 with y2 | y2
     · exact tx _ _ (P4 y (Dr y2))
     · rw[Ak.mp y2];exact sx _ _ (s9 _ _ (s8 _ _ (s7 _ _ e6)))
   · exact tx _ _ (P4 y (GS y1))
 · have:=congrArg CP flds;rw[Ab,Ab] at this;rw[Ab];omega
 · intro x hx;obtain⟨y,hy,rfl⟩:=Ax.mp hx;have m2:y.2.1∈ps.map (·.2.1):=by rw[←flds];exact Bs hy
   obtain⟨z,hz,e⟩:=Ax.mp m2;rw[←e];exact pok.ok z.2 (Bs hz)
 · have:=pok.asc;rw[BY] at this ⊢;rw[show(ps.take k++[((c1,p1.2.1,vv):Addr×PP)]++ps.drop (k+1)).map ((λx:PP=>x.1)∘λx:Addr×PP=>x.2)=ps.map ((λx:PP=>x.1)∘λx:Addr×PP=>x.2) from flds];exact this
theorem zhs(F:Fun K "_law_away" "_law_away" QM f fd)(I0:Γ41 P w K mg base):FnOk P w K mg base Jp 2 f fd ["web","post"] (TC):=by
 refine F.ok HL (λvs H Q E h=>?_) (λcdv A outer s H vs Q E hr h=>?_)
 · obtain⟨a,W,post,rfl,hW,hp,q⟩:=h;rfl
 obtain⟨a,W,post,rfl,hW,hp,q⟩:=h;refine⟨_,(IZ (Jk (i:=2) HL.nd rfl (Or.inl rfl) (JM IT))
  (IZ (Jk (i:=3) HL.nd rfl (Or.inl rfl) (JM (IS (JU (IS (pv 1) (IS (pv 1) IT))) IT)))
  (IZ (Qq By (Jy (Tr (Ml hr)) (pv 3) (JM IT) (Js _)) (IZ (L7 (Tu AQ DJ DK WY (pv 3)) (KZ rfl (J3 (Jn (i:=4) HL.nd rfl (Or.inl rfl)) (J3 (Jn (i:=5) HL.nd rfl (Or.inl rfl)) Ku))))
  (Jb (KH By rfl (JV (Jd I0 (hr.mono (by decide)) rfl (IS (pv 0) (IS (pv 4) IT)))) (Jn (i:=6) HL.nd rfl (Or.inl rfl)) (Jb (J0 (Jy LI (pv 6) (pv 5) (Js _)) (IZ (Kv (KD AQ Bu Bv Lf (pv 2) (IS (JU (IS (pv 4) (IS (pv 6) IT))) IT)))
  (Jb (Kv (KD AQ Bu Bv Lf (pv 3) (IS (JU (IS (pv 6) (IS (pv 4) IT))) IT))))) Jz))))))
  (Jb (Jl (Jm ST.call_sortedP rfl B.sorted_ OE (IS (pv 2) IT))))))),?_⟩
 refine⟨Kq,λf0 hf0=>?_⟩;have s0:=Jf hf0 (.lst []);have ef0:(IU H f0 (.lst [])) f0=some (.lst []):=IX;generalize IU H f0 (.lst [])=H0 at*;refine J7 ?_;intro σ20;refine⟨_,rfl,_,rfl,JL,λt0 ht0=>?_⟩;have s1:=Jf ht0 (.tup [V.int post,V.int post]);have et0:(IU H0 t0 (.tup [V.int post,V.int post])) t0=some (.tup [V.int post,V.int post]):=IX;generalize IU H0 t0 (.tup [V.int post,V.int post])=H1 at*;refine⟨Mz,λa0 ha0=>?_⟩;have s2:=Jf ha0 (.lst [V.ref t0]);have ea0:(IU H1 a0 (.lst [V.ref t0])) a0=some (.lst (([(t0,post,post)]:List ST.P3).map λk=>V.ref k.1)):=IX;have fa:f0≠a0:=JJ (s1 _ _ ef0) ha0;have ha0':H a0=none:=(s0.trans s1).free ha0;generalize IU H1 a0 (.lst [V.ref t0])=H2 at*;refine J7 ?_;intro σ21
 let Pv17:Nat→L2.St→Hp→Prop:=λm σ H'=>∃(y4 y5 y6:Option V)(D:List Int)(ts ks:List ST.P3),σ=[some (.ref a),some (.int post),some (.ref f0),some (.ref a0),y4,y5,y6]∧Same H H'∧H' f0=some (.lst (ks.map λk=>V.ref k.1))∧H' a0=some (.lst (ts.map λk=>V.ref k.1))∧(∀k∈ks,H' k.1=some (.tup [V.int k.2.1,V.int k.2.2]))∧(∀k∈ts,H' k.1=some (.tup [V.int k.2.1,V.int k.2.2]))∧RC.Wk W post D (ts.map (·.2)) (ks.map (·.2))∧m=25 - D.length
 let Pv16:L2.St→Hp→Prop:=λσ H'=>∃(y4 y5 y6:Option V)(D:List Int)(ks:List ST.P3),σ=[some (.ref a),some (.int post),some (.ref f0),some (.ref a0),y4,y5,y6]∧Same H H'∧H' f0=some (.lst (ks.map λk=>V.ref k.1))∧(∀k∈ks,H' k.1=some (.tup [V.int k.2.1,V.int k.2.2]))∧RC.Wk W post D [] (ks.map (·.2))
 refine QV Pv17
  Pv16 ?_ ?_ ?_
 · exact⟨_,none,none,none,[],[(t0,post,post)],[],rfl,s0.trans (s1.trans s2),(s1.trans s2) _ _ ef0,ea0,λk hk=>by simp at hk,λk hk=>by rw[Ak.mp hk];exact s2 _ _ et0,RC.wk_start hp,rfl⟩
 · rintro m σ H3 Z ⟨y4,y5,y6,D,ts,ks,rfl,s3,ef,ea,tk,tt,wk,rfl⟩ hZ;refine⟨_,rfl,Kq,λu hu=>?_⟩;have s4:=Jf hu (.lst []);have eu:(IU H3 u (.lst [])) u=some (.lst []):=IX;generalize IU H3 u (.lst [])=H4 at*;refine⟨a0,u,_,rfl,rfl,s4 _ _ ea,eu,_,rfl,Jw (λh=>?_) (λh=>?_)⟩
   · obtain⟨ts0,z,rfl⟩:∃ts0 z,ts=ts0++[z]:=by
      rcases List.eq_nil_or_concat ts with rfl | ⟨x,y,e⟩
      · simp at h
      · exact⟨x,y,by rw[e];simp⟩
     obtain⟨za,p,sr⟩:=z;have hz:=tt (za,p,sr) (by simp);have few:=RC.wk_few hW.2 wk;have wk':RC.Wk W post D (ts0.map (·.2)++[(p,sr)]) (ks.map (·.2)):=by have:=wk;rw[Aq] at this;exact this
     have pp:WB.Post W p:=wk.posts p (by simp);have step:=RC.wk_step hW.2 hp wk';refine⟨λσ H'=>∃(y4 y5 y6:Option V)(D':List Int)(ts ks:List ST.P3),σ=[some (.ref a),some (.int post),some (.ref f0),some (.ref a0),y4,y5,y6]∧Same H H'∧H' f0=some (.lst (ks.map λk=>V.ref k.1))∧H' a0=some (.lst (ts.map λk=>V.ref k.1))∧(∀k∈ks,H' k.1=some (.tup [V.int k.2.1,V.int k.2.2]))∧(∀k∈ts,H' k.1=some (.tup [V.int k.2.1,V.int k.2.2]))∧RC.Wk W post D' (ts.map (·.2)) (ks.map (·.2))∧25 - D'.length<25 - D.length,?_,?_⟩
     · rintro σ' H' ⟨a1,a2,a3,a4,a5,a6,a7,a8,a9,a10,a11,a12,a13,a14⟩;exact⟨_,a14,a1,a2,a3,a4,a5,a6,a7,a8,a9,a10,a11,a12,a13,rfl⟩
     have e4:=s4 _ _ ea;have lst:((ts0++[(za,p,sr)]).map λk:ST.P3=>V.ref k.1)[((ts0++[(za,p,sr)]).map λk:ST.P3=>V.ref k.1).length - 1]?=some (V.ref za):=by simp
     have dl:((ts0++[(za,p,sr)]).map λk:ST.P3=>V.ref k.1).dropLast=ts0.map λk=>V.ref k.1:=by simp
     refine⟨_,rfl,.inl ⟨rfl,_,SqL.of e4⟩,a0,_,_,rfl,rfl,e4,lst,?_⟩;rw[dl];have na:∀b o,b≠a0→H4 b=some o→(IU H4 a0 (.lst (ts0.map λk=>V.ref k.1))) b=some o:=λb o hb e=>by rw[Ji hb];exact e
     have tne:∀b x y,H4 b=some (.tup [V.int x,V.int y])→b≠a0:=λb x y e z=>by rw[z,e4] at e;cases e
     have s5:Same H (IU H4 a0 (.lst (ts0.map λk=>V.ref k.1))):=Kw (s3.trans s4) ha0';have ea5:(IU H4 a0 (.lst (ts0.map λk=>V.ref k.1))) a0=some (.lst (ts0.map λk=>V.ref k.1)):=IX;have ef5:=na f0 _ fa (s4 _ _ ef);have tk5:∀k∈ks,(IU H4 a0 (.lst (ts0.map λk=>V.ref k.1))) k.1=some (.tup [V.int k.2.1,V.int k.2.2]):=λk hk=>na _ _ (tne _ _ _ (s4 _ _ (tk k hk))) (s4 _ _ (tk k hk));have tt5:∀k∈ts0,(IU H4 a0 (.lst (ts0.map λk=>V.ref k.1))) k.1=some (.tup [V.int k.2.1,V.int k.2.2]):=λk hk=>na _ _ (tne _ _ _ (s4 _ _ (tt k (by simp[hk])))) (s4 _ _ (tt k (by simp[hk])));have hz5:=na za _ (tne _ _ _ (s4 _ _ hz)) (s4 _ _ hz);generalize IU H4 a0 (.lst (ts0.map λk=>V.ref k.1))=H5 at*;refine⟨za,_,rfl,SqT.of hz5,rfl,_,_,rfl,_,_,rfl,rfl,?_⟩;refine⟨_,rfl,_,rfl,a,W,p,rfl,hW.same s5,pp,λln H6 s6 n6 e6=>?_⟩;have nlf:ln≠f0:=(JJ ef5 n6).symm;have nla:ln≠a0:=(JJ ea5 n6).symm
     let Pv18:Nat→L2.St→Hp→Prop:=λj σ H'=>∃(y6:Option V)(ts ks':List ST.P3),σ=[some (.ref a),some (.int post),some (.ref f0),some (.ref a0),some (.int p),some (.int sr),y6]∧Same H H'∧H' ln=some (.lst ((WB.roads W p).map V.int))∧H' f0=some (.lst (ks'.map λk=>V.ref k.1))∧H' a0=some (.lst (ts.map λk=>V.ref k.1))∧(∀k∈ks',H' k.1=some (.tup [V.int k.2.1,V.int k.2.2]))∧(∀k∈ts,H' k.1=some (.tup [V.int k.2.1,V.int k.2.2]))∧ts.map (·.2)=ts0.map (·.2)++(((WB.roads W p).take j).filter λq=>decide (q≠sr)).map (λq=>(q,p))∧ks'.map (·.2)=ks.map (·.2)++(((WB.roads W p).take j).filter λq=>decide (q≠sr)).map (λq=>(p,q))
     refine⟨ln,rfl,⟨_,SqL.of e6⟩,LO (K:=K) (a:=ln) (xs:=(WB.roads W p).map V.int) Pv18 ?_ ?_ ?_ ?_⟩
     · exact⟨_,ts0,ks,rfl,s5.trans s6,e6,s6 _ _ ef5,s6 _ _ ea5,λk hk=>s6 _ _ (tk5 k hk),λk hk=>s6 _ _ (tt5 k hk),by simp,by simp⟩
     · rintro j σ H' _ ⟨_,_,_,_,_,h,_⟩;exact SqL.of h
     · rintro j v σ H7 hv ⟨y6',ts,ks',rfl,s7,e7,ef7,ea7,tk7,tt7,mt,mk⟩;rw[Am] at hv;cases ey:(WB.roads W p)[j]? with
       | none=>rw[ey] at hv;cases hv
       | some y=>
        rw[ey] at hv;obtain rfl:V.int y=v:=AD hv;have tks:=KJ ey;refine⟨_,rfl,_,rfl,rfl,_,rfl,?_⟩;by_cases yp:y=sr
        · rw[decide_eq_true (congrArg V.int yp)];refine IW ⟨_,ts,ks',rfl,s7,e7,ef7,ea7,tk7,tt7,?_,?_⟩
          · rw[mt,tks,BR];simp[yp]
          · rw[mk,tks,BR];simp[yp]
        · rw[decide_eq_false (λz=>yp (by injection z))];have lj:j<(WB.roads W p).length:=(Au.mp ey).1;have lr:(WB.roads W p).length≤24:=WB.nodup_len 24 _ (WB.rise_nodup (WB.roads_rise hW.2 pp)) λx hx=>by
           obtain⟨h1,h2⟩:=(WB.roads_adj hW.2 pp hx).1;have:=hW.2.1;omega
          have lt7:ts.length≤100:=by have:=congrArg CP mt;simp at this few;have h3:=BC (λq=>decide (q≠sr)) ((WB.roads W p).take j);rw[AE] at h3;simp at h3;omega
          have lk0:ks.length≤24:=by have:=(RC.wk_found hW.2 hp wk).2.2;rw[Ab] at this;exact this
          have lk7:ks'.length≤100:=by have:=congrArg CP mk;simp at this;have h3:=BC (λq=>decide (q≠sr)) ((WB.roads W p).take j);rw[AE] at h3;simp at h3;omega
          refine IY ⟨_,rfl,.inl ⟨rfl,_,SqL.of ef7⟩,_,rfl,_,rfl,JL,λt1 ht1=>?_⟩;have s8:=Jf ht1 (.tup [V.int p,V.int y]);have et1:(IU H7 t1 (.tup [V.int p,V.int y])) t1=some (.tup [V.int p,V.int y]):=IX;generalize IU H7 t1 (.tup [V.int p,V.int y])=H8 at*;refine⟨f0,_,_,rfl,rfl,s8 _ _ ef7,(by rw[Ab];exact JB (by omega)),?_⟩;have T9:JS H8 (IU H8 f0 (.lst ((ks'.map λk=>V.ref k.1)++[V.ref t1]))):=λz zs e=>by rw[Ji (λq=>by rw[q,s8 _ _ ef7] at e;cases e)];exact e
          have s9:Same H (IU H8 f0 (.lst ((ks'.map λk=>V.ref k.1)++[V.ref t1]))):=Kw (s7.trans s8) hf0;have ef9:(IU H8 f0 (.lst ((ks'.map λk=>V.ref k.1)++[V.ref t1]))) f0=some (.lst ((ks'++[(t1,p,y)]).map λk=>V.ref k.1)):=by rw[IX,Aq];rfl
          have ea9:(IU H8 f0 (.lst ((ks'.map λk=>V.ref k.1)++[V.ref t1]))) a0=some (.lst (ts.map λk=>V.ref k.1)):=by rw[Ji fa.symm];exact s8 _ _ ea7
          have en9:(IU H8 f0 (.lst ((ks'.map λk=>V.ref k.1)++[V.ref t1]))) ln=some (.lst ((WB.roads W p).map V.int)):=by rw[Ji nlf];exact s8 _ _ e7
          have et9:=T9 _ _ et1;have tk9:=λk hk=>T9 _ _ (s8 _ _ (tk7 k hk));have tt9:=λk hk=>T9 _ _ (s8 _ _ (tt7 k hk));generalize IU H8 f0 (.lst ((ks'.map λk=>V.ref k.1)++[V.ref t1]))=H9 at*;refine⟨_,rfl,.inl ⟨rfl,_,SqL.of ea9⟩,_,rfl,_,rfl,JL,λt2 ht2=>?_⟩;have s10:=Jf ht2 (.tup [V.int y,V.int p]);have et2:(IU H9 t2 (.tup [V.int y,V.int p])) t2=some (.tup [V.int y,V.int p]):=IX;generalize IU H9 t2 (.tup [V.int y,V.int p])=H10 at*;refine⟨a0,_,_,rfl,rfl,s10 _ _ ea9,(by rw[Ab];exact JB (by omega)),?_⟩;have T11:JS H10 (IU H10 a0 (.lst ((ts.map λk=>V.ref k.1)++[V.ref t2]))):=λz zs e=>by rw[Ji (λq=>by rw[q,s10 _ _ ea9] at e;cases e)];exact e
          refine⟨_,ts++[(t2,y,p)],ks'++[(t1,p,y)],rfl,Kw (s9.trans s10) ha0',by rw[Ji nla];exact s10 _ _ en9,by rw[Ji fa];exact s10 _ _ ef9,by rw[IX,Aq];rfl,λk hk=>?_,λk hk=>?_,?_,?_⟩
          · rcases As.mp hk with h | h
            · exact T11 _ _ (s10 _ _ (tk9 k h))
            · rw[Ak.mp h];exact T11 _ _ (s10 _ _ et9)
          · rcases As.mp hk with h | h
            · exact T11 _ _ (s10 _ _ (tt9 k h))
            · rw[Ak.mp h];exact T11 _ _ et2
          · rw[Aq,mt,tks,BR];simp[yp]
          · rw[Aq,mk,tks,BR];simp[yp]
     · rintro σ H7 ⟨y6',ts,ks',rfl,s7,e7,ef7,ea7,tk7,tt7,mt,mk⟩;rw[Ab,Bx] at mt mk;refine⟨_,_,_,D++[p],ts,ks',rfl,s7,ef7,ea7,tk7,tt7,by rw[mt,mk];exact step,?_⟩;simp at few ⊢;omega
   · have:ts=[]:=by
      cases ts with
      | nil=>rfl
      | cons x y=>simp at h
     subst this;exact hZ _ _ ⟨_,_,_,D,ks,rfl,s3.trans s4,s4 _ _ ef,λk hk=>s4 _ _ (tk k hk),wk⟩
 · rintro σ H3 ⟨y4,y5,y6,D,ks,rfl,s3,ef,tk,wk⟩;obtain⟨m1,m2,m3⟩:=RC.wk_end hW.2 hp wk;rw[Ab] at m3;refine⟨_,rfl,f0,ks,rfl,SqL.of ef,tk,by omega,λr qs pm srt hn=>?_⟩;have s5:=Jf hn (.lst (qs.map λq=>V.ref q.1));refine q r qs _ (s3.trans s5) (s3.free hn) ⟨IX,λk hk=>s5 _ _ (tk k (pm.mem_iff.mp hk))⟩ srt ((pm.map _).nodup_iff.mpr m2) (λk=>?_) (by rw[pm.length_eq];exact m3);rw[(pm.map _).mem_iff];exact m1 k.1 k.2
theorem Yn(F:Fun K "law" "law" Me f fd)(ID:Γ27 P w K mg base)(IE:Γ40 P w K mg base)(IB:Γ30 P w K mg base)(IF:Γ32 P w K mg base)(IG:Γ38 P w K mg base)(IH:Γ44 P w K mg base)(II:Γ48 P w K mg base)(Ir:Γ28 P w K mg base)(IJ:Γ49 P w K mg base)(IK:Γ50 P w K mg base)(IL:Γ26 P w K mg base)(IM:Γ47 P w K mg base)(IN:Γ46 P w K mg base)(Iy:Γ37 P w K mg base)(IP:Γ36 P w K mg base)(IQ:Γ45 P w K mg base)(IR:Γ42 P w K mg base):FnOk P w K mg base Jp 12 f fd ["script"] (Ou K):=by
 refine F.ok HM (λvs H Q E h=>?_) (λcdv A outer s H vs Q E hr h=>?_)
 · obtain⟨a,ns,rfl,hS,h63,q⟩:=h;rfl
 obtain⟨a,ns,rfl,hS,h63,q⟩:=h;refine⟨_,(IZ (Jk (i:=1) HM.nd rfl (Or.inl rfl) (Jd ID (hr.mono (by decide)) rfl (IS (pv 0) IT)))
  (IZ (Jk (i:=2) HM.nd rfl (Or.inl rfl) (Jg Qn (Jd Ir (hr.mono (by decide)) rfl (IS (pv 1) (IS IV IT))) IV))
  (IZ (Jk (i:=3) HM.nd rfl (Or.inl rfl) (Jd IE (hr.mono (by decide)) rfl (IS (pv 1) (IS (Jx JA (JM (IS IV (IS IV IT))) (pv 2) (λ_ _=>rfl)) IT))))
  (IZ (Jk (i:=4) HM.nd rfl (Or.inl rfl) (Jd IB (hr.mono (by decide)) rfl (IS (pv 1) (IS (Jx JA (JM (IS IV (IS IV (IS IV IT)))) (Jd Ir (hr.mono (by decide)) rfl (IS (pv 1) (IS IV IT))) (λ_ _=>rfl)) IT))))
  (IZ (Jk (i:=5) HM.nd rfl (Or.inl rfl) (Jd IF (hr.mono (by decide)) rfl (IS (pv 1) IT)))
  (IZ (Jk (i:=6) HM.nd rfl (Or.inl rfl) (Jg JE IV (Jd Ir (hr.mono (by decide)) rfl (IS (pv 1) (IS IV IT)))))
  (IZ (Jk (i:=7) HM.nd rfl (Or.inl rfl) (Jd IG (hr.mono (by decide)) rfl (IS (pv 1) (IS (pv 4) (IS (pv 5) (IS (pv 6) (IS (Jg JE IV (Jd Ir (hr.mono (by decide)) rfl (IS (pv 1) (IS (Jx JA (JM (IS IV (IS IV IT))) (pv 2) (λ_ _=>rfl)) IT)))) IT)))))))
  (IZ (Jk (i:=8) HM.nd rfl (Or.inl rfl) (Jd IH (hr.mono (by decide)) rfl (IS (pv 1) (IS (pv 3) (IS (pv 7) (IS (Jx JA (JM (IS IV (IS IV IT))) (pv 2) (λ_ _=>rfl)) IT))))))
  (IZ (J0 (Jy Kc (Jd Ir (hr.mono (by decide)) rfl (IS (pv 1) (IS IV IT))) IV (Js _)) (Jb (Jk (i:=8) HM.nd rfl (Or.inl rfl) (JM IT))) Jz)
  (IZ (Jk (i:=9) HM.nd rfl (Or.inl rfl) (Jd II (hr.mono (by decide)) rfl (IS (pv 1) (IS (pv 4) IT))))
  (IZ (KH By rfl (LF rfl B.range_ (IS (Jg JE IV (Jm (QG rfl) rfl B.min_ PF (IS (Jx JA (JM (IS IV (IS IV IT))) (pv 2) (λ_ _=>rfl)) (IS (Jm JK rfl B.len_ J9 (IS (pv 0) IT)) IT)))) IT)) (Jn (i:=10) HM.nd rfl (Or.inl rfl)) (IZ (Jk (i:=11) HM.nd rfl (Or.inl rfl) (Jd Ir (hr.mono (by decide)) rfl (IS (pv 1) (IS (Jg JE (Jm JK rfl B.len_ J9 (IS (pv 3) IT)) IV) IT))))
  (IZ (Jk (i:=12) HM.nd rfl (Or.inr rfl) (Jd IJ (hr.mono (by decide)) rfl (IS (pv 1) (IS (Jd IM (hr.mono (by decide)) rfl (IS (pv 1) (IS (pv 9) (IS (pv 5) (IS (pv 6) IT))))) IT))))
  (IZ (Jk (i:=13) HM.nd rfl (Or.inl rfl) (JM IT))
  (IZ (KH By rfl (JV (Jd IK (hr.mono (by decide)) rfl (IS (pv 3) (IS (pv 11) IT)))) (KZ rfl (J3 (Jn (i:=14) HM.nd rfl (Or.inl rfl)) (J3 (Jn (i:=15) HM.nd rfl (Or.inl rfl)) Ku))) (Jb (J0 (JQ (Jm (UB rfl) rfl B.any_ Tb (IS (K6 (N':=["wish","piece"]) (js:=[none,some 12]) rfl (JN (N:=["script","well","large","web","names","grid","wide","pool","stands","own","k","post","piece","due","p","q","handed","found"]) (outer:=Jh Me) (by decide+kernel)) (JV (Jd IQ (hr.mono (by decide)) rfl (IS (pv 8) (IS (Jd IR (hr.mono (by decide)) rfl (IS (pv 3) (IS (pv 14) (IS (pv 15) IT)))) IT)))) (λ_ _ _ _ _=>(Jn (i:=0) Oa rfl (Or.inl rfl))) (λ_ _ _ _ _=>Ke) (λ_ _ _ _ _=>(Jd IP (hr.mono (by decide)) rfl (IS (pv 0) (IS (pv 1) IT))))) IT))) (Jb (Kv (KD AQ Bu Bv Lf (pv 13) (IS (JU (IS (pv 14) (IS (pv 15) IT))) IT)))) Jz)))
  (IZ (Jk (i:=16) HM.nd rfl (Or.inl rfl) (JU (IS (MB Pa rfl B.list_ KN (IS (pv 3) IT)) (IS (Jd IN (hr.mono (by decide)) rfl (IS (pv 8) IT)) IT))))
  (IZ (Jk (i:=17) HM.nd rfl (Or.inl rfl) (Jd IL (hr.mono (by decide)) rfl (IS (Jx KO (pv 16) IV (λ_ _=>rfl)) (IS (Jx KO (pv 16) IV (λ_ _=>rfl)) (IS (pv 11) (IS (pv 12) IT))))))
  (IZ (J0 (Ka (JQ (Jd Iy (hr.mono (by decide)) rfl (IS (pv 17) (IS (pv 13) IT))))) (Jb (Jl J_)) Jz)
  (IZ (Kv (Tu AQ PySem.F.slot_list_clear PySem.F.type_list_clear Z8 (pv 17)))
  (Jb (J0 (Ka (JQ (Jd Iy (hr.mono (by decide)) rfl (IS (pv 16) (IS (JU (IS (pv 3) (IS (pv 8) IT))) IT))))) (Jb (Jl J_)) Jz)))))))))))
  (Jb (Jl J_))))))))))))),?_⟩
 refine LK λZ hZ=>?_;refine⟨_,rfl,a,ns,rfl,hS,h63,λb g l H1 B1 S1 nb ng=>?_⟩;refine hZ _ _ ?_;refine J7 ?_;intro σ22;refine LK λZ hZ=>?_;refine⟨_,rfl,b,g,l,_,8,rfl,B1,by decide,by decide,by decide,λc H2 c0 c1 B2 S2=>⟨_,_,rfl,rfl,⟨by decide,by decide⟩,?_⟩⟩;dsimp only;have lg01:c / 7=0∨c / 7=1:=by omega
 generalize c / 7=lg at lg01;have pair:∀x y:Int,∃z:Int,JI [V.int x,V.int y] lg=some (.int z)∧(z=x∨z=y):=λx y=>by
  rcases lg01 with rfl | rfl
  · exact⟨x,rfl,.inl rfl⟩
  · exact⟨y,rfl,.inr rfl⟩
 refine hZ _ _ ?_;refine J7 ?_;intro σ23;refine LK λZ hZ=>?_;refine⟨_,rfl,JL,λu1 hu1=>?_⟩;have s3:=Jf hu1 (.lst [V.int 10,V.int 24]);have e3:(IU H2 u1 (.lst [V.int 10,V.int 24])) u1=some (.lst [V.int 10,V.int 24]):=IX;have B3:=B2.same s3;generalize IU H2 u1 (.lst [V.int 10,V.int 24])=H3 at*;obtain⟨most,hmost,mo⟩:=pair 10 24;refine⟨_,rfl,u1,_,lg,_,rfl,rfl,SqL.of e3,hmost,b,g,l,_,most,rfl,B3,by decide,by omega,by omega,λwa W H4 nwa hW4 B4 S4=>?_⟩;obtain⟨wb,wg,_⟩:=B3.free nwa;refine hZ _ _ ?_;refine J7 ?_;intro σ24;refine LK λZ hZ=>?_;refine⟨_,rfl,Nl,λu2 hu2=>?_⟩;have s5:=Jf hu2 (.lst [V.int 3,V.int 3,V.int 6]);have e5:(IU H4 u2 (.lst [V.int 3,V.int 3,V.int 6])) u2=some (.lst [V.int 3,V.int 3,V.int 6]):=IX;have B5:=B4.same s5;have hW5:WebAt (IU H4 u2 (.lst [V.int 3,V.int 3,V.int 6])) wa W:=⟨s5 _ _ hW4.1,hW4.2⟩;obtain⟨u2b,u2g,_⟩:=B4.free hu2;generalize IU H4 u2 (.lst [V.int 3,V.int 3,V.int 6])=H5 at*;refine⟨_,rfl,b,g,l,_,3,rfl,B5,by decide,by decide,by decide,λc2 H6 c20 c21 B6 S6=>?_⟩;obtain⟨mf,hmf,mf1,mf6⟩:∃z:Int,JI [V.int 3,V.int 3,V.int 6] c2=some (.int z)∧1≤z∧z≤6:=by
  have:c2=0∨c2=1∨c2=2:=by omega
  rcases this with rfl | rfl | rfl
  · exact⟨3,rfl,by decide,by decide⟩
  · exact⟨3,rfl,by decide,by decide⟩
  · exact⟨6,rfl,by decide,by decide⟩
 have hW6:WebAt H6 wa W:=⟨S6 _ _ hW5.1 wb wg,hW5.2⟩;refine⟨u2,_,c2,_,rfl,rfl,SqL.of (S6 _ _ e5 u2b u2g),hmf,b,g,l,_,mf,rfl,B6,by decide,mf1,by omega,λna fs H7 n7 e7 asc7 ok7 l1 l6 B7 S7=>?_⟩;obtain⟨nab,nag,_⟩:=B6.free n7;have N7:NamesAt H7 b g na fs:=⟨e7,nab,nag,by omega,ok7,asc7⟩;have hW7:WebAt H7 wa W:=⟨S7 _ _ hW6.1 wb wg,hW6.2⟩;refine hZ _ _ ?_;refine J7 ?_;intro σ25;refine LK λZ hZ=>?_;refine⟨_,rfl,b,g,l,_,rfl,B7,by decide,λt lo sz H8 et lo1 lo2 sz1 sz2 B8 S8=>?_⟩;have N8:=N7.sameB S8;have hW8:WebAt H8 wa W:=⟨S8 _ _ hW7.1 wb wg,hW7.2⟩;refine hZ _ _ ?_;refine J7 ?_;intro σ26;refine LK λZ hZ=>?_;refine⟨_,rfl,b,g,l,_,4,rfl,B8,by decide,by decide,by decide,λc3 H9 c30 c31 B9 S9=>⟨_,_,rfl,rfl,?_⟩⟩;have N9:=N8.sameB S9;have hW9:WebAt H9 wa W:=⟨S9 _ _ hW8.1 wb wg,hW8.2⟩;have t9:=B8.tup S9 et;dsimp only;obtain⟨wide,ew,wd1,wd2⟩:∃wide:Int,1+c3=wide∧1≤wide∧wide≤4:=⟨_,rfl,by omega,by omega⟩;rw[ew];refine hZ _ _ ?_;refine J7 ?_;intro σ27;refine LK λZ hZ=>?_;refine⟨_,rfl,_,rfl,_,rfl,_,rfl,_,rfl,JL,λu3 hu3=>?_⟩;have s10:=Jf hu3 (.lst [V.int 8,V.int 60]);have e10:(IU H9 u3 (.lst [V.int 8,V.int 60])) u3=some (.lst [V.int 8,V.int 60]):=IX;have B10:=B9.same s10;have N10:=N9.sameB s10.sameB;have hW10:WebAt (IU H9 u3 (.lst [V.int 8,V.int 60])) wa W:=⟨s10 _ _ hW9.1,hW9.2⟩;have t10:=s10 _ _ t9;generalize IU H9 u3 (.lst [V.int 8,V.int 60])=H10 at*;obtain⟨mp,hmp,mpo⟩:=pair 8 60;refine⟨_,rfl,u3,_,lg,_,rfl,rfl,SqL.of e10,hmp,b,g,l,_,mp,rfl,B10,by decide,by omega,Ks (by omega),λc4 H11 c40 c41 B11 S11=>⟨_,_,rfl,rfl,?_⟩⟩;have N11:=N10.sameB S11;have hW11:WebAt H11 wa W:=⟨S11 _ _ hW10.1 wb wg,hW10.2⟩;have t11:=B10.tup S11 t10;refine⟨b,g,l,na,t,_,lo,sz,wide,2+c4,fs,rfl,B11,by decide,N11,t11,sz1,sz2,wd1,by omega,by omega,by omega,λpa ws H12 n12 W12 lw ndw B12 S12=>?_⟩;obtain⟨pab,pag,_⟩:=B11.free n12;have N12:=N11.sameB S12;have hW12:WebAt H12 wa W:=⟨S12 _ _ hW11.1 wb wg,hW11.2⟩;have t12:=B11.tup S12 t11;refine hZ _ _ ?_;refine J7 ?_;intro σ28;refine LK λZ hZ=>?_;refine⟨_,rfl,_,rfl,_,rfl,JL,λu4 hu4=>?_⟩;have s13:=Jf hu4 (.lst [V.int 8,V.int 30]);have e13:(IU H12 u4 (.lst [V.int 8,V.int 30])) u4=some (.lst [V.int 8,V.int 30]):=IX;have B13:=B12.same s13;have N13:=N12.sameB s13.sameB;have hW13:WebAt (IU H12 u4 (.lst [V.int 8,V.int 30])) wa W:=⟨s13 _ _ hW12.1,hW12.2⟩;have t13:=s13 _ _ t12;have W13:=W12.same s13;generalize IU H12 u4 (.lst [V.int 8,V.int 30])=H13 at*;obtain⟨ms,hms,mso⟩:=pair 8 30;refine⟨_,rfl,u4,_,lg,_,rfl,rfl,SqL.of e13,hms,b,g,l,wa,pa,_,ms,W,ws,rfl,B13,by omega,hW13,wb,wg,W13,pab,pag,ndw,by omega,by omega,by omega,λsa xs H14 n14 X14 fr14 B14 S14=>?_⟩;obtain⟨sab,sag,_⟩:=B13.free n14;have N14:=N13.sameB S14;have hW14:WebAt H14 wa W:=⟨S14 _ _ hW13.1 wb wg,hW13.2⟩;have t14:=B13.tup S14 t13;have lfree:∀x∈xs,x.l≠b∧x.l≠g:=λx hx=>⟨(B13.free (fr14 x hx)).1,(B13.free (fr14 x hx)).2.1⟩;refine hZ _ _ ?_;refine J7 ?_;intro σ29;dsimp only;refine L9 (λσ' H'=>∃(sa:Addr)(xs:List Stand),σ'=[some (.ref a),some (.ref b),some (.int lg),some (.ref wa),some (.ref na),some (.ref t),some (.int wide),some (.ref pa),some (.ref sa),none,none,none,none,none,none,none,none,none]∧StsAt H' W sa xs∧sa≠b∧sa≠g∧(∀x∈xs,x.l≠b∧x.l≠g)∧SameB b g H14 H'∧Well H' b g l 20000) (λZ hZ=>?_) ?_
 · refine⟨_,rfl,b,g,l,_,8,rfl,B14,by omega,by decide,by decide,λc5 H15 c50 c51 B15 S15=>⟨rfl,_,rfl,Jw (λh=>?_) (λh=>?_)⟩⟩
   · refine⟨Kq,λu5 hu5=>?_⟩;have s16:=Jf hu5 (.lst []);obtain⟨ub,ug,_⟩:=B15.free hu5;exact hZ _ _ ⟨u5,[],rfl,⟨IX,λx hx=>(by simp at hx),Fe,by decide⟩,ub,ug,λx hx=>(by simp at hx),S15.trans s16.sameB,(B15.same s16).mono (by omega)⟩
   · exact hZ _ _ ⟨sa,xs,rfl,X14.sameW B14 sab sag lfree S15,sab,sag,lfree,S15,B15.mono (by omega)⟩
 clear X14 fr14 lfree n14 sab sag;have S1e:SameB b g H1 H14:=S2.trans (s3.sameB.trans (S4.trans (s5.sameB.trans (S6.trans (S7.trans (S8.trans (S9.trans (s10.sameB.trans (S11.trans (S12.trans (s13.sameB.trans S14)))))))))));rintro σ' H15 ⟨sa,xs,rfl,X15,sab,sag,lfree,S15,B15⟩;have N15:=N14.sameB S15;have hW15:WebAt H15 wa W:=⟨S15 _ _ hW14.1 wb wg,hW14.2⟩;have t15:=B14.tup S15 t14;refine⟨_,rfl,_,rfl,b,g,l,na,_,fs,rfl,B15,by decide,⟨N15.at',N15.asc,N15.ok,by have:=N15.len;omega,N15.nb,N15.ng⟩,N15.len,λoa os H16 n16 O16 B16 S16=>?_⟩;have X16:=X15.sameW B15 sab sag lfree S16;have hW16:WebAt H16 wa W:=⟨S16 _ _ hW15.1 wb wg,hW15.2⟩;have t16:=B15.tup S16 t15;have S1f:SameB b g H1 H16:=S1e.trans (S15.trans S16);refine J7 ?_;intro σ30;refine⟨JL,λu6 hu6=>?_⟩;have s17:=Jf hu6 (.lst [V.int 12,V.int 4]);have e17:(IU H16 u6 (.lst [V.int 12,V.int 4])) u6=some (.lst [V.int 12,V.int 4]):=IX;have B17:=B16.same s17;have X17:=X16.same s17;have hW17:=hW16.same s17;have O17:=O16.sameB s17.sameB;have t17:=s17 _ _ t16;generalize IU H16 u6 (.lst [V.int 12,V.int 4])=H17 at*;obtain⟨mx,hmx,mxo⟩:=pair 12 4;have S17:=S1f.trans s17.sameB;obtain⟨N,eN,N0,N1⟩:∃N:Int,3+(if((ns.map V.int).length:Int)<mx then((ns.map V.int).length:Int) else mx)=N∧0≤N∧N≤15:=⟨_,rfl,by split<;>omega,by split<;>omega⟩
 let Pv19:Nat→L2.St→Hp→Prop:=λi σ H'=>(∃y10 y11 y12 y13 y14 y15 y16 y17,σ=[some (.ref a),some (.ref b),some (.int lg),some (.ref wa),some (.ref na),some (.ref t),some (.int wide),some (.ref pa),some (.ref sa),some (.ref oa),y10,y11,y12,y13,y14,y15,y16,y17])∧SameB b g H17 H'∧Well H' b g l (20200+200*(i:Int))
 refine⟨_,rfl,u6,_,lg,_,rfl,rfl,SqL.of e17,hmx,_,rfl,a,_,rfl,.inl (Zg hS nb ng S1 S17),_,_,rfl,_,_,rfl,rfl,N,congrArg (λn=>[V.int n]) eN,by omega,by omega,Q6 (lo:=0) (n:=N.toNat) Pv19 ?_ ?_ ?_⟩
 · exact⟨⟨none,none,none,none,none,none,none,none,rfl⟩,λ_ _ h _ _=>h,B17.mono (by omega)⟩
 · rintro i σ H20 hi ⟨⟨y10,y11,y12,y13,y14,y15,y16,y17,rfl⟩,S20,B20⟩;have X20:=X17.sameW B17 sab sag lfree S20;have O20:=O17.sameB S20;have t20:=B17.tup S20 t17;have hW20:WebAt H20 wa W:=⟨S20 _ _ hW17.1 wb wg,hW17.2⟩;refine⟨_,rfl,_,rfl,wa,_,rfl,.inl (SqL.of hW20.1),_,_,rfl,rfl,b,g,l,_,_,rfl,B20,by omega,by omega,Ks (by have:=hW20.2.1;rw[Ab];omega),λpo H21 po0 po1 B21 S21=>?_⟩;have hpo:WB.Post W po:=⟨po0,(by rw[Ab] at po1;show po≤(W.length:Int);omega)⟩;have X21:=X20.sameW B20 sab sag lfree S21;have O21:=O20.sameB S21;have t21:=B20.tup S21 t20;have hW21:WebAt H21 wa W:=⟨S21 _ _ hW20.1 wb wg,hW20.2⟩;refine J7 ?_;intro σ31;refine⟨_,rfl,_,rfl,_,rfl,_,rfl,_,rfl,b,g,l,oa,t,_,lo,sz,wide,os,rfl,B21,by omega,O21,t21,sz1,sz2,wd1,by omega,λpc0 p0 H22 hp22 ok22 B22 S22=>?_⟩;refine⟨b,g,l,pc0,_,p0,rfl,B22,by omega,hp22,ok22,λpc p H23 hp23 ok23 B23 S23=>?_⟩;have S03:=S22.trans S23;have X23:=X21.sameW B21 sab sag lfree S03;have hW23:WebAt H23 wa W:=⟨S03 _ _ hW21.1 wb wg,hW21.2⟩;refine J7 ?_;intro σ32;refine⟨Kq,λdu hdu=>?_⟩;have s24:=Jf hdu (.lst []);have e24:(IU H23 du (.lst [])) du=some (.lst []):=IX;generalize IU H23 du (.lst [])=H24 at*;refine J7 ?_;intro σ33;refine⟨_,rfl,_,rfl,wa,W,po,rfl,hW23.same s24,hpo,λra rk H25 s25 n25 R25 srt25 nd25 mem25 l25=>?_⟩;have dne:du≠ra:=JJ e24 n25;have s235:=s24.trans s25
   let Pv20:Nat→L2.St→Hp→Prop:=λj σ H'=>∃(y14 y15:Option V)(ds:List ST.P3),σ=[some (.ref a),some (.ref b),some (.int lg),some (.ref wa),some (.ref na),some (.ref t),some (.int wide),some (.ref pa),some (.ref sa),some (.ref oa),some (.int (0+(i:Int))),some (.int po),some (.ref pc),some (.ref du),y14,y15,y16,y17]∧Same H23 H'∧RdsAt H' ra rk∧RdsAt H' du ds∧(ds.map (·.2)).Sublist ((rk.take j).map (·.2))∧∀k,k∈ds.map (·.2)↔k∈(rk.take j).map (·.2)∧Kb xs p W k
   refine⟨ra,rfl,⟨_,SqL.of R25.at'⟩,LO (K:=K) (a:=ra) (xs:=rk.map λk=>V.ref k.1) Pv20 ?_ ?_ ?_ ?_⟩
   · exact⟨_,_,[],rfl,s235,R25,⟨s25 _ _ e24,λk hk=>by simp at hk⟩,by simp,by simp⟩
   · rintro j σ H' _ ⟨_,_,_,_,_,h,_⟩;exact SqL.of h.at'
   · rintro j v σ H26 hv ⟨y14,y15,ds,rfl,s26,R26,D26,sl,md⟩;obtain⟨k,ek,rfl⟩:=JR hv;have mk:=Av ek;have tks:=KJ ek;have aw:=(mem25 k.2).mp (Bs mk);have X26:=X23.same s26;have hW26:=hW23.same s26;have p26:=hp23.same s26;refine⟨k.1,_,rfl,SqT.of (R26.ok k mk),rfl,_,_,rfl,_,_,rfl,rfl,?_⟩;refine⟨_,rfl,_,rfl,_,rfl,_,rfl,wa,W,k.2.1,k.2.2,rfl,hW26,aw.1,aw.2.1,WB.adj_roads hW26.2 aw.1 aw.2.1 aw.2.2.1,λF0 F H27 s27 nF eF mF lF=>?_⟩;refine⟨sa,F0,W,xs,F,rfl,X26.same s27,eF,λwl H28 s28 nwl W28=>?_⟩;have ga:=Z4 (xs:=xs) (p:=p) (k:=k.2) mF;have s268:=s27.trans s28;have p28:=p26.same s268;generalize KG (WB.has F) xs=vs at*;refine⟨wl,rfl,⟨_,SqL.of W28.at'⟩,λr2 hr2=>?_⟩;have owl:=W28.len;refine M9 (xs:=vs.map λx=>V.ref x.1) (λi σ' ys H3=>(∃v,σ'=[v,some (.ref pc)])∧Same H28 H3∧H3 r2=some (.lst ys)∧ys=((vs.take i).map λw=>Kg w.2 p).map V.bl) ⟨⟨none,rfl⟩,Jf hr2 _,IX,rfl⟩ ?_ ?_ ?_
     · rintro j σ' ys H3 hi ⟨_,s,h1,h2⟩;refine⟨SqL.of (s _ _ W28.at'),h1,?_⟩;rw[h2,Ab,Ab,AE];exact JB (by omega)
     · rintro j x σ' ys H3 N3 hx ⟨⟨v,rfl⟩,s,h1,h2⟩ hN3;rw[Am] at hx;cases e2:vs[j]? with
       | none=>rw[e2] at hx;cases hx
       | some w1=>
        rw[e2] at hx;cases hx;refine⟨_,rfl,_,rfl,w1.1,pc,w1.2,p,rfl,((W28.ok w1 (Av e2)).1).same s,p28.same s,ok23,λH4 s4=>⟨s4 _ _ h1,hN3 _ _ _ ⟨⟨_,rfl⟩,?_,IX,?_⟩⟩⟩
        · exact Kw (s.trans s4) hr2
        · rw[h2,KJ e2,Aq,Aq];rfl
     · rintro σ' ys' H29 ⟨_,s29,h31,h32⟩;rw[Ab,Bx] at h32;subst h32;refine⟨r2,_,rfl,SqL.of h31,_,rfl,?_⟩;have:(vs.map λw=>Kg w.2 p).any id=vs.any λw=>Kg w.2 p:=by
        rw[Ep];rfl
       rw[this];have s269:=s268.trans s29;have R29:=R26.same s269;have D29:=D26.same s269;have s239:=s26.trans s269;cases cg:vs.any λw=>Kg w.2 p with
       | false=>
        have ng':¬Kb xs p W k.2:=λh=>by rw[ga.mpr h] at cg;cases cg
        refine IW ⟨_,_,ds,rfl,s239,R29,D29,?_,λk'=>?_⟩
        · rw[tks,Aq];exact sl.trans (Gb _ _)
        · rw[md,tks,Aq,As];constructor
          · rintro⟨h1,h2⟩;exact⟨.inl h1,h2⟩
          · rintro⟨h1 | h1,h2⟩
            · exact⟨h1,h2⟩
            · simp at h1;subst h1;exact absurd h2 ng'
       | true=>
        have g':=ga.mp cg;have ldl:ds.length≤24:=by have:=sl.length_le;rw[Ab,Ab,AE] at this;omega
        refine IY ⟨_,rfl,.inl ⟨rfl,_,SqL.of D29.at'⟩,_,rfl,_,rfl,JL,λt1 ht1=>?_⟩;have s30:=Jf ht1 (.tup [V.int k.2.1,V.int k.2.2]);have et1:(IU H29 t1 (.tup [V.int k.2.1,V.int k.2.2])) t1=some (.tup [V.int k.2.1,V.int k.2.2]):=IX;generalize IU H29 t1 (.tup [V.int k.2.1,V.int k.2.2])=H30 at*;have D30:=D29.same s30;have R30:=R29.same s30;refine⟨du,_,_,rfl,rfl,D30.at',(by rw[Ab];exact JB (by omega)),?_⟩;have T31:JS H30 (IU H30 du (.lst ((ds.map λk=>V.ref k.1)++[V.ref t1]))):=λz zs e=>by rw[Ji (λq=>by rw[q,D30.at'] at e;cases e)];exact e
        refine⟨_,_,ds++[(t1,k.2)],rfl,Kw (s239.trans s30) hdu,⟨by rw[Ji dne.symm];exact R30.at',λk' hk'=>T31 _ _ (R30.ok k' hk')⟩,⟨by rw[IX,Aq];rfl,λk' hk'=>?_⟩,?_,λk'=>?_⟩
        · rcases As.mp hk' with h | h
          · exact T31 _ _ (D30.ok k' h)
          · rw[Ak.mp h];exact T31 _ _ et1
        · rw[tks,Aq,Aq];exact sl.append (E5 _)
        · rw[tks,Aq,Aq,As,As,md];constructor
          · rintro(⟨h1,h2⟩ | h1)
            · exact⟨.inl h1,h2⟩
            · refine⟨.inr h1,?_⟩;simp at h1;subst h1;exact g'
          · rintro⟨h1 | h1,h2⟩
            · exact .inl ⟨h1,h2⟩
            · exact .inr h1
   · rintro σ H26 ⟨y14,y15,ds,rfl,s26,R26,D26,sl,md⟩;rw[Ab,Bx] at sl md;have ldl:ds.length≤24:=by
      have:=sl.length_le;rw[Ab,Ab] at this;omega
     have X26:=X23.same s26;have hW26:=hW23.same s26;have p26:=hp23.same s26;dsimp only;refine⟨_,rfl,wa,_,rfl,.inl (SqL.of hW26.1),λlw hlw=>?_⟩;have s27:=Jf hlw (.lst (W.map V.int));have e27:(IU H26 lw (.lst (W.map V.int))) lw=some (.lst (W.map V.int)):=IX;generalize IU H26 lw (.lst (W.map V.int))=H27 at*;refine⟨_,rfl,sa,W,xs,rfl,X26.same s27,λka ks H28 nka s28 K28 ek=>?_⟩;refine⟨JL,λtp htp=>?_⟩;have s29:=Jf htp (.tup [V.ref lw,V.ref ka]);have e29:(IU H28 tp (.tup [V.ref lw,V.ref ka])) tp=some (.tup [V.ref lw,V.ref ka]):=IX;generalize IU H28 tp (.tup [V.ref lw,V.ref ka])=H29 at*;have s269:=s27.trans (s28.trans s29);have L29:WebAt H29 lw W:=⟨(s28.trans s29) _ _ e27,hW26.2⟩;have K29:=K28.same s29;refine J7 ?_;intro σ34;dsimp only;refine LK λZ hZ=>?_;refine⟨_,rfl,tp,_,0,_,rfl,rfl,SqT.of e29,rfl,_,rfl,tp,_,1,_,rfl,rfl,SqT.of e29,rfl,_,rfl,_,rfl,lw,ka,pc,W,ks,po,p,rfl,L29,K29,hpo,p26.same s269,ok23,λgr ms H30 s30 n30 R30 srt30 nd30 mem30=>?_⟩;have eqm:ms.map (·.2)=ds.map (·.2):=by refine zjp srt30 (srt25.sublist sl) nd30 (nd25.sublist sl) λk=>?_;rw[mem30,md,mem25,ZC ek]
     have lms:ms.length≤24:=by have:=congrArg CP eqm;rw[Ab,Ab] at this;omega
     refine hZ _ _ ?_;refine J7 ?_;intro σ35;refine⟨_,rfl,_,rfl,6,by decide,_,_,_,rfl,by decide,U6 R30 lms,(by rw[eqm];exact U6 (D26.same (s269.trans s30)) ldl),⟨ZY _,Ym _⟩,λH31 s31=>⟨_,rfl,IW ?_⟩⟩;have R31:=R30.same s31;refine⟨_,rfl,.inl ⟨rfl,_,SqL.of R31.at'⟩,gr,_,rfl,rfl,R31.at',?_⟩;have s292:=Kw (o:= .lst []) (s30.trans s31) n30;generalize IU H31 gr (.lst [])=H32 at*;have s262:=s269.trans s292;refine⟨_,rfl,_,rfl,_,rfl,JL,λtq htq=>?_⟩;have s33:=Jf htq (.tup [V.ref wa,V.ref sa]);have e33:(IU H32 tq (.tup [V.ref wa,V.ref sa])) tq=some (.tup [V.ref wa,V.ref sa]):=IX;generalize IU H32 tq (.tup [V.ref wa,V.ref sa])=H33 at*;have s293:=s292.trans s33;have s263:=s262.trans s33;refine⟨6,by decide,_,_,KU W (ks.map JH),rfl,by decide,U5 (s293 _ _ e29) (L29.same s293) (K29.same s293),by rw[ek];exact U5 e33 (hW26.same s263) (X26.same s263),⟨Zy _ _,Xe _ _⟩,λH34 s34=>⟨_,rfl,IW ?_⟩⟩;have s234:=s26.trans (s263.trans s34);exact⟨⟨_,_,_,_,_,_,_,_,rfl⟩,S20.trans (S21.trans (S03.trans s234.sameB)),(B23.same s234).mono (by omega)⟩
 · rintro σ H20 ⟨⟨y10,y11,y12,y13,y14,y15,y16,y17,rfl⟩,S20,B20⟩;exact q H20
end
open PySem.W (nsIn mg_of mg_none_of fnOf keepIn codeIn)
abbrev dF(n:Str)(s:Stmt):=fnOf n n (Ln s) (K_ s) (Jh s) .none
theorem Km{K:Ae}{st:Stmt}{f:Addr}{fd:Cc}{p0:Str}(F:Fun K x x st f fd)(h:∀(kV doc pm:Value)(an:Option Addr)(cdv ct u0:Value),bindArgs (fnOf x x (Ln st) (K_ st) (Jh st) .none kV doc pm an cdv ct) ⟨[u0],[]⟩=pure [(p0,u0)]:=by intros;rfl):Binds K fd [p0] []:=
 F.binds λkV doc pm an cdv ct=>lS λu0=>l0 (h kV doc pm an cdv ct u0)
theorem JZ{K:Ae}{st:Stmt}{f:Addr}{fd:Cc}{p0 p1:Str}(F:Fun K x x st f fd)(h:∀(kV doc pm:Value)(an:Option Addr)(cdv ct u0 u1:Value),bindArgs (fnOf x x (Ln st) (K_ st) (Jh st) .none kV doc pm an cdv ct) ⟨[u0,u1],[]⟩=pure [(p0,u0),(p1,u1)]:=by intros;rfl):Binds K fd [p0,p1] []:=
 F.binds λkV doc pm an cdv ct=>lS λu0=>lS λu1=>l0 (h kV doc pm an cdv ct u0 u1)
theorem Pn{K:Ae}{st:Stmt}{f:Addr}{fd:Cc}{p0 p1 p2:Str}(F:Fun K x x st f fd)(h:∀(kV doc pm:Value)(an:Option Addr)(cdv ct u0 u1 u2:Value),bindArgs (fnOf x x (Ln st) (K_ st) (Jh st) .none kV doc pm an cdv ct) ⟨[u0,u1,u2],[]⟩=pure [(p0,u0),(p1,u1),(p2,u2)]:=by intros;rfl):Binds K fd [p0,p1,p2] []:=
 F.binds λkV doc pm an cdv ct=>lS λu0=>lS λu1=>lS λu2=>l0 (h kV doc pm an cdv ct u0 u1 u2)
theorem Pm{K:Ae}{st:Stmt}{f:Addr}{fd:Cc}{p0 p1 p2 p3:Str}(F:Fun K x x st f fd)(h:∀(kV doc pm:Value)(an:Option Addr)(cdv ct u0 u1 u2 u3:Value),bindArgs (fnOf x x (Ln st) (K_ st) (Jh st) .none kV doc pm an cdv ct) ⟨[u0,u1,u2,u3],[]⟩=pure [(p0,u0),(p1,u1),(p2,u2),(p3,u3)]:=by intros;rfl):Binds K fd [p0,p1,p2,p3] []:=
 F.binds λkV doc pm an cdv ct=>lS λu0=>lS λu1=>lS λu2=>lS λu3=>l0 (h kV doc pm an cdv ct u0 u1 u2 u3)
theorem WD{K:Ae}{st:Stmt}{f:Addr}{fd:Cc}{p0 p1 p2 p3 p4:Str}(F:Fun K x x st f fd)(h:∀(kV doc pm:Value)(an:Option Addr)(cdv ct u0 u1 u2 u3 u4:Value),bindArgs (fnOf x x (Ln st) (K_ st) (Jh st) .none kV doc pm an cdv ct) ⟨[u0,u1,u2,u3,u4],[]⟩=pure [(p0,u0),(p1,u1),(p2,u2),(p3,u3),(p4,u4)]:=by intros;rfl):Binds K fd [p0,p1,p2,p3,p4] []:=
 F.binds λkV doc pm an cdv ct=>lS λu0=>lS λu1=>lS λu2=>lS λu3=>lS λu4=>l0 (h kV doc pm an cdv ct u0 u1 u2 u3 u4)
structure KF(K:Ae)(x:Str)(st:Stmt)(f:Addr)(fd:Cc):Prop where
 a:nsIn K AH x=some (some (.ref f))
 F:Fun K x x st f fd
theorem all_mk{l:Gr}{w:World}{K:Ae}{mg:Str→Option Value}{fa f1 f2 f3 f4 f5 f6 f7 f8 f9 f10 f11 f12 f13 f14 f15 f16 f17 f18 f19 f20 f21 f22 f23 f24 f25 f26 f27 f28 f29 f30 f31 f32 f33 f34 f35 f36 f37 f38 f39 f40 f41 f42 f43 f44 f45 f46 f47 f48 f49 f50 f51 f52:Addr}{g1 g2 g3 g4 g5 g6 g7 g8 g9 g10 g11 g12 g13 g14 g15 g16 g17 g18 g19 g20 g21 g22 g23 g24 g25 g26 g27 g28 g29 g30 g31 g32 g33 g34 g35 g36 g37 g38 g39 g40 g41 g42 g43 g44 g45 g46 g47 g48 g49 g50 g51 g52:Cc}(X:K.In h)(G:h.Ns AH mg)(hfa:mg "law"=some (.ref fa))
 (h1:KF K "is_whole" QL f1 g1)
 (h2:KF K "is_end" Qt f2 g2)
 (h3:KF K "is_span" QD f3 g3)
 (h4:KF K "span_holds" Rk f4 g4)
 (h5:KF K "is_field" OV f5 g5)
 (h6:KF K "is_wish_part" Rz f6 g6)
 (h7:KF K "is_piece_part" R1 f7 g7)
 (h8:KF K "fields_ascend" O_ f8 g8)
 (h9:KF K "is_wish" OY f9 g9)
 (h10:KF K "is_piece" OW f10 g10)
 (h11:KF K "check_piece" Rp f11 g11)
 (h12:KF K "are_wishes" Pc f12 g12)
 (h13:KF K "are_unlike_wishes" R7 f13 g13)
 (h14:KF K "wish_takes" Pf f14 g14)
 (h15:KF K "one_takes" OR f15 g15)
 (h16:KF K "is_name" QB f16 g16)
 (h17:KF K "is_web" OI f17 g17)
 (h18:KF K "check_web" Rs f18 g18)
 (h19:KF K "is_post" QC f19 g19)
 (h20:KF K "check_post" Re f20 g20)
 (h21:KF K "way_back" QT f21 g21)
 (h22:KF K "way_between" NF f22 g22)
 (h23:KF K "is_stand" QK f23 g23)
 (h24:KF K "are_stands" NE f24 g24)
 (h25:KF K "check_stands" Ry f25 g25)
 (h26:KF K "roads_between" R6 f26 g26)
 (h27:KF K "roads_crossed" NJ f27 g27)
 (h28:KF K "_law_well" NI f28 g28)
 (h29:KF K "_law_take" QR f29 g29)
 (h30:KF K "_law_name" OX f30 g30)
 (h31:KF K "_law_fields" Rg f31 g31)
 (h32:KF K "_law_base" QN f32 g32)
 (h33:KF K "_law_grid" QO f33 g33)
 (h34:KF K "_law_span" QQ f34 g34)
 (h35:KF K "_law_wish" QS f35 g35)
 (h36:KF K "_law_wishes" Rj f36 g36)
 (h37:KF K "_law_wants" Rt f37 g37)
 (h38:KF K "_law_alike" OQ f38 g38)
 (h39:KF K "_law_pool" QP f39 g39)
 (h40:KF K "_law_picked" Pd f40 g40)
 (h41:KF K "_law_web" OS f41 g41)
 (h42:KF K "_law_near" ON f42 g42)
 (h43:KF K "_law_beyond" Rf f43 g43)
 (h44:KF K "_law_turned" Pe f44 g44)
 (h45:KF K "_law_stands" Rh f45 g45)
 (h46:KF K "_law_wanted" Ri f46 g46)
 (h47:KF K "_law_stands_kept" Ph f47 g47)
 (h48:KF K "_law_some_piece" Rx f48 g48)
 (h49:KF K "_law_more_names" Pi f49 g49)
 (h50:KF K "_law_far_piece" R5 f50 g50)
 (h51:KF K "_law_away" QM f51 g51)
 (h52:KF K "law" Me f52 g52)
 {tML':Tok} (eML':nsIn K AH "MOST_LETTERS"=some (some (.int 8 tML')))
 {tMR':Tok} (eMR':nsIn K AH "MOST_ROADS"=some (some (.int 23 tMR')))
 {tMH':Tok} (eMH':nsIn K AH "MOST_HANDS"=some (some (.int 30 tMH')))
 {tMW':Tok} (eMW':nsIn K AH "MOST_WISHES"=some (some (.int 10 tMW')))
 (z_len:nsIn K AH "len"=some none)
 (z_range:nsIn K AH "range"=some none)
 (z_isinstance:nsIn K AH "isinstance"=some none)
 (z_int:nsIn K AH "int"=some none)
 (z_bool:nsIn K AH "bool"=some none)
 (z_tuple:nsIn K AH "tuple"=some none)
 (z_list:nsIn K AH "list"=some none)
 (z_max:nsIn K AH "max"=some none)
 (z_min:nsIn K AH "min"=some none)
 (z_all:nsIn K AH "all"=some none)
 (z_zip:nsIn K AH "zip"=some none)
 (z_str:nsIn K AH "str"=some none)
 (z_dict:nsIn K AH "dict"=some none)
 (z_sorted:nsIn K AH "sorted"=some none)
 (z_set:nsIn K AH "set"=some none)
 (z_any:nsIn K AH "any"=some none)
 (z_sum:nsIn K AH "sum"=some none)
 (z_enumerate:nsIn K AH "enumerate"=some none)
 (z_repr:nsIn K AH "repr"=some none)
 (z_ord:nsIn K AH "ord"=some none)
 (z_chr:nsIn K AH "chr"=some none)
 (z_abs:nsIn K AH "abs"=some none)
 (z_reversed:nsIn K AH "reversed"=some none)
 :∃fd:Cc,(∀(s:Shared)(v:Value),BindsTo s fd ⟨[v],[]⟩ [("script",v)])∧∀base:Heap,K.In base→base.Ns AH mg→FnOk l.prog w K mg base Jp 12 fa fd ["script"] (Ou K):=by
 have e:=hfa.symm.trans (PySem.W.mg_of X G h52.a);cases e;obtain⟨_,⟨⟨oc,od,kV,dc,pm,an,cd,ct,sl,rfl,l',c'⟩,k'⟩⟩:=h52;have B:Bl mg:=⟨mg_none_of X G z_len,mg_none_of X G z_range,mg_none_of X G z_isinstance,mg_none_of X G z_int,mg_none_of X G z_bool,mg_none_of X G z_tuple,mg_none_of X G z_list,mg_none_of X G z_max,mg_none_of X G z_min,mg_none_of X G z_all,mg_none_of X G z_zip,mg_none_of X G z_str,mg_none_of X G z_dict,mg_none_of X G z_sorted,mg_none_of X G z_set,mg_none_of X G z_any,mg_none_of X G z_sum,mg_none_of X G z_enumerate,mg_none_of X G z_repr,mg_none_of X G z_ord,mg_none_of X G z_chr,mg_none_of X G z_abs,mg_none_of X G z_reversed⟩;refine⟨DB "law" "law" (Ln Me) (K_ Me) (Jh Me) .none kV dc pm an cd ct,λs v=> .of_eq rfl,λbase _ _  =>?_⟩;have QML':=mg_of X G eML';have QMR':=mg_of X G eMR';have QMH':=mg_of X G eMH';have QMW':=mg_of X G eMW';have HN:Γ0 l.prog w K mg base:=⟨_,_,zht B QML' QMR' QMH' QMW' h1.F,Km h1.F,h1.F.2,mg_of X G h1.a⟩;have HP:Γ1 l.prog w K mg base:=⟨_,_,zj6 B QML' QMR' QMH' QMW' h2.F HN,Km h2.F,h2.F.2,mg_of X G h2.a⟩;have HR:Γ2 l.prog w K mg base:=⟨_,_,ziU B QML' QMR' QMH' QMW' h3.F HP,Km h3.F,h3.F.2,mg_of X G h3.a⟩;have HZ:Γ3 l.prog w K mg base:=⟨_,_,zfw B QML' QMR' QMH' QMW' h4.F,JZ h4.F,h4.F.2,mg_of X G h4.a⟩;have HQ:Γ4 l.prog w K mg base:=⟨_,_,zhw B QML' QMR' QMH' QMW' h5.F,Km h5.F,h5.F.2,mg_of X G h5.a⟩;have HU:Γ5 l.prog w K mg base:=⟨_,_,zeo B QML' QMR' QMH' QMW' h6.F HQ HR,Km h6.F,h6.F.2,mg_of X G h6.a⟩;have HV:Γ6 l.prog w K mg base:=⟨_,_,zdU B QML' QMR' QMH' QMW' h7.F HQ HN,Km h7.F,h7.F.2,mg_of X G h7.a⟩;have HS:Γ7 l.prog w K mg base:=⟨_,_,zdV B QML' QMR' QMH' QMW' h8.F,Km h8.F,h8.F.2,mg_of X G h8.a⟩;have HX:Γ8 l.prog w K mg base:=⟨_,_,ziT B QML' QMR' QMH' QMW' h9.F HS HU,Km h9.F,h9.F.2,mg_of X G h9.a⟩;have HW:Γ9 l.prog w K mg base:=⟨_,_,zhv B QML' QMR' QMH' QMW' h10.F HS HV,Km h10.F,h10.F.2,mg_of X G h10.a⟩;have Io:Γ10 l.prog w K mg base:=⟨_,_,zeM B QML' QMR' QMH' QMW' h11.F HW,Km h11.F,h11.F.2,mg_of X G h11.a⟩;have HY:Γ11 l.prog w K mg base:=⟨_,_,zfF B QML' QMR' QMH' QMW' h12.F HX,Km h12.F,h12.F.2,mg_of X G h12.a⟩;have Ig:Γ12 l.prog w K mg base:=⟨_,_,zcI B QML' QMR' QMH' QMW' h13.F HY,Km h13.F,h13.F.2,mg_of X G h13.a⟩;have H_:Γ13 l.prog w K mg base:=⟨_,_,zfv B QML' QMR' QMH' QMW' h14.F HZ,JZ h14.F,h14.F.2,mg_of X G h14.a⟩;have Ip:Γ14 l.prog w K mg base:=⟨_,_,zgt B QML' QMR' QMH' QMW' h15.F H_,JZ h15.F,h15.F.2,mg_of X G h15.a⟩;have Ie:Γ15 l.prog w K mg base:=⟨_,_,ziW B QML' QMR' QMH' QMW' h16.F HQ,Km h16.F,h16.F.2,mg_of X G h16.a⟩;have Ia:Γ16 l.prog w K mg base:=⟨_,_,zj5 B QML' QMR' QMH' QMW' h17.F HN,Km h17.F,h17.F.2,mg_of X G h17.a⟩;have Ii:Γ17 l.prog w K mg base:=⟨_,_,zgw B QML' QMR' QMH' QMW' h18.F Ia,Km h18.F,h18.F.2,mg_of X G h18.a⟩;have Ib:Γ18 l.prog w K mg base:=⟨_,_,ziV B QML' QMR' QMH' QMW' h19.F HN,JZ h19.F,h19.F.2,mg_of X G h19.a⟩;have Im:Γ19 l.prog w K mg base:=⟨_,_,zfE B QML' QMR' QMH' QMW' h20.F Ib,JZ h20.F,h20.F.2,mg_of X G h20.a⟩;have Ic:Γ20 l.prog w K mg base:=⟨_,_,zhi B QML' QMR' QMH' QMW' h21.F,JZ h21.F,h21.F.2,mg_of X G h21.a⟩;have Ik:Γ21 l.prog w K mg base:=⟨_,_,zeL B QML' QMR' QMH' QMW' h22.F Ic,Pn h22.F,h22.F.2,mg_of X G h22.a⟩;have Ih:Γ22 l.prog w K mg base:=⟨_,_,zhu B QML' QMR' QMH' QMW' h23.F Ie Ib Ig,JZ h23.F,h23.F.2,mg_of X G h23.a⟩;have Ij:Γ23 l.prog w K mg base:=⟨_,_,zfG B QML' QMR' QMH' QMW' h24.F Ih,JZ h24.F,h24.F.2,mg_of X G h24.a⟩;have Il:Γ24 l.prog w K mg base:=⟨_,_,zep B QML' QMR' QMH' QMW' h25.F Ii Ij,JZ h25.F,h25.F.2,mg_of X G h25.a⟩;have Iq:Γ25 l.prog w K mg base:=⟨_,_,zdS B QML' QMR' QMH' QMW' h26.F Ik,Pn h26.F,h26.F.2,mg_of X G h26.a⟩;have IL:Γ26 l.prog w K mg base:=⟨_,_,zdR B QML' QMR' QMH' QMW' h27.F Il Im Io Ip Iq,Pm h27.F,h27.F.2,mg_of X G h27.a⟩;have ID:Γ27 l.prog w K mg base:=⟨_,_,zhk B QML' QMR' QMH' QMW' h28.F,Km h28.F,h28.F.2,mg_of X G h28.a⟩;have Ir:Γ28 l.prog w K mg base:=⟨_,_,zhl B QML' QMR' QMH' QMW' h29.F,JZ h29.F,h29.F.2,mg_of X G h29.a⟩;have Iu:Γ29 l.prog w K mg base:=⟨_,_,zhp B QML' QMR' QMH' QMW' h30.F Ir,JZ h30.F,h30.F.2,mg_of X G h30.a⟩;have IB:Γ30 l.prog w K mg base:=⟨_,_,zfC B QML' QMR' QMH' QMW' h31.F Iu Ir,JZ h31.F,h31.F.2,mg_of X G h31.a⟩;have Iv:Γ31 l.prog w K mg base:=⟨_,_,zhr B QML' QMR' QMH' QMW' h32.F Ir,Km h32.F,h32.F.2,mg_of X G h32.a⟩;have IF:Γ32 l.prog w K mg base:=⟨_,_,zhq B QML' QMR' QMH' QMW' h33.F Ir Iv,Km h33.F,h33.F.2,mg_of X G h33.a⟩;have Iw:Γ33 l.prog w K mg base:=⟨_,_,zhm B QML' QMR' QMH' QMW' h34.F Ir,Pn h34.F,h34.F.2,mg_of X G h34.a⟩;have Ix:Γ34 l.prog w K mg base:=⟨_,_,zhj B QML' QMR' QMH' QMW' h35.F Ir Iw,Pm h35.F,h35.F.2,mg_of X G h35.a⟩;have Iz:Γ35 l.prog w K mg base:=⟨_,_,zfx B QML' QMR' QMH' QMW' h36.F Ir Ix,WD h36.F,h36.F.2,mg_of X G h36.a⟩;have IP:Γ36 l.prog w K mg base:=⟨_,_,zgu B QML' QMR' QMH' QMW' h37.F,JZ h37.F,h37.F.2,mg_of X G h37.a⟩;have Iy:Γ37 l.prog w K mg base:=⟨_,_,zgv B QML' QMR' QMH' QMW' h38.F  (PySem.W.mg_of X G h38.a),JZ h38.F,h38.F.2,mg_of X G h38.a⟩
 have IG:Γ38 l.prog w K mg base:=⟨_,_,zhn B QML' QMR' QMH' QMW' h39.F Iz,WD h39.F,h39.F.2,mg_of X G h39.a⟩;have IC:Γ39 l.prog w K mg base:=⟨_,_,zfB B QML' QMR' QMH' QMW' h40.F Ir,JZ h40.F,h40.F.2,mg_of X G h40.a⟩;have IE:Γ40 l.prog w K mg base:=⟨_,_,ziS B QML' QMR' QMH' QMW' h41.F Ir,JZ h41.F,h41.F.2,mg_of X G h41.a⟩;have I0:Γ41 l.prog w K mg base:=⟨_,_,zho B QML' QMR' QMH' QMW' h42.F,JZ h42.F,h42.F.2,mg_of X G h42.a⟩;have IR:Γ42 l.prog w K mg base:=⟨_,_,zfD B QML' QMR' QMH' QMW' h43.F I0,Pn h43.F,h43.F.2,mg_of X G h43.a⟩;have IA:Γ43 l.prog w K mg base:=⟨_,_,zfz B QML' QMR' QMH' QMW' h44.F Ir,JZ h44.F,h44.F.2,mg_of X G h44.a⟩;have IH:Γ44 l.prog w K mg base:=⟨_,_,zfA B QML' QMR' QMH' QMW' h45.F IA IB Ir IC,Pm h45.F,h45.F.2,mg_of X G h45.a⟩;have IQ:Γ45 l.prog w K mg base:=⟨_,_,zfy B QML' QMR' QMH' QMW' h46.F,JZ h46.F,h46.F.2,mg_of X G h46.a⟩;have IN:Γ46 l.prog w K mg base:=⟨_,_,zc8 B QML' QMR' QMH' QMW' h47.F,Km h47.F,h47.F.2,mg_of X G h47.a⟩;have IM:Γ47 l.prog w K mg base:=⟨_,_,zdA B QML' QMR' QMH' QMW' h48.F Ir,Pm h48.F,h48.F.2,mg_of X G h48.a⟩;have II:Γ48 l.prog w K mg base:=⟨_,_,zdB B QML' QMR' QMH' QMW' h49.F Iu Ir,JZ h49.F,h49.F.2,mg_of X G h49.a⟩;have IJ:Γ49 l.prog w K mg base:=⟨_,_,zdT B QML' QMR' QMH' QMW' h50.F Ir,JZ h50.F,h50.F.2,mg_of X G h50.a⟩;have IK:Γ50 l.prog w K mg base:=⟨_,_,zhs B QML' QMR' QMH' QMW' h51.F I0,JZ h51.F,h51.F.2,mg_of X G h51.a⟩;exact Yn B QML' QMR' QMH' QMW' (fun_mk (st:=Me) l' c' k') ID IE IB IF IG IH II Ir IJ IK IL IM IN Iy IP IQ IR
theorem walk{l:Gr}{q:Bw}{loose:List Str}{XP:(Str→Option Value)→Heap→Prop}{YP:World→Heap→Prop}{d:DefRec}{K:Params→Ae}(hn:l.most=some 63)(hdf:d.params.defaults=[])
 (hY:∀(w:World)(h:Heap),YP w h→(K w.params).In h)
 (F:∀(w:World)(mg:Str→Option Value)(fa:Addr)(h:Heap),(K w.params).In h→h.Ns AH mg→mg d.name=some (.ref fa)→
  ∃fd:Cc,(∀(s:Shared)(u:Value),BindsTo s fd ⟨[u],[]⟩ [("script",u)])∧∀base:Heap,(K w.params).In base→base.Ns AH mg→FnOk l.prog w (K w.params) mg base Jp 12 fa fd ["script"] (Ou (K w.params))):
 PySem.W.WalkO q loose XP YP l.row.toRowW d [] (λf vs=>PySem.call f vs):=
 L2.walk_of (n:=63) (k:=12) (x:="script") (CX:=λ_=>Jp) (sp:=λw=>Ou (K w.params)) hn (by decide) hdf ⟨rfl,by decide,by decide,rfl⟩ hY F (λ_ _ a ns hl _ hS=>⟨a,ns,rfl,hS,hl,λ_=>rfl⟩) λ_ _ _ _ _ z=>z
end K62
namespace PySem.W.Fast
theorem tw4712078388135291489:0=0:=rfl
theorem tw150395435888624068:0=0:=rfl
theorem tw8707249526914472135:0=0:=rfl
theorem tw14404682760414851691:0=0:=rfl
theorem tw10760643837264703148:0=0:=rfl
theorem tw4001264830360678092:0=0:=rfl
theorem tw7055680223207098157:0=0:=rfl
theorem tw18095598766925025076:0=0:=rfl
theorem tw16077552319465901815:0=0:=rfl
theorem tw15466357947156511962:0=0:=rfl
theorem tw16967561802638258236:0=0:=rfl
theorem tw6238220751143877664:0=0:=rfl
theorem tw16784967752052450432:0=0:=rfl
theorem tw15597485276154330400:0=0:=rfl
theorem tw11346447517565076768:0=0:=rfl
theorem tw10174264364957427008:0=0:=rfl
theorem tw2845657023952883072:0=0:=rfl
theorem tw7608914906620956064:0=0:=rfl
theorem tw12147310440037785024:0=0:=rfl
theorem tw8885677841401124384:0=0:=rfl
theorem tw16179080992900712096:0=0:=rfl
theorem tw12945679780049185504:0=0:=rfl
theorem tw1355152639889125184:0=0:=rfl
theorem tw7179423921759022912:0=0:=rfl
theorem tw7236761809326461792:0=0:=rfl
theorem tw5217594943789149024:0=0:=rfl
theorem tw16255278959349745536:0=0:=rfl
theorem tw6386830216962758657:0=0:=rfl
theorem tw1363212842358440993:0=0:=rfl
theorem tw2469672865332824193:0=0:=rfl
theorem tw8506210705984872737:0=0:=rfl
theorem tw14445645102292128033:0=0:=rfl
theorem tw10016574154151398817:0=0:=rfl
theorem tw16631397764257913345:0=0:=rfl
theorem tw6089262468732724769:0=0:=rfl
theorem tw8423227295193182913:0=0:=rfl
theorem tw12505948482130136801:0=0:=rfl
theorem tw6825657329565782817:0=0:=rfl
theorem tw13482901799012203393:0=0:=rfl
theorem tw12302786282833866625:0=0:=rfl
theorem tw14031127518843611426:0=0:=rfl
theorem tw13973315822971808066:0=0:=rfl
theorem tw1689653208261282242:0=0:=rfl
theorem tw6419277267531590274:0=0:=rfl
theorem tw13910122378528915170:0=0:=rfl
theorem tw81417224949351459:0=0:=rfl
theorem tw4706036034043882563:0=0:=rfl
theorem tw5321472484161629379:0=0:=rfl
theorem tw4476309335594809731:0=0:=rfl
theorem tw18179685248675638787:0=0:=rfl
theorem tw6032518930325597027:0=0:=rfl
theorem tw15449867319413389155:0=0:=rfl
theorem tw5246275457280004995:0=0:=rfl
theorem tw6160115268118261699:0=0:=rfl
theorem tw2218155758462491780:0=0:=rfl
theorem tw5205589784424989860:0=0:=rfl
theorem tw7957295756248211780:0=0:=rfl
theorem tw7856210444398885540:0=0:=rfl
theorem tw8794316277663398596:0=0:=rfl
theorem tw16078362886234322788:0=0:=rfl
theorem tw13527685945815944197:0=0:=rfl
theorem tw8014253902179387589:0=0:=rfl
theorem tw10843408607444664645:0=0:=rfl
theorem tw8479660025424666213:0=0:=rfl
theorem tw4523041616710614629:0=0:=rfl
theorem tw14134294065107100325:0=0:=rfl
theorem tw5365777665167045349:0=0:=rfl
theorem tw17688080714809367493:0=0:=rfl
theorem tw12553507434175110150:0=0:=rfl
theorem tw1370205984095899750:0=0:=rfl
theorem tw9986265322289313990:0=0:=rfl
theorem tw18120531902210569478:0=0:=rfl
theorem tw489454044116078918:0=0:=rfl
theorem tw10963738757499903302:0=0:=rfl
theorem tw6444330878942880134:0=0:=rfl
theorem tw9678736662653057478:0=0:=rfl
theorem tw13116696738192934374:0=0:=rfl
theorem tw7254889462987445766:0=0:=rfl
theorem tw16652151715199204934:0=0:=rfl
theorem tw12376030588387269190:0=0:=rfl
theorem tw2207118651822406278:0=0:=rfl
theorem tw15763075262002857702:0=0:=rfl
theorem tw4462584059218283270:0=0:=rfl
theorem tw6025641764307705670:0=0:=rfl
theorem tw6293405986183130982:0=0:=rfl
theorem tw6200661969933117318:0=0:=rfl
theorem tw11633338357187108806:0=0:=rfl
theorem tw15188861218671956135:0=0:=rfl
theorem tw11315639120762345671:0=0:=rfl
theorem tw14698427445273206023:0=0:=rfl
theorem tw6656545124000956775:0=0:=rfl
theorem tw15117586392224141671:0=0:=rfl
theorem tw18318907046793495943:0=0:=rfl
theorem tw8569505743987337639:0=0:=rfl
theorem tw8634623270216713735:0=0:=rfl
theorem tw1697297792448273991:0=0:=rfl
theorem tw13210580534208213607:0=0:=rfl
theorem tw3244345942791889799:0=0:=rfl
theorem tw17057291545549818920:0=0:=rfl
theorem tw8122140583706756296:0=0:=rfl
theorem tw6866846524308972776:0=0:=rfl
theorem tw11873133396217430312:0=0:=rfl
theorem tw15173112169917904264:0=0:=rfl
theorem tw1387510117580419528:0=0:=rfl
theorem tw7024384411091659336:0=0:=rfl
theorem tw17020973735107113608:0=0:=rfl
theorem tw13323740791585419048:0=0:=rfl
theorem tw3819343887666361128:0=0:=rfl
theorem tw17351259964260969352:0=0:=rfl
theorem tw13709082930111052776:0=0:=rfl
theorem tw17985533064059733097:0=0:=rfl
theorem tw17501059586709624969:0=0:=rfl
theorem tw7732918934447087849:0=0:=rfl
theorem tw15902731025641937129:0=0:=rfl
theorem tw836286023132356041:0=0:=rfl
theorem tw1372389720208723465:0=0:=rfl
theorem tw10594110714680506953:0=0:=rfl
theorem tw18441200190713955913:0=0:=rfl
theorem tw1130324519626281577:0=0:=rfl
theorem tw15067309212947944169:0=0:=rfl
theorem tw7143943409152642793:0=0:=rfl
theorem tw7945119905097675625:0=0:=rfl
theorem tw9897206612179947401:0=0:=rfl
theorem tw595060741669441513:0=0:=rfl
theorem tw16126933354243795018:0=0:=rfl
theorem tw13976961603599083626:0=0:=rfl
theorem tw2996221242535705770:0=0:=rfl
theorem tw3428210638669280682:0=0:=rfl
theorem tw6111230418775691786:0=0:=rfl
theorem tw12849616149159092778:0=0:=rfl
theorem tw12721862270245641770:0=0:=rfl
theorem tw5844609991119837802:0=0:=rfl
theorem tw17921387425610774122:0=0:=rfl
theorem tw10128575406251101834:0=0:=rfl
theorem tw4149598844153590474:0=0:=rfl
theorem tw1019856537293212426:0=0:=rfl
theorem tw9814716332342912906:0=0:=rfl
theorem tw9087964090935569386:0=0:=rfl
theorem tw4361762147983793227:0=0:=rfl
theorem tw1626333408500039883:0=0:=rfl
theorem tw11362873260438961451:0=0:=rfl
theorem tw17639361759360165195:0=0:=rfl
theorem tw3897245985862850987:0=0:=rfl
theorem tw1520938985560102315:0=0:=rfl
theorem tw16588873647079667179:0=0:=rfl
theorem tw4063233806704464395:0=0:=rfl
theorem tw9796971785666189899:0=0:=rfl
theorem tw5740410694564137579:0=0:=rfl
theorem tw6070213898245450411:0=0:=rfl
theorem tw17613973559502507723:0=0:=rfl
theorem tw17247192653053624075:0=0:=rfl
theorem tw8045207071012511531:0=0:=rfl
theorem tw5171418724262129547:0=0:=rfl
theorem tw9339654795016254443:0=0:=rfl
theorem tw1892279913295806508:0=0:=rfl
theorem tw14555338882980589612:0=0:=rfl
theorem tw16356115030515233836:0=0:=rfl
theorem tw11526396817739084972:0=0:=rfl
theorem tw7965033458679108780:0=0:=rfl
theorem tw5961915023590351052:0=0:=rfl
theorem tw6055923552981113228:0=0:=rfl
theorem tw732501083322535564:0=0:=rfl
theorem tw9988744401556510380:0=0:=rfl
theorem tw12416796768348525228:0=0:=rfl
theorem tw15989622670946557612:0=0:=rfl
theorem tw16524105041320014540:0=0:=rfl
theorem tw10680908156504425228:0=0:=rfl
theorem tw17474879850801513324:0=0:=rfl
theorem tw5056890350819347308:0=0:=rfl
theorem tw10620435183520878476:0=0:=rfl
theorem tw13511041343342192524:0=0:=rfl
theorem tw1853257284638730220:0=0:=rfl
theorem tw1494993996627817517:0=0:=rfl
theorem tw18347373277223423181:0=0:=rfl
theorem tw14531757053187637517:0=0:=rfl
theorem tw7965757794380544301:0=0:=rfl
theorem tw1560827609722288493:0=0:=rfl
theorem tw15911225222086152621:0=0:=rfl
theorem tw15328719585445909997:0=0:=rfl
theorem tw3287568822834904589:0=0:=rfl
theorem tw9531143991482424877:0=0:=rfl
theorem tw10749263786621952589:0=0:=rfl
theorem tw1536715613698421357:0=0:=rfl
theorem tw16163014528187060877:0=0:=rfl
theorem tw10999486562701669133:0=0:=rfl
theorem tw1011578270677948333:0=0:=rfl
theorem tw15404930741426445454:0=0:=rfl
theorem tw4850125192701253870:0=0:=rfl
theorem tw11357929302826918446:0=0:=rfl
theorem tw2072792527949983406:0=0:=rfl
theorem tw14651564093550276302:0=0:=rfl
theorem tw9148385001667510383:0=0:=rfl
theorem tw12001104406177434767:0=0:=rfl
theorem tw3697672751009383631:0=0:=rfl
theorem tw6517331526731681999:0=0:=rfl
theorem tw15250291432758029647:0=0:=rfl
theorem tw1223306540490006863:0=0:=rfl
theorem tw9126810312649193839:0=0:=rfl
theorem tw169300012151268975:0=0:=rfl
theorem tw10485547493077305967:0=0:=rfl
theorem tw15053794250930463439:0=0:=rfl
theorem tw14015503715281842959:0=0:=rfl
theorem tw3510606715758675919:0=0:=rfl
theorem tw3862217680518417359:0=0:=rfl
theorem tw2621062684653991952:0=0:=rfl
theorem tw3345473551993455728:0=0:=rfl
theorem tw7849638717451978160:0=0:=rfl
theorem tw2945212911233793488:0=0:=rfl
theorem tw18391648864750350832:0=0:=rfl
theorem tw18028493001997993456:0=0:=rfl
theorem tw17976754116021668496:0=0:=rfl
theorem tw16412194252247179984:0=0:=rfl
theorem tw2614002660492886800:0=0:=rfl
theorem tw1515580382949521296:0=0:=rfl
theorem tw3418255411122666513:0=0:=rfl
theorem tw13685257045811142705:0=0:=rfl
theorem tw8611487225649646673:0=0:=rfl
theorem tw16559625827315818801:0=0:=rfl
theorem tw52603563647540625:0=0:=rfl
theorem tw7440525392185661873:0=0:=rfl
theorem tw3408670994603524529:0=0:=rfl
theorem tw4198813179962371569:0=0:=rfl
theorem tw15194661223674057393:0=0:=rfl
theorem tw17718788725705374417:0=0:=rfl
theorem tw12693294705075471057:0=0:=rfl
theorem tw12944109108561946481:0=0:=rfl
theorem tw13318375425911551889:0=0:=rfl
theorem tw5989568647238201297:0=0:=rfl
theorem tw2501326549117929490:0=0:=rfl
theorem tw18340339102427645170:0=0:=rfl
theorem tw3773274950316077330:0=0:=rfl
theorem tw13996002239154561458:0=0:=rfl
theorem tw9689200955720054226:0=0:=rfl
theorem tw16673431447771611698:0=0:=rfl
theorem tw6525151599853944466:0=0:=rfl
theorem tw4641376861948105394:0=0:=rfl
theorem tw10138418392502854354:0=0:=rfl
theorem tw6959219293296585650:0=0:=rfl
theorem tw2582747345584701523:0=0:=rfl
theorem tw11685616392966444307:0=0:=rfl
theorem tw17320965424944513395:0=0:=rfl
theorem tw12521507607986787027:0=0:=rfl
theorem tw2081263382160085811:0=0:=rfl
theorem tw4275220217062143859:0=0:=rfl
theorem tw7515078620802390931:0=0:=rfl
theorem tw3239535535720160340:0=0:=rfl
theorem tw2012253644334929076:0=0:=rfl
theorem tw15954431775740667188:0=0:=rfl
theorem tw11685137512293072180:0=0:=rfl
theorem tw9026182841530008148:0=0:=rfl
theorem tw7078568478932659828:0=0:=rfl
theorem tw6806491515038024308:0=0:=rfl
theorem tw7963056355168523988:0=0:=rfl
theorem tw16352231701678516212:0=0:=rfl
theorem tw13044117458180143189:0=0:=rfl
theorem tw7319584507707388149:0=0:=rfl
theorem tw13948282677137979765:0=0:=rfl
theorem tw8175295891262038581:0=0:=rfl
theorem tw2605233131994602133:0=0:=rfl
theorem tw18179153348468324149:0=0:=rfl
theorem tw2569282088160257909:0=0:=rfl
theorem tw9626322395867406229:0=0:=rfl
theorem tw10769297582875170709:0=0:=rfl
theorem tw1831682782158703670:0=0:=rfl
theorem tw12787832581105151062:0=0:=rfl
theorem tw8755818448606093590:0=0:=rfl
theorem tw5100406031793437142:0=0:=rfl
theorem tw13183219036538363382:0=0:=rfl
theorem tw1765124142930950646:0=0:=rfl
theorem tw3653966422166312470:0=0:=rfl
theorem tw5862976217540066934:0=0:=rfl
theorem tw17789983940584686486:0=0:=rfl
theorem tw470311212215716822:0=0:=rfl
theorem tw13747875612240375991:0=0:=rfl
theorem tw18184618618218183191:0=0:=rfl
theorem tw15203809315486293911:0=0:=rfl
theorem tw2178237826254442520:0=0:=rfl
theorem tw16451109326756556824:0=0:=rfl
theorem tw10559052998794370072:0=0:=rfl
theorem tw15902006566587263000:0=0:=rfl
theorem tw9118280824971723864:0=0:=rfl
theorem tw16218038749269428408:0=0:=rfl
theorem tw15681824668084873464:0=0:=rfl
theorem tw4999371759179935000:0=0:=rfl
theorem tw16773748544503661848:0=0:=rfl
theorem tw391656762068816248:0=0:=rfl
theorem tw39377091407425912:0=0:=rfl
theorem tw12663048316629451160:0=0:=rfl
theorem tw3294545859406129592:0=0:=rfl
theorem tw3153814519224810040:0=0:=rfl
theorem tw845856764875946680:0=0:=rfl
theorem tw18059698184696745656:0=0:=rfl
theorem tw13158180443535864504:0=0:=rfl
theorem tw14573132456018246392:0=0:=rfl
theorem tw2346534620903185176:0=0:=rfl
theorem tw3076375398134680472:0=0:=rfl
theorem tw10770850093265849240:0=0:=rfl
theorem tw15567691644998711192:0=0:=rfl
theorem tw6213923822912512984:0=0:=rfl
theorem tw18142900265449664472:0=0:=rfl
theorem tw5954691477877408728:0=0:=rfl
theorem tw12300275158439172121:0=0:=rfl
theorem tw10589128869542869177:0=0:=rfl
theorem tw12650910196098599129:0=0:=rfl
theorem tw10278635484037664025:0=0:=rfl
theorem tw7483126673620007289:0=0:=rfl
theorem tw1644448198090291737:0=0:=rfl
theorem tw3170458444605510233:0=0:=rfl
theorem tw2113893152754309913:0=0:=rfl
theorem tw16343697501319473977:0=0:=rfl
theorem tw5811731248004246361:0=0:=rfl
theorem tw4600398504636326841:0=0:=rfl
theorem tw16621687202216432601:0=0:=rfl
theorem tw422492895829430330:0=0:=rfl
theorem tw5638308443024907418:0=0:=rfl
theorem tw10324531198760006938:0=0:=rfl
theorem tw6522409111389371962:0=0:=rfl
theorem tw17054773417066804986:0=0:=rfl
theorem tw3046480387492197274:0=0:=rfl
theorem tw1379893470656559002:0=0:=rfl
theorem tw18089260621035258778:0=0:=rfl
theorem tw14393244713705056218:0=0:=rfl
theorem tw14300193311739695355:0=0:=rfl
theorem tw2811521282164483323:0=0:=rfl
theorem tw17418001046643824027:0=0:=rfl
theorem tw8422468973988488699:0=0:=rfl
theorem tw15135834878798458459:0=0:=rfl
theorem tw320574983674456987:0=0:=rfl
theorem tw9088906608556990395:0=0:=rfl
theorem tw12655993657141966876:0=0:=rfl
theorem tw12549384201802695836:0=0:=rfl
theorem tw719103476563924252:0=0:=rfl
theorem tw8862835365390768476:0=0:=rfl
theorem tw14205853764913267324:0=0:=rfl
theorem tw10128029520943000348:0=0:=rfl
theorem tw4650991420119187260:0=0:=rfl
theorem tw6493645649003981117:0=0:=rfl
theorem tw15087229169400728893:0=0:=rfl
theorem tw15436570391004609853:0=0:=rfl
theorem tw4319471610072214909:0=0:=rfl
theorem tw11629042396655345053:0=0:=rfl
theorem tw8028434341601996445:0=0:=rfl
theorem tw17738924520897267389:0=0:=rfl
theorem tw10684565147885185757:0=0:=rfl
theorem tw11940140958763740989:0=0:=rfl
theorem tw11018313928347795421:0=0:=rfl
theorem tw10094214575796589565:0=0:=rfl
theorem tw178406422419812478:0=0:=rfl
theorem tw10361546436555336926:0=0:=rfl
theorem tw2873575168409781534:0=0:=rfl
theorem tw4451198093447726494:0=0:=rfl
theorem tw6294416348149110174:0=0:=rfl
theorem tw15231689296257497598:0=0:=rfl
theorem tw7747229725124293118:0=0:=rfl
theorem tw17587965319091273278:0=0:=rfl
theorem tw2511707415826480766:0=0:=rfl
theorem tw10701586180034007774:0=0:=rfl
theorem tw7062101484395122398:0=0:=rfl
theorem tw7717270304604260126:0=0:=rfl
theorem tw7038409264406513566:0=0:=rfl
theorem tw6817406809232501791:0=0:=rfl
theorem tw7028988199210454079:0=0:=rfl
theorem tw10283846092453097663:0=0:=rfl
theorem tw13378311351902188799:0=0:=rfl
theorem tw12514200267568772383:0=0:=rfl
theorem tw11818074209472382271:0=0:=rfl
theorem tw1823325221354056351:0=0:=rfl
theorem tw10678933182187304639:0=0:=rfl
theorem tw14255731556441159423:0=0:=rfl
theorem tw15264058551346379519:0=0:=rfl
theorem tw5446077053014851391:0=0:=rfl
theorem tw2087432388799535935:0=0:=rfl
end PySem.W.Fast
open PySem PySem.W PyProof.Rows
set_option hygiene false in
local macro_rules | `(tactic| walk_at "kF")=> `(tactic| (refine' K62.KF.mk ?a (L2.fun_mk ?l ?c ?k);(case a=>k_is);(case l=>k_is);(case c=>k_is);(case k=>k_is)))
set_option maxRecDepth 100000 in
set_option maxHeartbeats 0 in
theorem PySem.Challenge.cw_newsways_k62_roads_crossed_holds : PySem.Challenge.rw_newsways_k62_roads_crossed.Holds := by
 w_on;o_law;k_head;(case hw=>w_witness2)
 k_fill
 refine K62.walk (l:=PySem.Challenge.rw_newsways_k62_roads_crossed) rfl rfl (λw h Y=>PySem.W.kIn_of Y) ?F
 case F=>
  intro w mg fa h KX G hmg;refine' K62.all_mk KX G hmg ?h1 ?h2 ?h3 ?h4 ?h5 ?h6 ?h7 ?h8 ?h9 ?h10 ?h11 ?h12 ?h13 ?h14 ?h15 ?h16 ?h17 ?h18 ?h19 ?h20 ?h21 ?h22 ?h23 ?h24 ?h25 ?h26 ?h27 ?h28 ?h29 ?h30 ?h31 ?h32 ?h33 ?h34 ?h35 ?h36 ?h37 ?h38 ?h39 ?h40 ?h41 ?h42 ?h43 ?h44 ?h45 ?h46 ?h47 ?h48 ?h49 ?h50 ?h51 ?h52 ?eML' ?eMR' ?eMH' ?eMW'  ?z_len ?z_range ?z_isinstance ?z_int ?z_bool ?z_tuple ?z_list ?z_max ?z_min ?z_all ?z_zip ?z_str ?z_dict ?z_sorted ?z_set ?z_any ?z_sum ?z_enumerate ?z_repr ?z_ord ?z_chr ?z_abs ?z_reversed
  (case h1=>walk_at "kF");(case h2=>walk_at "kF");(case h3=>walk_at "kF");(case h4=>walk_at "kF");(case h5=>walk_at "kF");(case h6=>walk_at "kF");(case h7=>walk_at "kF");(case h8=>walk_at "kF");(case h9=>walk_at "kF");(case h10=>walk_at "kF");(case h11=>walk_at "kF");(case h12=>walk_at "kF");(case h13=>walk_at "kF");(case h14=>walk_at "kF");(case h15=>walk_at "kF");(case h16=>walk_at "kF");(case h17=>walk_at "kF");(case h18=>walk_at "kF");(case h19=>walk_at "kF");(case h20=>walk_at "kF");(case h21=>walk_at "kF");(case h22=>walk_at "kF");(case h23=>walk_at "kF");(case h24=>walk_at "kF");(case h25=>walk_at "kF");(case h26=>walk_at "kF");(case h27=>walk_at "kF");(case h28=>walk_at "kF");(case h29=>walk_at "kF");(case h30=>walk_at "kF");(case h31=>walk_at "kF");(case h32=>walk_at "kF");(case h33=>walk_at "kF");(case h34=>walk_at "kF");(case h35=>walk_at "kF");(case h36=>walk_at "kF");(case h37=>walk_at "kF");(case h38=>walk_at "kF");(case h39=>walk_at "kF");(case h40=>walk_at "kF");(case h41=>walk_at "kF");(case h42=>walk_at "kF");(case h43=>walk_at "kF");(case h44=>walk_at "kF");(case h45=>walk_at "kF");(case h46=>walk_at "kF");(case h47=>walk_at "kF");(case h48=>walk_at "kF");(case h49=>walk_at "kF");(case h50=>walk_at "kF");(case h51=>walk_at "kF");(case h52=>walk_at "kF")
  (case eML'=>k_is);(case eMR'=>k_is);(case eMH'=>k_is);(case eMW'=>k_is)
  (case z_len=>k_is);(case z_range=>k_is);(case z_isinstance=>k_is);(case z_int=>k_is);(case z_bool=>k_is);(case z_tuple=>k_is);(case z_list=>k_is);(case z_max=>k_is);(case z_min=>k_is);(case z_all=>k_is);(case z_zip=>k_is);(case z_str=>k_is);(case z_dict=>k_is);(case z_sorted=>k_is);(case z_set=>k_is);(case z_any=>k_is);(case z_sum=>k_is);(case z_enumerate=>k_is);(case z_repr=>k_is);(case z_ord=>k_is);(case z_chr=>k_is);(case z_abs=>k_is);(case z_reversed=>k_is)
