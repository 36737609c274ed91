import PyProof.Rows.All
import Wide.All
import OpenK.AllK
import Wide.FinOn
import Lean
import PyProof.EqAt
import PyProof.EqKinds
import PyProof.TupleCall
import PyProof.NeKinds
import KE.IntBitsLaws
import PyProof.StrWalks
import PyProof.FString5
import PyProof.ConsumeWalk
import PyProof.DictCompW
import PyProof.ZipIter
import PyProof.EnumMake
import KE.KRevIter
import PyProof.AttrMissHeap
import PyProof.ListNew
import PyProof.DictUpdate
import PyProof.Rows.SetFrom
import KE.KRevSl
import PyProof.FitsBits
import PyProof.Rows.SortStr
import PyProof.StrBlockL
import PyProof.JoinWalk
import PyProof.Rows.StrMeet
import PyProof.DictWalks
import KE.KSortTup
import KE.KSortKey
import PyProof.StationsW
import PyProof.RulesAs
import OpenK.KRaise
import PyProof.ExcInit
import PyProof.ExcBaseAll.ValueError
import PyProof.PassesOwn
import PyProof.NsDelKeeps
import PyProof.Rows.Catch
import PyProof.FString
import PyProof.Rows.FStr
import PyProof.ExcArgs
import PyProof.ExcAttrAll.ValueError
import PyProof.Rows.SortWalk
import PyProof.ListRange
import PyProof.ReprRoads
import PyProof.ReprText
import PyProof.CallFns
import KE.KEqDict
import PyProof.AutoListH
import PyProof.SliceStr2
import PyProof.StrOps2
import PyProof.Rows.StrMadeLen
import PyProof.StrLawsIn
import PyProof.TupleKey
import PyProof.DictRoadsH
import PySem.Challenge.RW_newsways_k14_the_lean_list_by_trial
open Array renaming length_toList → A9, getElem?_eq_getElem → Bi, getElem?_toList → Cq, getElem?_eq_none → Dw, getElem_toList → ED, getD_eq_getD_getElem? → Fe, forIn_toList → Fg, size_append → Fx, toList_push → F8, getD → FE
open Bool renaming false_ne_true → Au, and_eq_true → AF, false_eq_true → AR, eq_iff_iff → Bm, not_true → CI, not_eq_true' → Dx, eq_false_iff → Dz, and_true → Ew, true_and → Ex, and_false → ES, not_false → G5
open False renaming elim → Dg
open Int renaming toNat_natCast → AZ, emod_lt_of_pos → Ce, emod_nonneg → C1, le_refl → EZ, mul_nonneg → G6, mul_le_mul → G8
open List renaming length_map → Ab, getElem?_map → Af, mem_of_getElem? → Ag, mem_append_right → Ai, mem_singleton → Aj, getElem?_eq_getElem → Al, getElem?_eq_some_iff → An, mem_cons_self → Ao, map_append → Aq, mem_cons_of_mem → As, size_toArray → Av, mem_cons → Aw, map_cons → Ax, mem_map_of_mem → Az, take_of_length_le → A0, mem_append → A3, length_append → A6, length_cons → AA, mem_map → AB, length_take → AE, getD_eq_getElem?_getD → AS, length_filter_le → AX, take_length → Bd, length → Be, not_mem_nil → Bs, drop_eq_getElem_cons → Bu, mem_append_left → Bw, map_map → Bx, replicate → By, Nodup → BD, map_nil → BH, filter_cons → BL, filter_append → BM, range → BU, pairwise_cons → BV, mem_of_mem_take → BW, nodup_cons → Cm, length_replicate → Cp, lookup_cons → Ct, find?_cons → Cz, all_cons → C5, any_eq_true → C7, all_eq_true → C8, mem_flatMap → C9, getElem?_eq_none → CB, replicate_succ' → CD, any_cons → CG, mem_range → CK, getElem_map → CN, find?_eq_none → CW, mem_filter → Da, append_assoc → Dc, length_range → Df, pairwise_iff_getElem → Dj, mem_of_find?_eq_some → Dk, length_eq_zero_iff → Dp, append_nil → Du, flatMap_cons → Dy, length_drop → D6, filterMap_cons → DE, map_congr_left → DF, getElem_of_mem → DG, all_append → DM, mem_filterMap → DQ, map_replicate → DW, lt_irrefl → D_, all_eq_false → Eh, foldl_append → Ej, drop_of_length_le → Eo, find?_cons_of_neg → Ep, length_pos_of_mem → Er, filter_eq_nil_iff → Es, map_take → Ey, getElem_mem → Ez, length_singleton → E1, take_append_drop → E6, find?_some → EC, mem_of_mem_drop → EF, length_reverse → EM, toList_toArray → EO, flatMap_append → EQ, drop_zero → EU, nodup_nil → EV, take_sublist_take_left → Fh, getElem?_append_right → Fj, find?_append → F6, nodup_append → F9, getElem?_append_left → FC, any_map → FR, length_erase_of_mem → FT, isEmpty_iff → FU, all_nil → FV, of_mem_zip → Gc, forIn_cons → Ge, foldl_cons → Gg, getElem?_set_self → Gi, range_succ_eq_map → Gp, drop_eq_nil_of_le → Gu, forIn_nil → G1, getElem?_toArray → G3, eq_nil_or_concat → G7, getElem?_set_ne → GA, getElem?_of_mem → GF, length_eraseIdx → GG, mem_erase_of_ne → GI
open List.Sublist renaming refl → Ek
open List.cons renaming injEq → EE
open Nat renaming le_refl → Ah, ne_of_lt → Ar, le_trans → AD, lt_of_lt_of_le → AG, zero_le → AK, lt_of_le_of_lt → Bn, le_of_lt → Bv, lt_trans → BY, ne_of_gt → C2, lt_succ_self → C6, le_succ → CS, lt_or_ge → CV, lt_succ_of_lt → De, lt_irrefl → Ds, le_add_right → D7, not_lt_zero → DK, pow_le_pow_right → GJ, add_le_add_left → GO
open Ne renaming symm → BI
open Option renaming map_some → EA, isSome → Fp, isSome_map → Fy, isSome_iff_exists → FI, getD_none → FJ, map_eq_none_iff → Gv, some_ne_none → GR
open Option.some renaming inj → A4, injEq → F7
open PyProof.Rows renaming seqObj → Bo, slot_tuple_getitem → BR, callWith_type1 → Cc, callWith_builtin1 → E8, entry_list_sort → Gh, subscriptTail_builtinR → Gk, slot_list_sort → G4
open PySem renaming wpAny_bind → Aa, wpAny_pure → Ac, sizeLine → Ay, wpAny_mono → A5, wpAny_loadPart' → AC, wpAny_call_entry → AH, mainGlobals → AJ, starEach → AL, wpAny_newObj_type → AM, wpAny_holding → AN, wpAny_callSpecial?_slot → AU, wpAny_seqItems → AW, wpAny_field → AY, foldedSetIterable → Bc, codeAny_builtin → Bf, bootBuiltins → Bh, plainId_quiet → Bj, wpAny_truthy_bool → Bk, Program → Bp, wpAny_standAt → Bz, wpAny_rule → BA, sysModules → BC, Around → BE, compareOp → BF, wpAny_setField → BJ, wpAny_setField_rec → BN, letOwnedTupleGo → BO, FuncData → BP, wpAny_richCompare_same_room → BQ, wpAny_updateSeq → Cb, cellsFrom → Cd, wpAny_isInstance → Cf, codeAny_mono → Cg, wpAny_letGo → Ch, wpAny_tryCatch → Ci, compStart → Cj, wpAny_setState_of → Ck, wpAny_specialOf → Cn, wpAny_Call_Name_kw → Cr, wpAny_comprehension_free → Cu, SetTable → Cw, wpAny_typeOf → C3, wpAny_pyIter_tuple → CA, wpAny_dictEntries → CF, wpAny_attempt → CH, wpAny_typeNameOfWhole_keyiter → CJ, wpAny_forIn_list → CP, codeAny_call_builtin → Di, wpAny_askSetting → Dm, wpAny_typeNameOf_keyiter → Dn, mem_of_lookup → Do, wpAny_of_eq → Dv, wpAny_callSpecialIfBoundUnlessNone?_slot → DA, wpAny_passesOwn → DH, wpAny_dictEpoch → DL, codeAny_loop → DT, wpAny_pyIter_list → Ed, wpAny_noted → Em, wpAny_notOrdered_dict → E4, wpAny_call → E7, wpAny_updateSeq_pair → EB, wpAny_setEntries_of → EN, wpAny_newTuple → ET, wpAny_fieldsOf → EW, wpAny_tupleItemsOf → Ff, wpAny_handled → Fn, wpAny_onRaise → Fo, wpAny_newList → Fq, wpAny_assign_Name → Ft, wpAny_sequenceKey → Fv, slot_list_getitem → Fw, wpAny_pyIter_slot → FB, wpAny_getItem_list_slice → FK, entryFor_of_tree → FO, wpAny_pyNext_tuple_item → FW, wpAny_execs_nil → Gb, codeAny_of_tree → Gf, wpAny_pyNext_tuple_end → Gj, codeAny_compStart_list → Go, codeAny_compStart_dict → Gq, wpAny_throw → Gr, wpAny_listPart → G0
open PySem.Around renaming under_plainId → AO, in1_units → Bq
open PySem.AutoSeq1 renaming sub_list_list → En, sub_tuple_tuple → FQ
open PySem.Builtin renaming sorted → FP
open PySem.Builtin.Builtins renaming bindParams → CT
open PySem.Builtin.Dict renaming showsAll → E5, dictSlotArgs → FH, updateFrom → FZ, samePairs → Gw
open PySem.Builtin.Dict_items renaming ownsTuple → EY
open PySem.Builtin.Int renaming intBits → EL
open PySem.Builtin.List renaming listSameRef → Cs, listLengthHint → CY, listExtendWith → CZ, listSubscript? → E_, listAllItems → FD, listTooLong → FL
open PySem.Builtin.Slice renaming slicePlaces → Dh, sliceAdjust → DI, sliceApplied → Fl
open PySem.Builtin.SmallTypes renaming nextOf → A_, ownedTupleIsFree → BK, ownedTupleHandOut → Cv
open PySem.Builtin.Str renaming strSliceIndices → Ba, occurrences → Ec
open PySem.Builtin.Tuple renaming tupleCompareSizes → CC, tupleExact → Dl, tupleItemsOf → DB, tupleHashOf → DN
open PySem.Calls renaming spliced_cons → DR, Name_function_global → Fi, spliced_nil → Fu, call_function_entry → FG, callWith_builtin → Gm, evalArgs_plain → GE
open PySem.F renaming slot_tuple_iterator_next → Br, plainAttrs_list → BS, slot_dict_keyiterator_next → BX, slot_list_append → BZ, type_list_append → B_, args_tuple_iterator_next_1 → Cy, entry_tuple_iterator_next → C4, plain_max_loop → CL, plain_min_loop → CM, slot_enumerate_next → C_, slot_NoneType_hash → Db, plain_list_iadd → Dq, slot_tuple_hash → Dr, slot_zip_next → D3, slot_tuple_eq → D5, args_tuple_add_2 → DS, args_dict_keyiterator_next_1 → DV, entry_dict_keyiterator_next → Ea, entry_tuple_add → Eb, slot_tuple_add → El, slot_dict_get → E2, args_enumerate_next_1 → EG, entry_enumerate_next → EX, entry_proto_collect → Fc, plain_proto_collect → Fd, plain_extend_loop → FF, entry_max_loop → FM, entry_min_loop → FN, args_dict_get_3 → FX, args_zip_next_1 → FY, entry_list_iadd → F_, entry_dict_get → Gn, entry_zip_next → Gs, slot_dict_iter → Gx, slot_set_iter → G2, slot_dict_eq → GH
open PySem.Heap renaming get?_push_of_some → Ad, get?_push_size → Ak, lt_size → Am, get?_update_other → AT, get?_update_self → Bb, SameBut → Bt, size_push → BB, ExtBut → DC, get?_none_of_le → G9, get?_update_ne → GQ
open PySem.Heap.IsTuple renaming push → F0
open PySem.Heap.SameBut renaming update → AQ
open PySem.Manifest renaming signature? → GP
open PySem.Obj renaming mapSeq → AI, data_mapFields → CU, mapFields → Dt, isFreed_of_fields → E3, cls_mapFields → Fz
open PySem.Paired renaming length → Eu
open PySem.PassesOwn renaming never → AV
open PySem.SeqAt renaming EqAt → DZ
open PySem.SeqAt.EqAt renaming same → DJ, int_str → DO, str_int → DP, none_int → EH, none_str → EI, int_none → EJ, str_none → EK, none_bool → GB, bool_none → GC, bool_bool → GD, bool_int → GK, bool_str → GL, int_bool → GM, str_bool → GN
open PySem.SeqAt.RcAt renaming lists_lengths → DU
open PySem.SeqAt.RcNeAt renaming lists_lengths → Fm
open PySem.SetTable renaming grown → CO, below → D4
open PySem.Str renaming ofString → BG
open PySem.Value renaming isStrOf_shape → DD, isStrOf → Et
open PySem.W renaming Frag → Ae, kia_one → Ca, kia_tup → Co, cellsFrom_some → CQ, fnOf → D0, kitx_list → Ef, kitx_dict → Eg, keepIn → ER, methodObj → Fs, instObj → Ga, OpenLaw → Gd, lookIn → Gy, codeIn → Gz
open PySem.W.KFB renaming if_not → Fb
variable{s:PySem.Shared}{w:PySem.World}{A:PySem.Around}{E:PySem.Value→PySem.Shared→Prop}{pins:List (PySem.Addr×PySem.Obj)}{prog:PySem.Program}{pos:PySem.Pos}{h:PySem.Heap}{a:PySem.Addr}{b:PySem.Addr}{i:Nat}{n:Nat}{us:List PySem.Value}{P:PySem.Program}{u:PySem.Value}{e:PySem.Expr}{scope:PySem.Scope}
open PySem PySem.Spec PyProof.Rows
set_option Elab.async false
set_option linter.all false
set_option maxRecDepth 100000
namespace L2
noncomputable abbrev IV:=Sum Int Str
noncomputable def MG:IV→Value→Bool
 | .inl k,v=>Value.isInt k v
 | .inr x,v=>Et x v
noncomputable def Sr(w:World):IV→Int
 | .inl k=>hashInt k
 | .inr x=>hashStr w x
theorem Md:∀{k:IV}{v:Value},MG k v=true→(∃i t,k=Sum.inl i∧v=Value.int i t)∨(∃x t,k=Sum.inr x∧v=Value.str x t)
 | .inl i,v,h=>by obtain⟨t,e⟩:=Value.isInt_shape (k:=i) (v:=v) h;exact .inl ⟨i,t,rfl,e⟩
 | .inr x,v,h=>by obtain⟨t,e⟩:=DD (x:=x) (v:=v) h;exact .inr ⟨x,t,rfl,e⟩
theorem VI(i:Int)(t:Tok):MG (.inl i) (.int i t)=true:=by simp[MG,Value.isInt]
theorem VJ(x:Str)(t:Tok):MG (.inr x) (.str x t)=true:=by simp[MG,Et]
theorem Yc(a b:Int):decide ((Sum.inl a:IV)=Sum.inl b)=(a==b):=by
 by_cases e:a=b
 · subst e;simp
 · have h:¬(Sum.inl a:IV)=Sum.inl b:=λq=>e (Sum.inl.inj q);rw[decide_eq_false h];exact(beq_eq_false_iff_ne.mpr e).symm
theorem XA(a b:Str):decide ((Sum.inr a:IV)=Sum.inr b)=decide (a=b):=by
 by_cases e:a=b
 · subst e;simp
 · have h:¬(Sum.inr a:IV)=Sum.inr b:=λq=>e (Sum.inr.inj q);rw[decide_eq_false h,decide_eq_false e]
theorem X8(a:Int)(b:Str):decide ((Sum.inl a:IV)=Sum.inr b)=false:=decide_eq_false (λq=>nomatch q)
theorem X9(a:Str)(b:Int):decide ((Sum.inr a:IV)=Sum.inl b)=false:=decide_eq_false (λq=>nomatch q)
noncomputable def JW(prog:Bp)(w:World):PySem.KeyKind prog w IV where
 is:=MG
 hash:=Sr w
 inj:=λv a b ha hb=>by
  rcases Md ha with⟨i,t,rfl,rfl⟩ | ⟨x,t,rfl,rfl⟩
  · rcases Md hb with⟨j,u,rfl,e⟩ | ⟨y,u,rfl,e⟩
    · injection e with e1 _;rw[e1]
    · exact nomatch e
  · rcases Md hb with⟨j,u,rfl,e⟩ | ⟨y,u,rfl,e⟩
    · exact nomatch e
    · injection e with e1 _;rw[e1]
 byValue:=λk v h=>by rcases Md h with⟨i,t,rfl,rfl⟩ | ⟨x,t,rfl,rfl⟩<;>rfl
 pyHash:=λhv h=>by
  rcases Md hv with⟨i,t,rfl,rfl⟩ | ⟨x,t,rfl,rfl⟩
  · exact wpAny_pyHash_int h
  · exact wpAny_pyHash_str h
 eqBool:=λhu hv h=>by
  rcases Md hu with⟨i,t,rfl,rfl⟩ | ⟨x,t,rfl,rfl⟩
  · rcases Md hv with⟨j,u,rfl,rfl⟩ | ⟨y,u,rfl,rfl⟩
    · rw[Yc] at h;exact wpAny_eqBool_int h
    · rw[X8] at h;exact DO i t y u _ _ _ _ h
  · rcases Md hv with⟨j,u,rfl,rfl⟩ | ⟨y,u,rfl,rfl⟩
    · rw[X9] at h;exact DP x t j u _ _ _ _ h
    · rw[XA] at h;exact wpAny_eqBool_str h
 «strs»:=λk x t v h=>by
  rcases Md h with⟨i,u,rfl,e⟩ | ⟨y,u,rfl,e⟩
  · exact nomatch e
  · injection e with e1 _
    subst e1;cases v<;>rfl
theorem zjx(prog:Bp)(w:World)(k:IV)(v:Value):(JW prog w).is k v=MG k v:=rfl
theorem zhT(prog:Bp)(w:World)(i:Int)(t:Tok):(JW prog w).is (.inl i) (.int i t)=true:=VI i t
theorem zhS(prog:Bp)(w:World)(x:Str)(t:Tok):(JW prog w).is (.inr x) (.str x t)=true:=VJ x t
inductive V where
 | non | bl (b:Bool) | int (i:Int) | str (x:Str) | byt (b:Array UInt8) | flt (b:UInt64) | ref (a:Addr) | ty (n:String)
 deriving DecidableEq
noncomputable def RelV:V→Value→Prop
 | .non,u=>u=Value.none
 | .bl b,u=>u=Value.bool b
 | .int i,u=>∃t,u=Value.int i t
 | .str x,u=>∃t,u=Value.str x t
 | .byt b,u=>∃t,u=Value.bytes b t
 | .flt b,u=>∃t,u=Value.float b t
 | .ref a,u=>u=Value.ref a
 | .ty n,u=>u=Value.type n
noncomputable abbrev Vals:List V→List Value→Prop:=Paired RelV
theorem Vals.length{xs:List V}(r:Vals xs us):xs.length=us.length:=Eu r
theorem Vals.get:∀{xs:List V}{us:List Value}{i:Nat}{x:V},Vals xs us→xs[i]?=some x→∃u,us[i]?=some u∧RelV x u
 | _,_,_,_,.nil,e=>by simp at e
 | _,_,0,_,.cons r _,e=>by simp at e;subst e;exact⟨_,rfl,r⟩
 | _,_,i+1,x,.cons _ t,e=>by obtain⟨u,h1,h2⟩:=Vals.get (i:=i) (x:=x) t (by simpa using e);exact⟨u,by simpa using h1,h2⟩
theorem Vals.set{x:V}(r:RelV x u):∀{xs:List V}{us:List Value}(i:Nat),Vals xs us→Vals (xs.set i x) (us.set i u)
 | _,_,_,.nil=> .nil
 | _,_,0,.cons _ t=> .cons r t
 | _,_,i+1,.cons q t=> .cons q (Vals.set r i t)
theorem Vals.append:∀{xs ys:List V}{us ws:List Value},Vals xs us→Vals ys ws→Vals (xs++ys) (us++ws)
 | _,_,_,_,.nil,s=>s
 | _,_,_,_,.cons r t,s=> .cons r (Vals.append t s)
theorem Vals.take:∀{xs:List V}{us:List Value}(n:Nat),Vals xs us→Vals (xs.take n) (us.take n)
 | _,_,0,_=> .nil
 | _,_,_+1,.nil=> .nil
 | _,_,n+1,.cons r t=> .cons r (Vals.take n t)
theorem Vals.drop:∀{xs:List V}{us:List Value}(n:Nat),Vals xs us→Vals (xs.drop n) (us.drop n)
 | _,_,0,r=>r
 | _,_,_+1,.nil=> .nil
 | _,_,n+1,.cons _ t=>Vals.drop n t
noncomputable def RelO:Option V→Option Value→Prop
 | some v,some u=>RelV v u
 | none,none=>True
 | _,_=>False
noncomputable def KV{κ:Type}:List (κ×V)→List (κ×Value)→Prop:=Paired λ(p:κ×V)(q:κ×Value)=>p.1=q.1∧RelV p.2 q.2
noncomputable def kV:IV→V
 | .inl i=> .int i
 | .inr x=> .str x
inductive HO where
 | lst (xs:List V)
 | tup (xs:List V)
 | dK (kvs:List (IV×V)) | dT (kvs:List (List IV×V))
 | set (S:Int→Bool) (n:Nat)
 | ins (C dx:Addr) (fs:List (Str×V))
 | own (x:Addr)
 | xd (fs:List (Str×V))
 | met (f x:Addr)
 | rng (lo hi:Int)
 | frz (o:Obj) (u:HO)
 | tbl (ps:Array Value)
 | ext (φ:Heap→Prop)
noncomputable def IsTupP(h:Heap)(a:Addr)(items:Array Value):Prop:=∃o,h.get? a=some o∧o.cls= .type "tuple"∧o.dict=none∧∃n,o.data= .seq items n
theorem IsTupP.tup{items:Array Value}(x:IsTupP h a items):IsTup h a items:=let⟨o,h1,h2,_,h3⟩:=x;⟨o,h1,h2,h3⟩
theorem IsTupP.new(h:Heap)(items:Array Value):IsTupP (h.push {cls:= .type "tuple",data:= .seq items}) h.objs.size items:=⟨_,Ak _ rfl,rfl,rfl,_,rfl⟩
noncomputable abbrev Hp:=Addr→Option HO
noncomputable def IC(H:Hp)(a:Addr)(o:HO):Hp:=λb=>if b=a then some o else H b
theorem IE{H:Hp}{o:HO}:IC H a o a=some o:=by unfold IC;rw[if_pos rfl]
theorem IZ{H:Hp}{o:HO}(h:b≠a):IC H a o b=H b:=by unfold IC;rw[if_neg h]
theorem Yj{H:Hp}{o u:HO}:IC (IC H a o) a u=IC H a u:=by funext b;unfold IC;split<;>rfl
theorem LD{H:Hp}{o u:HO}(h:H a=some o)(h':H b=some u)(d:o≠u):a≠b:=by intro e;subst e;rw[h] at h';exact d (A4 h')
theorem JY{H:Hp}{o:HO}(h:H a=some o)(h':H b=none):a≠b:=by intro e;subst e;rw[h] at h';cases h'
section
variable(P:Bp)(w:World)
noncomputable def ObjOk(H:Hp)(h:Heap)(a:Addr):HO→Prop
 | .lst xs=>xs.length≤Ay∧∃(its:List Value)(n:Nat),Vals xs its∧h.get? a=some {cls:= .type "list",data:= .seq its.toArray n}
 | .tup xs=>xs.length≤Ay∧∃its:List Value,Vals xs its∧IsTupP h a its.toArray
 | .dK kvs=>kvs.length≤Ay∧(a==BC)=false∧∃vs,KV kvs vs∧h.DictOf (JW P w) a vs
 | .dT kvs=>kvs.length≤Ay∧(a==BC)=false∧∃xs:List (List IV×Addr×Value),
  Paired (λ(p:List IV×V)(q:List IV×Addr×Value)=>p.1=q.1∧H q.2.1=some (.tup (p.1.map kV))∧RelV p.2 q.2.2) kvs xs∧
  ∃o es ep,h.get? a=some o∧o.ExactDict∧o.data= .dict es ep∧es.toList=xs.map (entryOfKey (tupleKind (JW P w)))∧(xs.map (·.1)).Nodup
 | .set S n=>h.SetOf (intKind P w) a S n
 | .ins C dx fs=>H dx=some (.own a)∧fs.length≤1000∧dx≠a∧h.get? a=some (Ga C dx)∧
  ∃mA,h.Ns1 dx mA∧(∀f,RelO (fs.lookup f) (mA f))∧PySem.Within mA (fs.map (·.1))
 | .own _=>∃o,h.get? a=some o
 | .xd fs=>∃mA,h.Ns1 a mA∧∀f,RelO (fs.lookup f) (mA f)
 | .rng lo hi=>∃t u v,h.get? a=some {cls:= .type "range",data:= .fields #[.int lo t,.int hi u,.int 1 v]}
 | .frz o u=>h.get? a=some o∧ObjOk H h a u
 | .tbl ps=>h.get? a=some {cls:= .none,data:= .fields ps}
 | .met f x=>h.get? a=some (Fs (.ref f) (.ref x))
 | .ext φ=>φ h∧(∃o,h.get? a=some o)∧∀h1 h2:Heap,φ h1→(∀o,h1.get? a=some o→h2.get? a=some o)→φ h2
noncomputable def HOk(H:Hp)(h:Heap):Prop:=∀a o,H a=some o→ObjOk P w H h a o
end
section
variable{H H':Hp}{h':Heap}{o:HO}
theorem ObjOk.lt(x:ObjOk P w H h a o):a<h.objs.size:=by
 cases o with
 | lst xs=>obtain⟨_,_,_,_,e⟩:=x;exact Am e
 | tup xs=>obtain⟨_,_,_,p⟩:=x;exact(show IsTupP _ _ _ from p).tup.lt
 | dK kvs=>obtain⟨_,_,_,_,o,_,_,e,_⟩:=x;exact Am e
 | dT kvs=>obtain⟨_,_,_,_,o,_,_,e,_⟩:=x;exact Am e
 | set S n=>obtain⟨o,_,_,_,e,_⟩:=x;exact Am e
 | ins C dx fs=>obtain⟨_,_,_,e,_⟩:=x;exact Am e
 | own y=>obtain⟨_,e⟩:=x;exact Am e
 | xd fs=>obtain⟨_,⟨_,_,_,e,_⟩,_⟩:=x;exact Am e
 | rng lo hi=>obtain⟨_,_,_,e⟩:=x;exact Am e
 | frz ob u=>obtain⟨e,_⟩:=x;exact Am e
 | tbl ps=>exact Am (show h.get? a=some _ from x)
 | met f y=>exact Am (show h.get? a=some _ from x)
 | ext φ=>obtain⟨_,⟨_,e⟩,_⟩:=x;exact Am e
theorem Paired.mapP{α β:Type}{F G:α→β→Prop}:∀{l₁:List α}{l₂:List β},Paired F l₁ l₂→(∀a b,F a b→G a b)→Paired G l₁ l₂
 | _,_,.nil,_=> .nil
 | _,_,.cons r t,f=> .cons (f _ _ r) (Paired.mapP t f)
theorem ObjOk.stay(x:ObjOk P w H h a o)(k:∀b u,(b=a∨H b=some (.own a))→h.get? b=some u→h'.get? b=some u)
 (ho:∀b,H b=some (.own a)→H' b=some (.own a)) (ht:∀b xs,H b=some (.tup xs)→H' b=some (.tup xs)):ObjOk P w H' h' a o:=by
 induction o with
 | lst xs=>obtain⟨z,its,n,r,e⟩:=x;exact⟨z,its,n,r,k _ _ (.inl rfl) e⟩
 | tup xs=>obtain⟨z,its,r,ob,e,c⟩:=x;exact⟨z,its,r,ob,k _ _ (.inl rfl) e,c⟩
 | dK kvs=>obtain⟨z,y,vs,r,ob,es,ep,e,c⟩:=x;exact⟨z,y,vs,r,ob,es,ep,k _ _ (.inl rfl) e,c⟩
 | dT kvs=> obtain⟨z,y,xs,r,ob,es,ep,e,c⟩:=x;exact⟨z,y,xs,Paired.mapP r λp q z=>⟨z.1,ht _ _ z.2.1,z.2.2⟩,ob,es,ep,k _ _ (.inl rfl) e,c⟩
 | set S n=>obtain⟨ob,es,ep,t,e,c⟩:=x;exact⟨ob,es,ep,t,k _ _ (.inl rfl) e,c⟩
 | ins C dx fs=> obtain⟨d,z,ne,e,mA,⟨od,es,ep,e2,c⟩,r⟩:=x;exact⟨ho _ d,z,ne,k _ _ (.inl rfl) e,mA,⟨od,es,ep,k _ _ (.inr d) e2,c⟩,r⟩
 | own y=>obtain⟨ob,e⟩:=x;exact⟨ob,k _ _ (.inl rfl) e⟩
 | xd fs=>obtain⟨mA,⟨od,es,ep,e,c⟩,r⟩:=x;exact⟨mA,⟨od,es,ep,k _ _ (.inl rfl) e,c⟩,r⟩
 | rng lo hi=>obtain⟨t,u,v,e⟩:=x;exact⟨t,u,v,k _ _ (.inl rfl) e⟩
 | frz ob u ih=>obtain⟨e,q⟩:=x;exact⟨k _ _ (.inl rfl) e,ih q⟩
 | tbl ps=> have e:h.get? a=some {cls:= .none,data:= .fields ps}:=x;show h'.get? a=some {cls:= .none,data:= .fields ps};exact k a _ (.inl rfl) e
 | met f y=> have e:h.get? a=some (Fs (.ref f) (.ref y)):=x;show h'.get? a=some (Fs (.ref f) (.ref y));exact k a _ (.inl rfl) e
 | ext φ=>obtain⟨p,⟨o,e⟩,st⟩:=x;exact⟨st _ _ p λo q=>k _ _ (.inl rfl) q,⟨o,k _ _ (.inl rfl) e⟩,st⟩
theorem HOk.lt(x:HOk P w H h)(e:H a=some o):a<h.objs.size:=(x a o e).lt
theorem HOk.fresh(x:HOk P w H h)(e:h.objs.size≤a):H a=none:=by
 cases q:H a with
 | none=>rfl
 | some u=>exact absurd (AG (x.lt q) e) (Ds _)
theorem HOk.kept(x:HOk P w H h)(k:∀b u,h.get? b=some u→h'.get? b=some u):HOk P w H h':=λa o e=>
 (x a o e).stay (λb u _ q=>k b u q) (λ_ q=>q) λ_ _ q=>q
theorem HOk.laid(x:HOk P w H h)(k:∀b u,h.get? b=some u→h'.get? b=some u)(hp:h.objs.size≤a)(new:ObjOk P w (IC H a o) h' a o):HOk P w (IC H a o) h':=λb u e=>by
 have hn:=x.fresh hp;by_cases hb:b=a
 · subst hb;rw[IE] at e;cases e;exact new
 · rw[IZ hb] at e;exact(x b u e).stay (λc v _ q=>k c v q) (λc q=>by rw[IZ (JY q hn)];exact q) λc xs q=>by rw[IZ (JY q hn)];exact q
end
noncomputable def Rd(H:Hp)(a:Addr)(u:HO):Prop:=H a=some u∨∃o,H a=some (.frz o u)
theorem Rd.ok{H:Hp}{u:HO}(r:Rd H a u)(x:HOk P w H h):ObjOk P w H h a u:=by
 rcases r with r | ⟨o,r⟩
 · exact x a u r
 · obtain⟨_,q⟩:=x a _ r;exact q
noncomputable def OQ:Option HO→Prop
 | some (.lst _)=>True
 | some (.dK _)=>True
 | some (.dT _)=>True
 | some (.set _ _)=>True
 | some (.ins _ _ _)=>True
 | some (.ext _)=>True
 | _=>False
section
variable{H:Hp}{h':Heap}{x e:Addr}{o':HO}
theorem HOk.write(ok:HOk P w H h)(mu:OQ (H x))(he:e=x∨H e=some (.own x))(k:∀b u,b≠e→h.get? b=some u→h'.get? b=some u)(heo:∃u,h'.get? e=some u)
 (new:ObjOk P w (IC H x o') h' x o'):HOk P w (IC H x o') h':=λb u q=>by
 have nown:∀c y,H c=some (.own y)→c≠x:=λc y r z=>by subst z;rw[r] at mu;exact mu
 have ntup:∀c xs,H c=some (.tup xs)→c≠x:=λc xs r z=>by subst z;rw[r] at mu;exact mu
 by_cases hb:b=x
 · subst hb;rw[IE] at q;cases q;exact new
 · rw[IZ hb] at q;by_cases hbe:b=e
   · have q':H b=some (.own x):=by
      rcases he with z | z
      · exact absurd (hbe.trans z) hb
      · rw[hbe];exact z
     rw[q] at q';cases q';obtain⟨v,hv⟩:=heo;exact⟨v,by rw[hbe];exact hv⟩
   · refine(ok b u q).stay (λc v hc r=>k c v ?_ r) (λc r=>by rw[IZ (nown c b r)];exact r) λc xs r=>by rw[IZ (ntup c xs r)];exact r
     rcases hc with rfl | hc
     · exact hbe
     · rintro rfl;rcases he with z | z
       · exact nown c b hc z
       · rw[hc] at z;cases z;exact hb rfl
end
structure Un(fs ex:List Addr)(H H':Hp)(h h':Heap):Prop where
 keep:∀b o,h.get? b=some o→H b=none→b ∉ fs→b ∉ ex→h'.get? b=some o
 slot:∀b o,h.get? b=some o→H b=none→b∈fs→b ∉ ex→∃sl,h'.get? b=some {o with slots:=sl}
 free:∀b o,h.get? b=some o→H b=none→b ∉ ex→H' b=none
 there:∀b o,h.get? b=some o→b ∉ ex→∃o',h'.get? b=some o'
 tups:∀b xs,H b=some (.tup xs)→H' b=some (.tup xs)
 frzs:∀b o u,H b=some (.frz o u)→H' b=some (.frz o u)
 tbls:∀b ps,H b=some (.tbl ps)→∃more,H' b=some (.tbl (ps++more))
section
variable{fs fs' ex ex':List Addr}{H H1 H2:Hp}{h1 h2 h':Heap}{x e:Addr}{o:HO}
theorem Un.any(u:Un fs ex H H1 h h1){ob:Obj}(q:h.get? b=some ob)(n:H b=none)(hx:b ∉ ex):∃sl,h1.get? b=some {ob with slots:=sl}:=by
 by_cases hb:b∈fs
 · exact u.slot b ob q n hb hx
 · exact⟨ob.slots,u.keep b ob q n hb hx⟩
theorem Un.kept(k:∀b u,h.get? b=some u→h'.get? b=some u):Un fs ex H H h h':=
 ⟨λb ob q _ _ _=>k b ob q,λb ob q _ _ _=>⟨ob.slots,k b ob q⟩,λ_ _ _ n _=>n,λb ob q _=>⟨ob,k b ob q⟩,λ_ _ q=>q,λ_ _ _ q=>q,λ_ ps q=>⟨#[],by rw[q];simp⟩⟩
theorem Un.refl:Un fs ex H H h h:=Un.kept λ_ _ q=>q
theorem Un.laid(k:∀b u,h.get? b=some u→h'.get? b=some u)(hp:h.objs.size≤a)(hn:H a=none):Un fs ex H (IC H a o) h h' where
 keep:=λb u q _ _ _=>k b u q
 slot:=λb u q _ _ _=>⟨u.slots,k b u q⟩
 free:=λb u q n _=>by rw[IZ (Ar (AG (Am q) hp))];exact n
 there:=λb u q _=>⟨u,k b u q⟩
 tups:=λb xs q=>by rw[IZ (JY q hn)];exact q
 frzs:=λb u xs q=>by rw[IZ (JY q hn)];exact q
 tbls:=λb ps q=>⟨#[],by rw[IZ (JY q hn),q];simp⟩
theorem Un.write(mu:OQ (H x))(he:e=x∨H e=some (.own x))(k:∀b u,b≠e→h.get? b=some u→h'.get? b=some u)(heo:∃u,h'.get? e=some u):Un fs ex H (IC H x o) h h':=by
 have hx:∀b,H b=none→b≠x:=λb n z=>by subst z;rw[n] at mu;exact mu
 have hb:∀b,H b=none→b≠e:=λb n z=>by
  subst z;rcases he with r | r
  · exact hx b n r
  · rw[n] at r;cases r
 have hm:∀b u,H b=some u→¬OQ (some u)→b≠x:=λb u q nm z=>by subst z;rw[q] at mu;exact nm mu
 refine⟨λb u q n _ _=>k b u (hb b n) q,λb u q n _ _=>⟨u.slots,k b u (hb b n) q⟩,λb u q n _=>by rw[IZ (hx b n)];exact n,λb u q _=>?_,
  λb xs q=>by rw[IZ (hm b _ q λz=>z)];exact q,λb u xs q=>by rw[IZ (hm b _ q λz=>z)];exact q,λb ps q=>⟨#[],by rw[IZ (hm b _ q λz=>z),q];simp⟩⟩
 by_cases hbe:b=e
 · subst hbe;exact heo
 · exact⟨u,k b u hbe q⟩
end
noncomputable def trk(h:Heap)(H:Hp):List Addr:=(BU h.objs.size).filter λa=>(H a).isSome
noncomputable def K3(h:Heap)(H:Hp):Heap:=PySem.W.hideAll h (trk h H)
theorem ZC(h:Heap)(H:Hp):(K3 h H).objs.size=h.objs.size:=PySem.W.hideAll_size _ _
theorem YT{H:Hp}{o:Obj}(e:h.get? b=some o)(n:H b=none):(K3 h H).get? b=some o:=
 PySem.W.hideAll_get _ e λhm=>by have q:(H b).isSome=true:=(Da.mp hm).2;rw[n] at q;simp at q
theorem Yq{H:Hp}{o:Obj}(e:(K3 h H).get? b=some o):h.get? b=some o∧H b=none:=by
 have e':h.get? b=some o:=PySem.W.of_hideAll (trk h H) e;refine⟨e',?_⟩;cases q:H b with
 | none=>rfl
 | some x=> have hm:b∈trk h H:=List.mem_filter.mpr ⟨CK.mpr (Am e'),by simp[q]⟩;have z:(K3 h H).get? b=none:=PySem.W.hideAll_none (trk h H) hm;rw[z] at e;cases e
noncomputable def X0(g h:Heap)(L:Addr):List (Addr×Obj):=(BU h.objs.size).filterMap λa=>if a=L∨(g.get? a).isSome=true then none else(h.get? a).map λo=>(a,o)
noncomputable def rest(g h:Heap)(L d:Addr):List (Addr×Obj):=(X0 g h L).filter λp=>decide (p.1≠d)
structure Mod(K:Ae)(mg:Str→Option Value)(base:Heap):Prop where
 kin:K.In base
 glob:base.Ns AJ mg
 blt:∃mb,base.Ns builtinsNs mb∧∀x:Str,x≠"__name__"→mb x=Bh x
 nolimit:base.NoLimit
structure Cx where
 prog:Bp
 w:World
 K:Ae
 mg:Str→Option Value
 base:Heap
 A:BE
 N:List Str
 s₀:Shared
 H₀:Hp
 env:Env
 outer:List Env
 stack:List Env
 ex:List Addr
 fn:Str→Bool
 calm:Bool
 pn:List (Addr×Obj)
 xe:Value→Shared→Prop
noncomputable def L5(l:List Env):List Addr:=l.filterMap (·.frame)
noncomputable abbrev Cx.fs(X:Cx):List Addr:=L5 X.outer
noncomputable def Qk(sc:Scope)(x:Str):Prop:=sc.names.lookup x=some .local∨sc.names.lookup x=some .cell∨sc.names.lookup x=some .free
noncomputable def NM(sc:Scope)(x:Str):Prop:=sc.names.lookup x=some .local∨sc.names.lookup x=some .cell
noncomputable def SF(env:Env)(h:Heap)(m:Str→Option Value)(x:Str)(u:Value):Prop:=
 (env.kindOf x=some .local∧m x=some u)∨((env.kindOf x=some .cell∨env.kindOf x=some .free)∧∃c,env.cells.lookup x=some c∧h.IsCell c (some u))
structure Cx.Ok(X:Cx):Prop where
 mod:Mod X.K X.mg X.base
 kind:X.env.scope.kind= .function
 glob:X.env.globals=AJ
 blt:X.env.builtins=builtinsNs
 above:X.s₀.heap.objs.size≤X.env.locals
 inj:∀x y c,X.env.cells.lookup x=some c→X.env.cells.lookup y=some c→x=y
 has:∀x,(X.env.kindOf x=some .cell∨X.env.kindOf x=some .free)→∃c,X.env.cells.lookup x=some c
 cab:∀x c,X.fn x=true→X.env.cells.lookup x=some c→X.s₀.heap.objs.size≤c
 hd:X.calm=true→X.A.handled=none
 frames:X.A.frames=some X.stack
 stk:X.stack=X.outer∨(X.stack=X.env::X.outer∧X.env.frame=some X.env.locals)
 exf:∀b∈X.ex,b≠X.env.locals∧∀x c,X.env.cells.lookup x=some c→c≠b
 bs:∀b o,X.base.get? b=some o→X.s₀.heap.get? b=some o∧X.H₀ b=none
 bsz:X.base.objs.size≤X.s₀.heap.objs.size
 noex:∀b o,X.base.get? b=some o→b ∉ X.ex
 exfs:∀b∈X.ex,b ∉ X.fs
 funs:X.s₀.heap.FunFrames X.base X.outer
 frf:∀b∈X.fs,X.H₀ b=none
structure Inv(X:Cx)(pins:List (Addr×Obj))(σ:List (Option V))(H:Hp)(s:Shared):Prop where
 ok:X.Ok
 os:s.os=X.s₀.os
 bare:AllBare s.gens
 base:Un X.fs X.ex X.H₀ H X.s₀.heap s.heap
 loc:∃m,s.heap.Ns X.env.locals m∧∀(i:Nat)(x:Str)(v:V),X.N[i]?=some x→σ[i]?=some (some v)→Qk X.env.scope x→∃u,RelV v u∧SF X.env s.heap m x u
 cell:∀x c,X.env.cells.lookup x=some c→∃v,s.heap.IsCell c v
 free:H X.env.locals=none
 freeC:∀x c,X.env.cells.lookup x=some c→H c=none
 pin:∀p∈X.pn++pins,s.heap.get? p.1=some p.2∧H p.1=none∧p.1≠X.env.locals∧p.1 ∉ X.fs∧∀v,p.2.data≠ .cell v
 hok:HOk X.prog X.w H s.heap
 len:σ.length=X.N.length
section
variable{X:Cx}{σ:List (Option V)}{H H':Hp}{h':Heap}
theorem Cx.Ok.nofr(ok:X.Ok){o:Obj}(e:X.base.get? b=some o):b ∉ X.fs:=λhb=>by have:=(ok.funs.mem hb).1;rw[e] at this;cases this
theorem Inv.bs(I:Inv X pins σ H s):∀b o,X.base.get? b=some o→s.heap.get? b=some o∧H b=none:=λb o e=>
 ⟨I.base.keep b o (I.ok.bs b o e).1 (I.ok.bs b o e).2 (I.ok.nofr e) (I.ok.noex b o e),I.base.free b o (I.ok.bs b o e).1 (I.ok.bs b o e).2 (I.ok.noex b o e)⟩
theorem Inv.bk(I:Inv X pins σ H s):∀b o,X.base.get? b=some o→s.heap.get? b=some o:=λb o e=>(I.bs b o e).1
theorem Inv.mod(I:Inv X pins σ H s):Mod X.K X.mg X.base:=I.ok.mod
theorem Inv.kIn(I:Inv X pins σ H s):X.K.In s.heap:=I.ok.mod.kin.keeps I.bk
theorem Inv.lt(I:Inv X pins σ H s):X.env.locals<s.heap.objs.size:=let⟨_,hn,_⟩:=I.loc;hn.lt
theorem Inv.sz(I:Inv X pins σ H s):X.s₀.heap.objs.size≤s.heap.objs.size:=AD I.ok.above (Bv I.lt)
theorem Inv.nofs(I:Inv X pins σ H s)(h:s.heap.objs.size≤a):a ∉ X.fs:=λhb=>by obtain⟨_,o,ho,_⟩:=I.ok.funs.mem hb;exact absurd (AG (Am ho) (AD I.sz h)) (Ds _)
theorem Inv.cne(I:Inv X pins σ H s):∀x c,X.env.cells.lookup x=some c→c≠X.env.locals:=λx c e z=>by obtain⟨v,o,ho,hd⟩:=I.cell x c e;obtain⟨m,⟨o',es,ep,ho',hd',_⟩,_⟩:=I.loc;rw[z,ho'] at ho;cases ho;rw[hd'] at hd;cases hd
theorem Inv.funs(I:Inv X pins σ H s):s.heap.FunFrames X.base X.outer:=by
 have all:∀(l:List Env),(∀b∈L5 l,b∈X.fs)→X.s₀.heap.FunFrames X.base l→s.heap.FunFrames X.base l:=by
  intro l
  induction l with
  | nil=>intro _ _;trivial
  | cons env r ih=> intro hs hl;obtain⟨hk,⟨L,o,hf,hn,ho,hd⟩,hr⟩:=hl;have hL:L∈X.fs:=hs L (by unfold L5;rw[DE,hf];exact Ao);obtain⟨sl,e⟩:=I.base.slot L o ho (I.ok.frf L hL) hL λz=>I.ok.exfs L z hL;exact⟨hk,⟨L,_,hf,hn,e,hd⟩,ih (λb hb=>hs b (by unfold L5;rw[DE,hf];exact As _ hb)) hr⟩
 exact all X.outer (λ_ hb=>hb) I.ok.funs
theorem Inv.stack(I:Inv X pins σ H s):s.heap.FunFrames X.base X.stack:=by
 rcases I.ok.stk with e | ⟨e,hf⟩
 · rw[e];exact I.funs
 · rw[e];obtain⟨m,hn,_⟩:=I.loc;refine .cons (by rw[I.ok.kind];decide) hf hn ?_ I.funs;exact G9 (AD I.ok.bsz I.ok.above)
theorem Inv.stkSub(I:Inv X pins σ H s):∀b∈L5 X.stack,b∈X.env.locals::X.fs:=λb hb=>by
 rcases I.ok.stk with e | ⟨e,hf⟩
 · rw[e] at hb;exact As _ hb
 · rw[e] at hb;unfold L5 at hb;rw[DE,hf] at hb;exact hb
theorem Inv.stkFree(I:Inv X pins σ H s):∀b∈L5 X.stack,H b=none:=λb hb=>by
 rcases Aw.mp (I.stkSub b hb) with e | hb
 · rw[e];exact I.free
 · obtain⟨_,o,ho,_⟩:=I.ok.funs.mem hb;exact I.base.free b o ho (I.ok.frf b hb) λz=>I.ok.exfs b z hb
theorem Inv.step{g':Array GenState}{t':Nat}{d':Drawn}{ch:List Addr}(I:Inv X pins σ H s)
 (hch:∀b∈ch,(b∈X.ex∨X.s₀.heap.objs.size≤b)∧b≠X.env.locals∧(∀x c,X.env.cells.lookup x=some c→c≠b)∧∀p∈X.pn++pins,p.1≠b)
 (keep:∀b o,b≠X.env.locals→b ∉ X.fs→b ∉ ch→s.heap.get? b=some o→H b=none→h'.get? b=some o)
 (slot:∀b o,b≠X.env.locals→b∈X.fs→b ∉ ch→s.heap.get? b=some o→H b=none→∃sl,h'.get? b=some {o with slots:=sl}) (free:∀b o,b ∉ ch→s.heap.get? b=some o→H b=none→H' b=none)
 (there:∀b o,b ∉ ch→s.heap.get? b=some o→∃o',h'.get? b=some o')
 (tups:∀b xs,H b=some (.tup xs)→H' b=some (.tup xs)) (frzs:∀b o u,H b=some (.frz o u)→H' b=some (.frz o u)) (tbls:∀b ps,H b=some (.tbl ps)→∃more,H' b=some (.tbl (ps++more)))
 (ns:∀m,s.heap.Ns X.env.locals m→h'.Ns X.env.locals m) (hok:HOk X.prog X.w H' h') (hg:AllBare g'):
 Inv X pins σ H' {s with heap:=h',gens:=g',drawn:=d',toks:=t'}:=by
 have neL:∀b o,X.s₀.heap.get? b=some o→b≠X.env.locals:=λb o e=>Ar (AG (Am e) I.ok.above);have neC:∀b o,X.s₀.heap.get? b=some o→b ∉ X.ex→b ∉ ch:=λb o e hx hb=>by
  rcases(hch b hb).1 with z | z
  · exact hx z
  · exact absurd (AG (Am e) z) (Ds _)
 have cellK:∀x c,X.env.cells.lookup x=some c→∀v,s.heap.IsCell c v→h'.IsCell c v:=λx c e v ⟨o,ho,hd⟩=>by
  have nch:c ∉ ch:=λz=>(hch c z).2.2.1 x c e rfl;by_cases hc:c∈X.fs
  · obtain⟨sl,q⟩:=slot c o (I.cne x c e) hc nch ho (I.freeC x c e);exact⟨_,q,hd⟩
  · exact⟨o,keep c o (I.cne x c e) hc nch ho (I.freeC x c e),hd⟩
 refine⟨I.ok,I.os,hg,⟨λb o e n hb hx=>?_,λb o e n hb hx=>?_,λb o e n hx=>?_,λb o e hx=>?_,λb xs e=>tups b xs (I.base.tups b xs e),λb o xs e=>frzs b o xs (I.base.frzs b o xs e),λb ps e=>?_⟩,?_,λx c e=>?_,?_,λx c e=>?_,λp hp=>?_,hok,I.len⟩
 · exact keep b o (neL b o e) hb (neC b o e hx) (I.base.keep b o e n hb hx) (I.base.free b o e n hx)
 · obtain⟨sl,e1⟩:=I.base.slot b o e n hb hx;obtain⟨sl',e2⟩:=slot b _ (neL b o e) hb (neC b o e hx) e1 (I.base.free b o e n hx);exact⟨sl',e2⟩
 · obtain⟨o',e1⟩:=I.base.there b o e hx;exact free b o' (neC b o e hx) e1 (I.base.free b o e n hx)
 · obtain⟨o',e1⟩:=I.base.there b o e hx;exact there b o' (neC b o e hx) e1
 · obtain⟨m1,e1⟩:=I.base.tbls b ps e;obtain⟨m2,e2⟩:=tbls b _ e1;exact⟨m1++m2,by rw[e2,Array.append_assoc]⟩
 · obtain⟨m,hn,hl⟩:=I.loc;refine⟨m,ns m hn,λi x v e1 e2 e3=>?_⟩;obtain⟨u,r,l⟩:=hl i x v e1 e2 e3;refine⟨u,r,?_⟩;rcases l with l | ⟨k,c,e,z⟩
   · exact .inl l
   · exact .inr ⟨k,c,e,cellK x c e _ z⟩
 · obtain⟨v,z⟩:=I.cell x c e;exact⟨v,cellK x c e v z⟩
 · obtain⟨m,⟨o,_,_,ho,_⟩,_⟩:=I.loc;exact free _ o (λz=>(hch _ z).2.1 rfl) ho I.free
 · obtain⟨v,o,ho,hd⟩:=I.cell x c e;exact free c o (λz=>(hch c z).2.2.1 x c e rfl) ho (I.freeC x c e)
 · obtain⟨e,n,ne,nf,d⟩:=I.pin p hp;have nch:p.1 ∉ ch:=λz=>(hch p.1 z).2.2.2 p hp rfl;exact⟨keep p.1 p.2 ne nf nch e n,free p.1 p.2 nch e n,ne,nf,d⟩
theorem Inv.un{t':Nat}(I:Inv X pins σ H s)(u:Un X.fs [] H H' s.heap h')(hok:HOk X.prog X.w H' h'):Inv X pins σ H' {s with heap:=h',toks:=t'}:=by obtain⟨m,⟨o,es,ep,ho,r⟩,_⟩:=id I.loc;obtain⟨sl,hL⟩:=u.any ho I.free (by simp);exact I.step (g':=s.gens) (d':=s.drawn) (ch:=[]) (λ_ z=>nomatch z) (λb o _ hb _ e n=>u.keep b o e n hb (by simp)) (λb o _ hb _ e n=>u.slot b o e n hb (by simp)) (λb o _ e n=>u.free b o e n (by simp)) (λb o _ e=>u.there b o e (by simp)) u.tups u.frzs u.tbls (λm' hm=>by obtain⟨o',es',ep',ho',r'⟩:=hm;rw[ho] at ho';cases ho';exact⟨_,es',ep',hL,r'⟩) hok I.bare
theorem Inv.call{g':Array GenState}{t':Nat}{d':Drawn}{ch:List Addr}(I:Inv X pins σ H s)(u:Un (L5 X.stack) ch H H' s.heap h')(hok:HOk X.prog X.w H' h')(hg:AllBare g')
 (hch:∀b∈ch,(b∈X.ex∨X.s₀.heap.objs.size≤b)∧b≠X.env.locals∧(∀x c,X.env.cells.lookup x=some c→c≠b)∧∀p∈X.pn++pins,p.1≠b):
 Inv X pins σ H' {s with heap:=h',gens:=g',drawn:=d',toks:=t'}:=by
 obtain⟨m,⟨o,es,ep,ho,r⟩,_⟩:=id I.loc;obtain⟨sl,hL⟩:=u.any ho I.free λz=>(hch _ z).2.1 rfl;exact I.step (ch:=ch) hch (λb o hL hb hc e n=>u.keep b o e n (λz=>(Aw.mp (I.stkSub b z)).elim hL hb) hc) (λb o _ _ hc e n=>u.any e n hc) (λb o hc e n=>u.free b o e n hc) (λb o hc e=>u.there b o e hc) u.tups u.frzs u.tbls (λm' hm=>by obtain⟨o',es',ep',ho',r'⟩:=hm;rw[ho] at ho';cases ho';exact⟨_,es',ep',hL,r'⟩) hok hg
theorem Inv.turned{t':Nat}{it:Addr}(I:Inv X pins σ H s)(k:∀b o,b≠it→s.heap.get? b=some o→h'.get? b=some o)(hn:H it=none)(hL:it≠X.env.locals)
 (h1:it∈X.ex∨X.s₀.heap.objs.size≤it) (h2:∀x c,X.env.cells.lookup x=some c→c≠it) (h3:∀p∈X.pn++pins,p.1≠it):Inv X pins σ H {s with heap:=h',toks:=t'}:=by
 have nit:∀b u,H b=some u→b≠it:=λb u e z=>by rw[z,hn] at e;cases e
 refine I.step (g':=s.gens) (d':=s.drawn) (ch:=[it]) (λb hb=>?_) (λb o _ _ hc e _=>k b o (λz=>hc (by simp[z])) e) (λb o _ _ hc e _=>⟨o.slots,k b o (λz=>hc (by simp[z])) e⟩) (λ_ _ _ _ n=>n)
  (λb o hc e=>⟨o,k b o (λz=>hc (by simp[z])) e⟩) (λ_ _ e=>e) (λ_ _ _ e=>e) (λb ps e=>⟨#[],by rw[e];simp⟩) (λm hm=>?_) (λb u e=>?_) I.bare
 · have e:b=it:=by simpa using hb
   subst e;exact⟨h1,hL,h2,h3⟩
 · obtain⟨o,es,ep,ho,r⟩:=hm;exact⟨o,es,ep,k _ o (BI hL) ho,r⟩
 · refine(I.hok b u e).stay (λc v hc q=>k c v ?_ q) (λ_ q=>q) λ_ _ q=>q;rcases hc with z | z
   · rw[z];exact nit b u e
   · exact nit c _ z
theorem Inv.tok(I:Inv X pins σ H s)(t:Nat):Inv X pins σ H {s with toks:=t}:=I.un (h':=s.heap) (t':=t) Un.refl I.hok
theorem Inv.kept{t':Nat}(I:Inv X pins σ H s)(k:∀b u,s.heap.get? b=some u→h'.get? b=some u):Inv X pins σ H {s with heap:=h',toks:=t'}:=I.un (Un.kept k) (I.hok.kept k)
theorem Inv.laid{o:HO}{t':Nat}(I:Inv X pins σ H s)(k:∀b u,s.heap.get? b=some u→h'.get? b=some u)(hp:s.heap.objs.size≤a)(new:ObjOk X.prog X.w (IC H a o) h' a o):
 Inv X pins σ (IC H a o) {s with heap:=h',toks:=t'}:=I.un (Un.laid k hp (I.hok.fresh hp)) (I.hok.laid k hp new)
theorem Inv.write{x e:Addr}{o:HO}{t':Nat}(I:Inv X pins σ H s)(mu:OQ (H x))(he:e=x∨H e=some (.own x))(k:∀b u,b≠e→s.heap.get? b=some u→h'.get? b=some u)(heo:∃u,h'.get? e=some u)
 (new:ObjOk X.prog X.w (IC H x o) h' x o):Inv X pins σ (IC H x o) {s with heap:=h',toks:=t'}:=I.un (Un.write mu he k heo) (I.hok.write mu he k heo new)
theorem Inv.pins_of{pins':List (Addr×Obj)}(I:Inv X pins σ H s)(h:∀p∈pins',s.heap.get? p.1=some p.2∧H p.1=none∧p.1≠X.env.locals∧p.1 ∉ X.fs∧∀v,p.2.data≠ .cell v):Inv X pins' σ H s:=
 ⟨I.ok,I.os,I.bare,I.base,I.loc,I.cell,I.free,I.freeC,λp hp=>(A3.mp hp).elim (λz=>I.pin p (Bw _ z)) (h p),I.hok,I.len⟩
theorem Vd{N:List Str}(hN:N.Nodup){j:Nat}{x:Str}(a:N[i]?=some x)(b:N[j]?=some x):i=j:=by obtain⟨h1,e1⟩:=An.mp a;obtain⟨h2,e2⟩:=An.mp b;exact(List.getElem_inj hN).mp (e1.trans e2.symm)
theorem QZ{M:Model}{A:BE}{E:Value→Shared→Prop}{x:Str}{v:V}{Q:Unit→Shared→Prop}(I:Inv X pins σ H s)(hN:X.N.Nodup)(hi:X.N[i]?=some x)(hx:NM X.env.scope x)(r:RelV v u)
 (h:∀s',Inv X pins (σ.set i (some v)) H s'→(∃a,Bt a s.heap s'.heap∧(a=X.env.locals∨X.env.cells.lookup x=some a))→Q () s') (hf:X.fn x=true∨X.env.scope.names.lookup x=some .local:=by first | exact .inl rfl | exact .inr rfl | assumption):wpAny M A (storeName X.env x u) Q E s:=by
 obtain⟨m,hn,hl⟩:=id I.loc;have hcls:(X.env.scope.kind== .class || (X.env.scope.kind== .module && X.env.locals !=X.env.globals))=false:=by rw[I.ok.kind];rfl
 have hiσ:i<σ.length:=by rw[I.len];exact(An.mp hi).1
 have cne:=I.cne;have tracked:∀{a:Addr}{h':Heap},(∃o,s.heap.get? a=some o∧H a=none)→Bt a s.heap h'→HOk X.prog X.w H h':=λ{a h'}ha hs b ob e=>by
  obtain⟨_,_,hfree⟩:=ha;refine(I.hok b ob e).stay (λc w' hc q=>(hs.2 c ?_).trans q) (λ_ q=>q) λ_ _ q=>q;rintro rfl;rcases hc with rfl | hc
  · rw[hfree] at e;cases e
  · rw[hfree] at hc;cases hc
 rcases hx with hk | hk
 · refine wpAny_storeName_local hk hn (λh' hn' hs=>?_) hcls;obtain⟨oL,_,_,hoL,_⟩:=id hn;refine h _ ⟨I.ok,I.os,I.bare,⟨λb o e n hb hx=>?_,λb o e n hb hx=>?_,I.base.free,λb o e hx=>?_,I.base.tups,I.base.frzs,I.base.tbls⟩,⟨_,hn',λj y v' e1 e2 e3=>?_⟩,λy c e=>?_,I.free,I.freeC,λp hp=>?_,tracked ⟨oL,hoL,I.free⟩ hs,by simpa using I.len⟩ ⟨_,hs,.inl rfl⟩
   · exact(hs.2 b (Ar (AG (Am e) I.ok.above))).trans (I.base.keep b o e n hb hx)
   · obtain⟨sl,e1⟩:=I.base.slot b o e n hb hx;exact⟨sl,(hs.2 b (Ar (AG (Am e) I.ok.above))).trans e1⟩
   · obtain⟨o',e1⟩:=I.base.there b o e hx;exact⟨o',(hs.2 b (Ar (AG (Am e) I.ok.above))).trans e1⟩
   · by_cases hj:j=i
     · subst hj;rw[hi] at e1;cases e1;rw[Gi hiσ] at e2;cases e2;exact⟨u,r,.inl ⟨hk,by simp⟩⟩
     · rw[GA (BI hj)] at e2;obtain⟨u',r',q⟩:=hl j y v' e1 e2 e3;refine⟨u',r',?_⟩;rcases q with⟨k,e⟩ | ⟨k,c,e,z⟩
       · refine .inl ⟨k,?_⟩;have:y≠x:=λe=>hj (Vd hN e1 (e ▸ hi));simp[this,e]
       · exact .inr ⟨k,c,e,z.sameBut hs (cne y c e)⟩
   · obtain⟨w',z⟩:=I.cell y c e;exact⟨w',z.sameBut hs (cne y c e)⟩
   · obtain⟨e,n,ne,nf,d⟩:=I.pin p hp;exact⟨(hs.2 p.1 ne).trans e,n,ne,nf,d⟩
 · have hfn:X.fn x=true:=by
    rcases hf with z | z
    · exact z
    · rw[z] at hk;cases hk
   obtain⟨c,hc⟩:=I.ok.has x (.inl hk);obtain⟨w',z⟩:=I.cell x c hc;refine wpAny_storeName_cell I.ok.kind hk hc z (λh' hc' hs=>?_);obtain⟨oc,hoc,hocd⟩:=id z;refine h {s with heap:=h'} ⟨I.ok,I.os,I.bare,⟨λb o e n hb hx=>?_,λb o e n hb hx=>?_,I.base.free,λb o e hx=>?_,I.base.tups,I.base.frzs,I.base.tbls⟩,⟨m,hn.sameBut hs (BI (cne x c hc)),λj y v' e1 e2 e3=>?_⟩,λy c' e=>?_,I.free,I.freeC,λp hp=>?_,tracked ⟨oc,hoc,I.freeC x c hc⟩ hs,by simpa using I.len⟩ ⟨c,hs,.inr hc⟩
   · exact(hs.2 b (Ar (AG (Am e) (I.ok.cab x c hfn hc)))).trans (I.base.keep b o e n hb hx)
   · obtain⟨sl,e1⟩:=I.base.slot b o e n hb hx;exact⟨sl,(hs.2 b (Ar (AG (Am e) (I.ok.cab x c hfn hc)))).trans e1⟩
   · obtain⟨o',e1⟩:=I.base.there b o e hx;exact⟨o',(hs.2 b (Ar (AG (Am e) (I.ok.cab x c hfn hc)))).trans e1⟩
   · by_cases hj:j=i
     · subst hj;rw[hi] at e1;cases e1;rw[Gi hiσ] at e2;cases e2;exact⟨u,r,.inr ⟨.inl hk,c,hc,hc'⟩⟩
     · rw[GA (BI hj)] at e2;obtain⟨u',r',q⟩:=hl j y v' e1 e2 e3;refine⟨u',r',?_⟩;rcases q with q | ⟨k,c',e,z'⟩
       · exact .inl q
       · refine .inr ⟨k,c',e,z'.sameBut hs ?_⟩;rintro rfl;exact hj (Vd hN e1 (I.ok.inj _ _ _ e hc ▸ hi))
   · by_cases hcc:c'=c
     · subst hcc;exact⟨_,hc'⟩
     · obtain⟨w2,z2⟩:=I.cell y c' e;exact⟨w2,z2.sameBut hs hcc⟩
   · obtain⟨e,n,ne,nf,d⟩:=I.pin p hp;refine⟨(hs.2 p.1 ?_).trans e,n,ne,nf,d⟩;intro q;rw[q,hoc] at e;have q':oc=p.2:=A4 e;exact d w' (by rw[←q'];exact hocd)
theorem UO{M:Model}{A:BE}{E:Value→Shared→Prop}{x:Str}{v:V}{Q:Unit→Shared→Prop}(I:Inv X pins σ H s)(hN:X.N.Nodup)(hi:X.N[i]?=some x)(hx:NM X.env.scope x)(r:RelV v u)
 (h:∀s',Inv X pins (σ.set i (some v)) H s'→Q () s') (hf:X.fn x=true∨X.env.scope.names.lookup x=some .local:=by first | exact .inl rfl | exact .inr rfl | assumption):wpAny M A (storeName X.env x u) Q E s:=
 QZ I hN hi hx r (λs' I' _=>h s' I') hf
theorem Inv.call'{s':Shared}{ch:List Addr}(I:Inv X pins σ H s)(ho:s'.os=s.os)(u:Un (L5 X.stack) ch H H' s.heap s'.heap)(hok:HOk X.prog X.w H' s'.heap)(hg:AllBare s'.gens)
 (hch:∀b∈ch,(b∈X.ex∨X.s₀.heap.objs.size≤b)∧b≠X.env.locals∧(∀x c,X.env.cells.lookup x=some c→c≠b)∧∀p∈X.pn++pins,p.1≠b):Inv X pins σ H' s':=by
 obtain⟨h',g',d',t',o'⟩:=s';have e:o'=s.os:=ho;subst e;exact I.call (g':=g') (t':=t') (d':=d') u hok hg hch
end
noncomputable abbrev XK:=Value→Option Addr→Hp→Prop
noncomputable abbrev St:=List (Option V)
noncomputable abbrev VK:=V→Hp→Prop
noncomputable abbrev TE:=St→Hp→VK→Prop
noncomputable abbrev TT:=St→Hp→(Bool→Hp→Prop)→Prop
noncomputable abbrev TA:=St→Hp→(List V→Hp→Prop)→Prop
structure Ends where
 nx:St→Hp→Prop
 rt:VK
 bk:St→Hp→Prop:=λ_ _=>False
 ct:St→Hp→Prop:=λ_ _=>False
noncomputable abbrev TS:=Ends→St→Hp→Prop
noncomputable def EP(X:Cx)(pins:List (Addr×Obj))(σ:St)(Q:VK)(u:Value)(s':Shared):Prop:=∃v H',Inv X pins σ H' s'∧RelV v u∧Q v H'
noncomputable def TP(X:Cx)(pins:List (Addr×Obj))(σ:St)(Q:Bool→Hp→Prop)(b:Bool)(s':Shared):Prop:=∃H',Inv X pins σ H' s'∧Q b H'
noncomputable def AP(X:Cx)(pins:List (Addr×Obj))(σ:St)(Q:List V→Hp→Prop)(us:List Value)(s':Shared):Prop:=∃vs H',Inv X pins σ H' s'∧Vals vs us∧Q vs H'
noncomputable def SP(X:Cx)(pins:List (Addr×Obj))(D:Ends)(f:Flow)(s':Shared):Prop:=
 match f with
 | .next=>∃σ' H',Inv X pins σ' H' s'∧D.nx σ' H'
 | .brk=>∃σ' H',Inv X pins σ' H' s'∧D.bk σ' H'
 | .cont=>∃σ' H',Inv X pins σ' H' s'∧D.ct σ' H'
 | .ret u=>∃v σ' H',Inv X pins σ' H' s'∧RelV v u∧D.rt v H'
noncomputable def PE(X:Cx)(e:Expr)(t:TE):Prop:=
 ∀(pins:List (Addr×Obj))(s:Shared)(σ:St)(H:Hp)(Q:VK),Inv X pins σ H s→t σ H Q→wpAny (model X.prog X.w) X.A (eval e X.env) (EP X pins σ Q) X.xe s
noncomputable def PT(X:Cx)(e:Expr)(t:TT):Prop:=
 ∀(pins:List (Addr×Obj))(s:Shared)(σ:St)(H:Hp)(Q:Bool→Hp→Prop),Inv X pins σ H s→t σ H Q→wpAny (model X.prog X.w) X.A (isTrue e X.env (eval e X.env)) (TP X pins σ Q) X.xe s
noncomputable def PW(X:Cx)(e:Expr)(t:TT):Prop:=
 ∀(whole:Sem Value)(pins:List (Addr×Obj))(s:Shared)(σ:St)(H:Hp)(Q:Bool→Hp→Prop),Inv X pins σ H s→t σ H Q→wpAny (model X.prog X.w) X.A (isTrue e X.env whole) (TP X pins σ Q) X.xe s
theorem PW.pt{X:Cx}{t:TT}(h:PW X e t):PT X e t:=h _
noncomputable def PA(X:Cx)(es:List Expr)(t:TA):Prop:=
 ∀(pos:Pos)(pins:List (Addr×Obj))(s:Shared)(σ:St)(H:Hp)(Q:List V→Hp→Prop),Inv X pins σ H s→t σ H Q→wpAny (model X.prog X.w) X.A (spliced (backTo pos (AL es X.env))) (AP X pins σ Q) X.xe s
noncomputable def PS(X:Cx)(st:Stmt)(t:TS):Prop:=
 ∀(pins:List (Addr×Obj))(s:Shared)(σ:St)(H:Hp)(D:Ends),Inv X pins σ H s→t D σ H→wpAny (model X.prog X.w) X.A (exec st X.env) (SP X pins D) X.xe s
noncomputable def PSs(X:Cx)(st:List Stmt)(t:TS):Prop:=
 ∀(pins:List (Addr×Obj))(s:Shared)(σ:St)(H:Hp)(D:Ends),Inv X pins σ H s→t D σ H→wpAny (model X.prog X.w) X.A (execs st X.env) (SP X pins D) X.xe s
theorem IG{α:Type}{t:Sem α}{Q Q':α→Shared→Prop}{M:Model}(h:wpAny M A t Q E s)(hQ:∀a s,Q a s→Q' a s):wpAny M A t Q' E s:=A5 h hQ λ_ _ x=>x
section
variable{X:Cx}
noncomputable def Ot(i:Nat):TE:=λσ H Q=>∃v,σ[i]?=some (some v)∧Q v H
noncomputable def tC(v:V):TE:=λ_ H Q=>Q v H
theorem XN{x:Str}(hN:X.N[i]?=some x)(hv:Qk X.env.scope x)(hd:(x==("__debug__":Str))=false:=by decide)(hcd:(x==("__classdict__":Str))=false:=by decide):PE X (.Name x pos) (Ot i):=by
 intro pins s σ H Q I h;obtain⟨v,e,h⟩:=h;obtain⟨m,hn,hl⟩:=I.loc;obtain⟨u,r,l⟩:=hl i x v hN e hv;have fin:EP X pins σ Q u s:=⟨v,H,I,r,h⟩;rcases l with⟨hk,hm⟩ | ⟨hk,c,hc,hcell⟩
 · exact wpAny_Name (wpAny_loadName_local I.ok.kind hk hn hm fin) hd
 · rcases hk with hk | hk
   · exact wpAny_Name (wpAny_loadName_cell I.ok.kind hk hc hcell fin) hd
   · exact wpAny_Name (wpAny_loadName_free I.ok.kind hk hc hcell fin hcd) hd
theorem IF{i j pos}:PE X (.Constant (.int i) j pos) (tC (.int i)):=λ_ _ _ H _ I h=>wpAny_Constant_int ⟨.int i,H,I.tok _,⟨_,rfl⟩,h⟩
theorem JI{b j pos}:PE X (.Constant (.bool b) j pos) (tC (.bl b)):=λ_ _ _ H _ I h=>Constant_bool ⟨.bl b,H,I,rfl,h⟩
theorem Le{j pos}:PE X (.Constant .none j pos) (tC .non):=λ_ _ _ H _ I h=>Constant_none ⟨.non,H,I,rfl,h⟩
theorem MM{x j pos}:PE X (.Constant (.str x) j pos) (tC (.str x)):=λ_ _ _ H _ I h=>Calls.Constant_str ⟨.str x,H,I.tok _,⟨_,rfl⟩,h⟩
noncomputable def Gl(X:Cx)(x:Str):Prop:=X.env.kindOf x=some .globalImplicit
theorem Uy{E:Value→Shared→Prop}{σ:St}{H:Hp}{x:Str}{pos:Pos}{Q:Value→Shared→Prop}(I:Inv X pins σ H s)(hg:Gl X x)(hm:X.mg x=some u)(h:Q u s)
 (hd:(x==("__debug__":Str))=false:=by decide):wpAny (model X.prog X.w) X.A (eval (.Name x pos) X.env) Q E s:=
 Fi I.ok.kind hg (Calls.loadGlobal_global (by rw[I.ok.glob];exact I.mod.glob.keeps I.bk) hm h) hd
theorem LI{E:Value→Shared→Prop}{σ:St}{H:Hp}{x:Str}{pos:Pos}{Q:Value→Shared→Prop}(I:Inv X pins σ H s)(hg:Gl X x)(hm:X.mg x=none)(hv:Bh x=some u)(h:Q u s)
 (hn:x≠"__name__":=by decide) (hd:(x==("__debug__":Str))=false:=by decide):wpAny (model X.prog X.w) X.A (eval (.Name x pos) X.env) Q E s:=by
 obtain⟨mb,h1,h2⟩:=I.mod.blt;exact Fi I.ok.kind hg (Calls.loadGlobal_builtin (by rw[I.ok.glob];exact I.mod.glob.keeps I.bk) hm (by rw[I.ok.blt];exact h1.keeps I.bk) ((h2 x hn).trans hv) h) hd
theorem Pl{x:Str}{v:V}(hg:Gl X x)(hm:X.mg x=some u)(r:RelV v u)(hd:(x==("__debug__":Str))=false:=by decide):PE X (.Name x pos) (tC v):=
 λ_ _ _ H _ I h=>Uy I hg hm ⟨v,H,I,r,h⟩ hd
theorem JK{x:Str}{v:V}(hg:Gl X x)(hm:X.mg x=none)(hv:Bh x=some u)(r:RelV v u)(hn:x≠"__name__":=by decide)(hd:(x==("__debug__":Str))=false:=by decide):PE X (.Name x pos) (tC v):=
 λ_ _ _ H _ I h=>LI I hg hm hv ⟨v,H,I,r,h⟩ hn hd
variable{a b:Expr}{ta tb:TE}
noncomputable def PC(X:Cx)(op:CmpOp)(a b:Expr)(t:TE):Prop:=
 ∀(pins:List (Addr×Obj))(s:Shared)(σ:St)(H:Hp)(Q:VK),Inv X pins σ H s→t σ H Q→
  wpAny (model X.prog X.w) X.A (eval a X.env) (λv s₁=>wpAny (model X.prog X.w) X.A (eval b X.env) (λu s₂=>wpAny (model X.prog X.w) X.A (BF op v u) (EP X pins σ Q) X.xe s₂) X.xe s₁) X.xe s
theorem Vc(b:Expr){op:CmpOp}(h:op≠ .In)(h2:op≠ .NotIn):behindInMarks op b=false:=by
 have e1:(op==CmpOp.In)=false:=by cases op<;>first | rfl | exact absurd rfl h
 have e2:(op==CmpOp.NotIn)=false:=by cases op<;>first | rfl | exact absurd rfl h2
 cases b<;>simp[behindInMarks,e1,e2]
noncomputable def RT(ta:TE):TE:=λσ H Q=>ta σ H λx H1=>Q (.bl (decide (x= .non))) H1
noncomputable def Xa(ta:TE):TE:=λσ H Q=>ta σ H λx H1=>Q (.bl (!decide (x= .non))) H1
theorem RelV.none_iff{x:V}{v:Value}(r:RelV x v):(v==Value.none)=decide (x= .non):=by
 cases x with
 | non=>cases r;rfl
 | bl _=>cases r;rfl
 | int _=>obtain⟨t,rfl⟩:=r;rfl
 | str _=>obtain⟨t,rfl⟩:=r;rfl
 | byt _=>obtain⟨t,rfl⟩:=r;rfl
 | flt _=>obtain⟨t,rfl⟩:=r;rfl
 | ref _=>cases r;rfl
 | ty _=>cases r;rfl
theorem Ku{j pos'}(ha:PE X a ta):PC X .Is a (.Constant .none j pos') (RT ta):=by intro pins s σ H Q I h;refine IG (ha pins s σ H _ I h) λv s1 ⟨x,H1,I1,r1,q1⟩=>?_;exact Constant_none (is_none_gen ⟨.bl _,H1,I1,by rw[r1.none_iff];rfl,q1⟩)
theorem KZ{j pos'}(ha:PE X a ta):PC X .IsNot a (.Constant .none j pos') (Xa ta):=by intro pins s σ H Q I h;refine IG (ha pins s σ H _ I h) λv s1 ⟨x,H1,I1,r1,q1⟩=>?_;exact Constant_none (isnot_none_gen ⟨.bl _,H1,I1,by rw[r1.none_iff];rfl,q1⟩)
noncomputable def tB(t:TE):TT:=λσ H Q=>t σ H λx H1=>∃c,x= .bl c∧Q c H1
theorem Ls{op:CmpOp}{t:TE}(h:PC X op a b t)(h1:behindInMarks op b=false:=by first | exact Vc _ (by decide) (by decide) | rfl):PE X (.Compare a [op] [b] pos) t:=λpins s σ H Q I hw=>wpAny_Compare1 (h pins s σ H Q I hw) h1
theorem JU{op:CmpOp}{t:TE}(h:PC X op a b t)(h1:behindInMarks op b=false:=by first | exact Vc _ (by decide) (by decide) | rfl):PT X (.Compare a [op] [b] pos) (tB t):=by intro pins s σ H Q I hw;refine wpAny_isTrue_Compare1 (IG (h pins s σ H _ I hw) λv s1 h1=>IG h1 λu s2 h2=>IG h2 λc s3 ⟨x,H1,I1,r1,q1⟩=>?_) h1;obtain⟨d,rfl,q⟩:=q1;cases r1;exact Bk ⟨H1,I1,q⟩
theorem JN{t:TE}(h:PE X e t)(he:∀whole,isTrue e X.env whole=(do let v ←whole;standAt e.pos;holding [v] (truthy v)):=by intro _;rfl):PT X e (tB t):=by intro pins s σ H Q I hw;refine isTrue_plain (IG (h pins s σ H _ I hw) λv s1 ⟨x,H1,I1,r1,q1⟩=>?_) (he _);obtain⟨d,rfl,q⟩:=q1;cases r1;exact Bk ⟨H1,I1,q⟩
variable{tA tB':TT}{rest:List Expr}
noncomputable def RY(t u:TT):TT:=λσ H Q=>t σ H λc H1=>if c=true then u σ H1 Q else Q false H1
noncomputable def tOr(t u:TT):TT:=λσ H Q=>t σ H λc H1=>if c=true then Q true H1 else u σ H1 Q
noncomputable def RP(t:TT):TT:=λσ H Q=>t σ H λc H1=>Q (!c) H1
theorem M0(ha:PT X a tA):PW X (.BoolOp .And [a] pos) tA:=by
 intro wh pins s σ H Q I h;refine isTrue_and (IG (ha pins s σ H Q I h) λc s1 e=>?_);cases c with
 | true=>exact isTrue_and_nil e
 | false=>exact e
theorem KB(ha:PT X a tA):PW X (.BoolOp .Or [a] pos) tA:=by
 intro wh pins s σ H Q I h;refine isTrue_or (IG (ha pins s σ H Q I h) λc s1 e=>?_);cases c with
 | false=>exact isTrue_or_nil e
 | true=>exact e
theorem LW(ha:PT X a tA)(hb:PW X (.BoolOp .And (b::rest) pos) tB'):PW X (.BoolOp .And (a::b::rest) pos) (RY tA tB'):=by
 intro wh pins s σ H Q I h;refine isTrue_and (IG (ha pins s σ H _ I h) λc s1 ⟨H1,I1,q1⟩=>?_);cases c with
 | true=>exact hb wh pins s1 σ H1 Q I1 q1
 | false=>exact⟨H1,I1,q1⟩
theorem Kn(ha:PT X a tA)(hb:PW X (.BoolOp .Or (b::rest) pos) tB'):PW X (.BoolOp .Or (a::b::rest) pos) (tOr tA tB'):=by
 intro wh pins s σ H Q I h;refine isTrue_or (IG (ha pins s σ H _ I h) λc s1 ⟨H1,I1,q1⟩=>?_);cases c with
 | true=>exact⟨H1,I1,q1⟩
 | false=>exact hb wh pins s1 σ H1 Q I1 q1
theorem Kk(ha:PT X a tA):PT X (.UnaryOp .Not a pos) (RP tA):=by intro pins s σ H Q I h;exact isTrue_not (ha pins s σ H (λc H1=>Q (!c) H1) I h)
noncomputable def WY(ta tb:TE):TE:=λσ H Q=>ta σ H λx H1=>∃c,x= .bl c∧if c=true then tb σ H1 Q else Q (.bl false) H1
noncomputable def RO(ta tb:TE):TE:=λσ H Q=>ta σ H λx H1=>∃c,x= .bl c∧if c=true then Q (.bl true) H1 else tb σ H1 Q
noncomputable def Xb(ta:TE):TE:=λσ H Q=>ta σ H λx H1=>∃c,x= .bl c∧Q (.bl (!c)) H1
theorem KL{op}{t:TE}(h:PE X a t):PE X (.BoolOp op [a] pos) t:=λpins s σ H Q I hw=>BoolOp_one (h pins s σ H Q I hw)
theorem Lr(ha:PE X a ta)(hb:PE X (.BoolOp .And (b::rest) pos) tb):PE X (.BoolOp .And (a::b::rest) pos) (WY ta tb):=by
 intro pins s σ H Q I h;refine BoolOp_and (IG (ha pins s σ H _ I h) λv s1 ⟨x,H1,I1,r1,q1⟩=>?_);obtain⟨c,rfl,q1⟩:=q1;cases r1;refine Bk ?_;cases c with
 | true=>exact hb pins s1 σ H1 Q I1 q1
 | false=>exact⟨.bl false,H1,I1,rfl,q1⟩
theorem NQ(ha:PE X a ta)(hb:PE X (.BoolOp .Or (b::rest) pos) tb):PE X (.BoolOp .Or (a::b::rest) pos) (RO ta tb):=by
 intro pins s σ H Q I h;refine BoolOp_or (IG (ha pins s σ H _ I h) λv s1 ⟨x,H1,I1,r1,q1⟩=>?_);obtain⟨c,rfl,q1⟩:=q1;cases r1;refine Bk ?_;cases c with
 | false=>exact hb pins s1 σ H1 Q I1 q1
 | true=>exact⟨.bl true,H1,I1,rfl,q1⟩
theorem Tq(ha:PE X a ta):PE X (.UnaryOp .Not a pos) (Xb ta):=by intro pins s σ H Q I h;refine UnaryOp_ (IG (ha pins s σ H _ I h) λv s1 ⟨x,H1,I1,r1,q1⟩=>?_);obtain⟨c,rfl,q1⟩:=q1;cases r1;exact not_of (Bk ⟨.bl (!c),H1,I1,rfl,q1⟩)
noncomputable def tIf(t:TT)(ta tb:TE):TE:=λσ H Q=>t σ H λc H1=>if c=true then ta σ H1 Q else tb σ H1 Q
theorem My{c:Expr}(hc:PT X c tA)(ha:PE X a ta)(hb:PE X b tb):PE X (.IfExp c a b pos) (tIf tA ta tb):=by
 intro pins s σ H Q I h;refine wpAny_IfExp (IG (hc pins s σ H _ I h) λd s1 ⟨H1,I1,q1⟩=>?_);cases d with
 | true=>exact ha pins s1 σ H1 Q I1 q1
 | false=>exact hb pins s1 σ H1 Q I1 q1
end
noncomputable def SqL(K:Ae)(H:Hp)(a:Addr)(xs:List V):Prop:=
 Rd H a (.lst xs)∨
  ∃(o:Obj)(its:Array Value)(n:Nat),K.lookup a=some o∧o.cls= .type "list"∧o.dict=none∧o.data= .seq its n∧its.size≤Ay∧Vals xs its.toList
noncomputable def SqT(K:Ae)(H:Hp)(a:Addr)(xs:List V):Prop:=
 Rd H a (.tup xs)∨
  ∃(o:Obj)(its:Array Value)(n:Nat),K.lookup a=some o∧o.cls= .type "tuple"∧o.data= .seq its n∧its.size≤Ay∧Vals xs its.toList
noncomputable def SA:Value→Option V
 | .none=>some .non
 | .bool b=>some (.bl b)
 | .int i _=>some (.int i)
 | .str x _=>some (.str x)
 | .bytes b _=>some (.byt b)
 | .float b _=>some (.flt b)
 | .ref a=>some (.ref a)
 | .type n=>some (.ty n)
 | _=>none
theorem RelV.abs{x:V}(r:RelV x u):SA u=some x:=by
 cases x with
 | non=>cases r;rfl
 | bl _=>cases r;rfl
 | int _=>obtain⟨t,rfl⟩:=r;rfl
 | str _=>obtain⟨t,rfl⟩:=r;rfl
 | byt _=>obtain⟨t,rfl⟩:=r;rfl
 | flt _=>obtain⟨t,rfl⟩:=r;rfl
 | ref _=>cases r;rfl
 | ty _=>cases r;rfl
theorem RelV.inj{x y:V}(r:RelV x u)(q:RelV y u):x=y:=A4 (r.abs.symm.trans q.abs)
theorem l0{α:Type}{P:List α→Prop}(h:P []):∀us:List α,us.length=0→P us
 | [],_=>h
theorem lS{α:Type}{n:Nat}{P:List α→Prop}(h:∀a us,us.length=n→P (a::us)):∀us:List α,us.length=n+1→P us
 | a::us,e=>h a us (Nat.succ.inj e)
theorem Vals.inj:∀{xs ys:List V}{us:List Value},Vals xs us→Vals ys us→xs=ys
 | _,_,_,.nil,.nil=>rfl
 | _,_,_,.cons r t,.cons r' t'=>by rw[r.inj r',Vals.inj t t']
section
variable{X:Cx}{σ:St}{H:Hp}{xs ys:List V}
theorem SqL.of{K:Ae}(h:H a=some (.lst xs)):SqL K H a xs:= .inl (.inl h)
theorem SqT.of{K:Ae}(h:H a=some (.tup xs)):SqT K H a xs:= .inl (.inl h)
theorem Inv.list(I:Inv X pins σ H s)(h:SqL X.K H a xs):∃its:List Value,Vals xs its∧PlainL s.heap a its.toArray∧xs.length≤Ay:=by
 rcases h with h | ⟨o,its,n,hk,hc,hd,hs,hz,r⟩
 · obtain⟨z,its,n,r,e⟩:=h.ok I.hok;exact⟨its,r,⟨_,n,e,rfl,rfl,rfl⟩,z⟩
 · refine⟨its.toList,r,⟨o,n,I.kIn a o hk,hc,hd,by simpa using hs⟩,?_⟩;have e:=r.length;simp only[A9] at e;omega
theorem Inv.tuple(I:Inv X pins σ H s)(h:SqT X.K H a xs):∃its:List Value,Vals xs its∧IsTup s.heap a its.toArray∧xs.length≤Ay:=by
 rcases h with h | ⟨o,its,n,hk,hc,hs,hz,r⟩
 · obtain⟨z,its,r,p⟩:=h.ok I.hok;exact⟨its,r,p.tup,z⟩
 · refine⟨its.toList,r,⟨o,I.kIn a o hk,hc,n,by simpa using hs⟩,?_⟩;have e:=r.length;simp only[A9] at e;omega
theorem Inv.list_inj(I:Inv X pins σ H s)(h:SqL X.K H a xs)(h':SqL X.K H a ys):xs=ys:=by
 obtain⟨its,r,⟨o,n,e,_,_,d⟩,_⟩:=I.list h;obtain⟨its',r',⟨o',n',e',_,_,d'⟩,_⟩:=I.list h';rw[e] at e';cases e';rw[d] at d';injection d' with d1 _;have:its=its':=by simpa using congrArg Array.toList d1
 subst this;exact r.inj r'
theorem Inv.tuple_inj(I:Inv X pins σ H s)(h:SqT X.K H a xs)(h':SqT X.K H a ys):xs=ys:=by
 obtain⟨its,r,⟨o,e,_,n,d⟩,_⟩:=I.tuple h;obtain⟨its',r',⟨o',e',_,n',d'⟩,_⟩:=I.tuple h';rw[e] at e';cases e';rw[d] at d';injection d' with d1 _;have:its=its':=by simpa using congrArg Array.toList d1
 subst this;exact r.inj r'
end
noncomputable abbrev Cx.wish(X:Cx)(E:Value→Shared→Prop):Cx:={X with xe:=E}
noncomputable abbrev Cx.nox(X:Cx):Cx:=X.wish λ_ _=>False
theorem Cx.Ok.wish{X:Cx}(ok:X.Ok)(E:Value→Shared→Prop):(X.wish E).Ok:=
 ⟨ok.mod,ok.kind,ok.glob,ok.blt,ok.above,ok.inj,ok.has,ok.cab,ok.hd,ok.frames,ok.stk,ok.exf,ok.bs,ok.bsz,ok.noex,ok.exfs,ok.funs,ok.frf⟩
theorem Cx.Ok.unwish{X:Cx}(ok:(X.wish E).Ok):X.Ok:=
 ⟨ok.mod,ok.kind,ok.glob,ok.blt,ok.above,ok.inj,ok.has,ok.cab,ok.hd,ok.frames,ok.stk,ok.exf,ok.bs,ok.bsz,ok.noex,ok.exfs,ok.funs,ok.frf⟩
section
variable{X:Cx}{σ:St}{H:Hp}
theorem Inv.wish(I:Inv X pins σ H s)(E:Value→Shared→Prop):Inv (X.wish E) pins σ H s:=⟨I.ok.wish E,I.os,I.bare,I.base,I.loc,I.cell,I.free,I.freeC,I.pin,I.hok,I.len⟩
theorem Inv.unwish(I:Inv (X.wish E) pins σ H s):Inv X pins σ H s:=⟨I.ok.unwish,I.os,I.bare,I.base,I.loc,I.cell,I.free,I.freeC,I.pin,I.hok,I.len⟩
theorem SP.unwish{D:Ends}{f:Flow}{s':Shared}(h:SP (X.wish E) pins D f s'):SP X pins D f s':=by
 cases f with
 | next=>obtain⟨σ',H',I,q⟩:=h;exact⟨σ',H',I.unwish,q⟩
 | brk=>obtain⟨σ',H',I,q⟩:=h;exact⟨σ',H',I.unwish,q⟩
 | cont=>obtain⟨σ',H',I,q⟩:=h;exact⟨σ',H',I.unwish,q⟩
 | ret u=>obtain⟨v,σ',H',I,r,q⟩:=h;exact⟨v,σ',H',I.unwish,r,q⟩
theorem PSs.nox{st:List Stmt}{t:TS}(h:PSs X.nox st t):PSs X st t:=λpins s σ H D I hw=> A5 (h pins s σ H D (I.wish _) hw) (λ_ _ q=>q.unwish) λ_ _ z=>Dg z
end
section
variable{X:Cx}{st:Stmt}{rest:List Stmt}{t u:TS}{te:TE}
noncomputable def SR:TS:=λD σ H=>D.nx σ H
noncomputable def M_(t u:TS):TS:=λD σ H=>t {D with nx:=u D} σ H
theorem Jm:PSs X [] SR:=λ_ _ σ H _ I h=>Gb ⟨σ,H,I,h⟩
theorem II(h1:PS X st t)(h2:PSs X rest u):PSs X (st::rest) (M_ t u):=by
 intro pins s σ H D I h;refine wpAny_execs_cons (IG (h1 pins s σ H {D with nx:=u D} I h) λf s1 q=>?_)
 cases f with
 | next=> obtain⟨σ',H',I',q⟩:=q;exact h2 pins s1 σ' H' D I' q
 | ret v=>exact q
 | brk=>exact q
 | cont=>exact q
theorem IL(h1:PS X st t):PSs X [st] t:=by
 intro pins s σ H D I h;refine wpAny_execs_cons (IG (h1 pins s σ H D I h) λf s1 q=>?_);cases f with
 | next=>exact Gb q
 | ret v=>exact q
 | brk=>exact q
 | cont=>exact q
theorem Inv.quiet{σ:St}{H:Hp}(I:Inv X pins σ H s):interactive X.env=false:=by simp[interactive,I.ok.kind]
noncomputable def W_(te:TE):TS:=λD σ H=>te σ H λ_ H1=>D.nx σ H1
theorem L0(he:PE X e te)(hs:swapsWith e none pos.line X.env=pure false:=by rfl):PS X (.Expr e pos) (W_ te):=by intro pins s σ H D I h;exact wpAny_Expr_any (IG (he pins s σ H _ I h) λv s1 ⟨x,H1,I1,r1,q1⟩=>⟨σ,H1,I1,q1⟩) I.quiet hs
noncomputable def RN(te:TE):TS:=λD σ H=>te σ H D.rt
theorem IT(he:PE X e te):PS X (.Return (some e) pos) (RN te):=by intro pins s σ H D I h;exact wpAny_Return_some (IG (he pins s σ H _ I h) λv s1 ⟨x,H1,I1,r1,q1⟩=>⟨x,σ,H1,I1,r1,q1⟩)
noncomputable def RU(c:TT)(t u:TS):TS:=λD σ H=>c σ H λb H1=>if b=true then t D σ H1 else u D σ H1
theorem Jo{c:Expr}{a b:List Stmt}{tc:TT}(hc:PT X c tc)(ha:PSs X a t)(hb:PSs X b u):PS X (.If c a b pos) (RU tc t u):=by
 intro pins s σ H D I h;refine wpAny_If (IG (hc pins s σ H _ I h) λd s1 ⟨H1,I1,q1⟩=>?_);cases d with
 | true=>exact ha pins s1 σ H1 D I1 q1
 | false=>exact hb pins s1 σ H1 D I1 q1
noncomputable def Xr:TS:=λ_ _ _=>False
theorem QT:PS X st Xr:=λ_ _ _ _ _ _ h=>h.elim
end
noncomputable abbrev TG:=V→St→Hp→(St→Hp→Prop)→Prop
noncomputable abbrev MA:=List V→St→Hp→(St→Hp→Prop)→Prop
noncomputable def PG(X:Cx)(target:Expr)(t:TG):Prop:=
 ∀(pins:List (Addr×Obj))(s:Shared)(σ:St)(H:Hp)(v:V)(u:Value)(Q:St→Hp→Prop),Inv X pins σ H s→RelV v u→t v σ H Q→
  wpAny (model X.prog X.w) X.A (assign target X.env u) (λ_ s'=>∃σ' H',Inv X pins σ' H' s'∧Q σ' H') X.xe s
noncomputable def OO(X:Cx)(ts:List Expr)(t:MA):Prop:=
 ∀(pins:List (Addr×Obj))(s:Shared)(σ:St)(H:Hp)(vs:List V)(us:List Value)(Q:St→Hp→Prop),Inv X pins σ H s→Vals vs us→t vs σ H Q→
  wpAny (model X.prog X.w) X.A (assignInOrder ((assignEach ts X.env).map (·.2)) us) (λ_ s'=>∃σ' H',Inv X pins σ' H' s'∧Q σ' H') X.xe s
noncomputable abbrev Ni:=V→V→V→Hp→(Hp→Prop)→Prop
noncomputable def ON(X:Cx)(t:Ni):Prop:=
 ∀(pins:List (Addr×Obj))(s:Shared)(σ:St)(H:Hp)(o i v:V)(ov iv u:Value)(Q:Hp→Prop),Inv X pins σ H s→RelV o ov→RelV i iv→RelV v u→t o i v H Q→
  wpAny (model X.prog X.w) X.A (setItem ov iv u) (λ_ s'=>∃H',Inv X pins σ H' s'∧Q H') X.xe s
section
variable{X:Cx}
noncomputable def KI(i:Nat):TG:=λv σ H Q=>Q (σ.set i (some v)) H
theorem IP{x:Str}(hN:X.N.Nodup)(hi:X.N[i]?=some x)(hx:NM X.env.scope x)(hf:X.fn x=true∨X.env.scope.names.lookup x=some .local:=by first | exact .inl rfl | exact .inr rfl | assumption):PG X (.Name x pos) (KI i):=by intro pins s σ H v u Q I r h;exact Ft (UO I hN hi hx r (λs' I'=>⟨_,H,I',h⟩) hf)
noncomputable def S0:MA:=λvs σ H Q=>vs=[]∧Q σ H
noncomputable def Xp(t:TG)(u:MA):MA:=λvs σ H Q=>∃v r,vs=v::r∧t v σ H λσ' H'=>u r σ' H' Q
theorem Kh:OO X [] S0:=by intro pins s σ H vs us Q I r h;obtain⟨e,h⟩:=h;subst e;cases r;exact assignInOrder_nil ⟨σ,H,I,h⟩
theorem Jg{es:List Expr}{t:TG}{u:MA}(h1:PG X e t)(h2:OO X es u)
 (hs:(assignEach (e::es) X.env).map (·.2)=assign e X.env::(assignEach es X.env).map (·.2):=by rfl):OO X (e::es) (Xp t u):=by
 intro pins s σ H vs us Q I r h;obtain⟨v,vr,e1,h⟩:=h;subst e1;cases r with
 | cons r rr=> rw[hs];refine assignInOrder_cons (IG (h1 pins s σ H _ _ _ I r h) λ_ s1 ⟨σ1,H1,I1,q1⟩=>?_);exact h2 pins s1 σ1 H1 _ _ Q I1 rr q1
noncomputable def OL(K:Ae)(n:Nat)(t:MA):TG:=λv σ H Q=>∃a xs,v= .ref a∧SqT K H a xs∧xs.length=n∧t xs σ H Q
theorem K6{es:List Expr}{k:Nat}{t:MA}{n:Nat}(hc:X.calm=true)(h:OO X es t)
 (hn:(assignEach es X.env).length=n:=by rfl) (hst:(assignEach es X.env).findIdx? (·.1)=none:=by rfl):PG X (.Tuple es k pos) (OL X.K n t):=by
 intro pins s σ H v u Q I r hw;obtain⟨a,xs,e1,hq,hl,hw⟩:=hw;subst e1;cases r;obtain⟨its,rv,ht,hz⟩:=I.tuple hq;refine assign_Tuple_tuple (I.ok.hd hc) ht (by simp[hn,←hl,rv.length]) hst λh' hx=>?_;have I1:Inv X pins σ H {s with heap:=h'}:=I.kept (t':=s.toks) λb o e=>hx b o (Ar (Am e)) e
 exact h pins _ σ H xs _ Q I1 (by simpa using rv) hw
noncomputable def Sz(to ti:TE)(t:Ni):TG:=λv σ H Q=>to σ H λo H1=>ti σ H1 λi H2=>t o i v H2 λH3=>Q σ H3
theorem Qx{o i:Expr}{to ti:TE}{t:Ni}(ho:PE X o to)(hi:PE X i ti)(hs:ON X t)
 (ha:∀v,assign (.Subscript o i pos) X.env v=(do
  let ov ←holding [v] (eval o X.env)
  let iv ←holding [v,ov] (eval i X.env)
  standAt pos
  holding [v,ov,iv] (setItem ov iv v)
  release [v,ov,iv] []):=by intro _;rfl):PG X (.Subscript o i pos) (Sz to ti t):=by
 intro pins s σ H v u Q I r h;rw[ha];refine Aa (AN (IG (ho pins s σ H _ I h) λov s1 ⟨x,H1,I1,r1,q1⟩=>?_));refine Aa (AN (IG (hi pins s1 σ H1 _ I1 q1) λiv s2 ⟨y,H2,I2,r2,q2⟩=>?_));refine Aa (Bz (Aa (AN (IG (hs pins s2 σ H2 x y v ov iv u _ I2 r1 r2 r q2) λ_ s3 ⟨H3,I3,q3⟩=>?_))));exact wpAny_release ⟨σ,H3,I3,q3⟩
noncomputable def L3(te:TE)(g:TG):TS:=λD σ H=>te σ H λx H1=>g x σ H1 D.nx
theorem Lu{tg:Expr}{te:TE}{g:TG}(he:PE X e te)(hg:PG X tg g)(hs:swapsWithSole [tg] e pos.line X.env=pure false:=by rfl)(hw:swappedStores [tg] e X.env=pure none:=by rfl)
 (h1:(assignEach [tg] X.env).map (·.2)=[assign tg X.env]:=by rfl):PS X (.Assign [tg] e pos) (L3 te g):=by
 intro pins s σ H D I h;refine wpAny_Assign_stores (IG (he pins s σ H _ I h) λv s1 ⟨x,H1,I1,r1,q1⟩=>?_) hs hw;rw[h1];exact IG (hg pins s1 σ H1 x v _ I1 r1 q1) λ_ s2 q=>q
theorem IY{x:Str}{te:TE}{pos':Pos}(hN:X.N.Nodup)(hi:X.N[i]?=some x)(hx:NM X.env.scope x)(he:PE X e te)(hs:swapsWith e (some (.Name x pos')) pos.line X.env=pure false:=by rfl)(hf:X.fn x=true∨X.env.scope.names.lookup x=some .local:=by first | exact .inl rfl | exact .inr rfl | assumption):
 PS X (.Assign [.Name x pos'] e pos) (L3 te (KI i)):=by
 intro pins s σ H D I h;refine wpAny_Assign_Name (IG (he pins s σ H _ I h) λv s1 ⟨y,H1,I1,r1,q1⟩=>?_) hs;exact UO I1 hN hi hx r1 (λs2 I2=>⟨_,H1,I2,q1⟩) hf
end
section
variable{X:Cx}
end
structure It where
 go:Nat→Hp→Prop
 yld:Nat→Hp→V→Hp→Prop
 stop:Nat→Hp→Prop
noncomputable def IJ(X:Cx)(pins:List (Addr×Obj))(H:Hp)(b:Addr):Prop:=
 H b=none∧b≠X.env.locals∧b ∉ X.fs∧(b∈X.ex∨X.s₀.heap.objs.size≤b)∧(∀x c,X.env.cells.lookup x=some c→c≠b)∧∀p∈X.pn++pins,p.1≠b
theorem Inv.fpOk{X:Cx}{σ:St}{H H':Hp}(I:Inv X pins σ H s)(hb:s.heap.objs.size≤b)(hn:H' b=none):IJ X pins H' b:=by
 refine⟨hn,C2 (AG I.lt hb),I.nofs hb,.inr (AD I.sz hb),λx c e z=>?_,λp hp z=>?_⟩
 · obtain⟨v,q⟩:=I.cell x c e;exact absurd (AG q.lt (by rw[z];exact hb)) (Ds _)
 · exact absurd (AG (Am (I.pin p hp).1) (by rw[z];exact hb)) (Ds _)
structure Turn(P:Bp)(w:World)(K:Ae)(tg:Expr)(J:It)(fp:List Addr)(it:Addr)(tn:Nat→Heap→Prop):Prop where
 mem:it∈fp
 obj:∀i h,tn i h→∀b∈fp,∃o,h.get? b=some o∧∀v,o.data≠ .cell v
 keep:∀i h h',tn i h→(∀b∈fp,∀o,h.get? b=some o→h'.get? b=some o)→tn i h'
 item:∀(X:Cx),X.prog=P→X.w=w→X.K=K→X.calm=true→∀(i:Nat)(pins:List (Addr×Obj))(s:Shared)(σ:St)(H:Hp)(E:Value→Shared→Prop),Inv X pins σ H s→(∀b∈fp,IJ X pins H b)→tn i s.heap→J.go i H→
  wpAny (model P w) X.A (pyNext (.ref it)) (λr s1=>∃u,r=some u∧
   wpAny (model P w) X.A (BO tg (.ref it) u) (λ_ s2=>∃x H',Inv X pins σ H' s2∧RelV x u∧J.yld i H x H'∧tn (i+1) s2.heap∧∀b∈fp,H' b=none) E s1) E s
 done:∀(X:Cx),X.prog=P→X.w=w→X.K=K→X.calm=true→∀(i:Nat)(pins:List (Addr×Obj))(s:Shared)(σ:St)(H:Hp)(E:Value→Shared→Prop),Inv X pins σ H s→(∀b∈fp,IJ X pins H b)→tn i s.heap→J.stop i H→
  wpAny (model P w) X.A (pyNext (.ref it)) (λr s1=>r=none∧Inv X pins σ H s1) E s
 self:∀(A:BE)(i:Nat)(s:Shared)(Q:Value→Shared→Prop)(E:Value→Shared→Prop),tn i s.heap→Q (.ref it) s→wpAny (model P w) A (pyIter (.ref it)) Q E s
noncomputable abbrev TI:=St→Hp→(It→Hp→Prop)→Prop
noncomputable def WJ(X:Cx)(pins:List (Addr×Obj))(σ:St)(tg:Expr)(R:It→Hp→Prop)(itv:Value)(s2:Shared):Prop:=
 ∃(it:Addr)(fp:List Addr)(tn:Nat→Heap→Prop)(J:It)(H':Hp),itv= .ref it∧Inv X pins σ H' s2∧Turn X.prog X.w X.K tg J fp it tn∧tn 0 s2.heap∧(∀b∈fp,IJ X pins H' b)∧R J H'
noncomputable def PI(X:Cx)(tg iter:Expr)(wi:TI):Prop:=
 ∀(pins:List (Addr×Obj))(s:Shared)(σ:St)(H:Hp)(R:It→Hp→Prop),Inv X pins σ H s→wi σ H R→
  wpAny (model X.prog X.w) X.A (eval iter X.env) (λv s1=>wpAny (model X.prog X.w) X.A (pyIter v) (WJ X pins σ tg R) X.xe s1) X.xe s
theorem MI{M:Model}{A:BE}{E:Value→Shared→Prop}{tg:Expr}{it:Addr}{u:Value}{o:Obj}{n:String}{vs:Array Value}{Q:Unit→Shared→Prop}(ho:s.heap.get? it=some o)(hc:o.cls= .type n)(hd:o.data= .fields vs)
 (hn:["enumerate","zip","dict_itemiterator","dict_reverseitemiterator","odict_iterator","itertools.zip_longest","itertools.pairwise"].contains n=false) (hQ:Q () s):wpAny M A (BO tg (.ref it) u) Q E s:=by
 unfold BO;cases tg<;>first
  | exact Ac hQ
  | (cases u<;>first
   | exact Ac hQ
   | (refine Aa (wpAny_load ho ?_)
      rw[hc,hd];show wpAny M A (if(["enumerate","zip","dict_itemiterator","dict_reverseitemiterator","odict_iterator","itertools.zip_longest","itertools.pairwise"].contains n && vs[0]?==some (rawInt _))=true then _ else _) Q E s
      rw[if_neg (by intro h;rw[hn,Bool.false_and] at h;cases h)];exact Ac hQ))
noncomputable def Ln(K:Ae)(a:Addr):It:=
 ⟨λi H=>∃xs x,SqL K H a xs∧xs[i]?=some x,λi H x H'=>H'=H∧∀xs,SqL K H a xs→xs[i]?=some x,λi H=>∃xs,SqL K H a xs∧xs.length≤i⟩
noncomputable def LO(K:Ae)(a:Addr):It:=
 ⟨λi H=>∃xs x,SqT K H a xs∧xs[i]?=some x,λi H x H'=>H'=H∧∀xs,SqT K H a xs→xs[i]?=some x,λi H=>∃xs,SqT K H a xs∧xs.length≤i⟩
noncomputable def Mn(lo:Int)(n:Nat):It:=⟨λi _=>i<n,λi H x H'=>H'=H∧x= .int (lo+i),λi _=>n≤i⟩
theorem zjU{K:Ae}{tg:Expr}(a it:Addr):Turn P w K tg (Ln K a) [it] it (λi h=>h.IsListIter it a i) where
 mem:=by simp
 obj:=λi h st b hb=>by
  have e:b=it:=by simpa using hb
  subst e;obtain⟨o,e,c,d⟩:=st;exact⟨o,e,λv z=>by rw[d] at z;cases z⟩
 keep:=λi h h' st k=>st.at λo e=>k it (by simp) o e
 item:=by
  intro X hP hw hK hc i pins s σ H E I hf st hg;subst hP hw hK;obtain⟨xs,x,hq,hx⟩:=hg;obtain⟨its,rv,p,hz⟩:=I.list hq;obtain⟨u,hu,ru⟩:=rv.get hx;obtain⟨f0,f1,f2,f3,f4,f5⟩:=hf it (by simp);refine wpAny_pyNext_list_item st p.isList (x:=u) (by simpa using hu) λh' st' sb=>?_;have I1:Inv X pins σ H {s with heap:=h'}:=I.turned (t':=s.toks) (λb o hb e=>(sb.2 b hb).trans e) f0 f1 f3 f4 f5
  obtain⟨o,e,c,d⟩:=id st';exact⟨u,rfl,MI (s:={s with heap:=h'}) e c d (by decide) ⟨x,H,I1,ru,⟨rfl,λys hy=>by rw[I.list_inj hy hq];exact hx⟩,st',λb hb=>(hf b hb).1⟩⟩
 done:=by intro X hP hw hK hc i pins s σ H E I hf st hg;subst hP hw hK;obtain⟨xs,hq,hx⟩:=hg;obtain⟨its,rv,p,hz⟩:=I.list hq;obtain⟨f0,f1,f2,f3,f4,f5⟩:=hf it (by simp);have hl:=rv.length;exact wpAny_pyNext_list_end (I.ok.hd hc) st p.isList (by simp;omega) λh' eb=>⟨rfl,I.turned (t':=s.toks) (λb o hb e=>eb b o hb e) f0 f1 f3 f4 f5⟩
 self:=λ_ _ _ _ _ st h=>wpAny_pyIter_listiter st h
theorem zi9{K:Ae}{tg:Expr}(a it:Addr):Turn P w K tg (LO K a) [it] it (λi h=>h.IsTupleIter it a i) where
 mem:=by simp
 obj:=λi h st b hb=>by
  have e:b=it:=by simpa using hb
  subst e;obtain⟨o,e,c,d⟩:=st;exact⟨o,e,λv z=>by rw[d] at z;cases z⟩
 keep:=λi h h' st k=>st.at λo e=>k it (by simp) o e
 item:=by
  intro X hP hw hK hc i pins s σ H E I hf st hg;subst hP hw hK;obtain⟨xs,x,hq,hx⟩:=hg;obtain⟨its,rv,p,hz⟩:=I.tuple hq;obtain⟨u,hu,ru⟩:=rv.get hx;obtain⟨f0,f1,f2,f3,f4,f5⟩:=hf it (by simp);refine FW st (show s.heap.IsTuple a its.toArray from p) (x:=u) (by simpa using hu) λh' st' sb=>?_;have I1:Inv X pins σ H {s with heap:=h'}:=I.turned (t':=s.toks) (λb o hb e=>(sb.2 b hb).trans e) f0 f1 f3 f4 f5
  obtain⟨o,e,c,d⟩:=id st';exact⟨u,rfl,MI (s:={s with heap:=h'}) e c d (by decide) ⟨x,H,I1,ru,⟨rfl,λys hy=>by rw[I.tuple_inj hy hq];exact hx⟩,st',λb hb=>(hf b hb).1⟩⟩
 done:=by intro X hP hw hK hc i pins s σ H E I hf st hg;subst hP hw hK;obtain⟨xs,hq,hx⟩:=hg;obtain⟨its,rv,p,hz⟩:=I.tuple hq;obtain⟨f0,f1,f2,f3,f4,f5⟩:=hf it (by simp);have hl:=rv.length;exact Gj (I.ok.hd hc) st (show s.heap.IsTuple a its.toArray from p) (by simp;omega) λh' eb=>⟨rfl,I.turned (t':=s.toks) (λb o hb e=>eb b o hb e) f0 f1 f3 f4 f5⟩
 self:=λ_ _ _ _ _ st h=>wpAny_pyIter_tupleiter st h
theorem zja{K:Ae}{tg:Expr}(it:Addr)(lo:Int)(n:Nat):Turn P w K tg (Mn lo n) [it] it (λi h=>IsRangeIter h it (lo+(i:Nat)*1) ((n:Int) - (i:Nat)) 1) where
 mem:=by simp
 obj:=λi h st b hb=>by
  have e:b=it:=by simpa using hb
  subst e;exact⟨_,st,λv z=>by have z':Data.fields _=Data.cell v:=z;cases z'⟩
 keep:=λi h h' st k=>k it (by simp) _ st
 item:=by
  intro X hP hw hK hc i pins s σ H E I hf st hg;subst hP hw hK;obtain⟨f0,f1,f2,f3,f4,f5⟩:=hf it (by simp);have W:=Walks.range (prog:=X.prog) (w:=X.w) (I.ok.hd hc) it lo 1 n;refine W.item i s _ _ hg st λv h' tk hv st' kk=>?_;obtain⟨t,rfl⟩:=hv;have I1:Inv X pins σ H {s with heap:=h',toks:=tk}:=I.turned (λb o hb e=>kk b o (by simpa using hb) e) f0 f1 f3 f4 f5
  refine⟨_,rfl,MI (s:={s with heap:=h',toks:=tk}) (n:="range_iterator") st' rfl rfl (by decide) ⟨.int (lo+i),H,I1,⟨t,?_⟩,⟨rfl,rfl⟩,st',λb hb=>(hf b hb).1⟩⟩
  rw[Int.mul_one]
 done:=by intro X hP hw hK hc i pins s σ H E I hf st hg;subst hP hw hK;obtain⟨f0,f1,f2,f3,f4,f5⟩:=hf it (by simp);exact wpAny_pyNext_range_end (I.ok.hd hc) st (by have:n≤i:=hg;omega) λh' eb=>⟨rfl,I.turned (t':=s.toks) (λb o hb e=>eb b o hb e) f0 f1 f3 f4 f5⟩
 self:=λ_ _ _ _ _ st h=>wpAny_pyIter_rangeiter st h
section
variable{X:Cx}{tg:Expr}
noncomputable def S_(K:Ae)(tl:TE):TI:=λσ H R=>tl σ H λx H1=>∃a,x= .ref a∧(∃xs,SqL K H1 a xs)∧R (Ln K a) H1
noncomputable def OK(K:Ae)(tl:TE):TI:=λσ H R=>tl σ H λx H1=>∃a,x= .ref a∧(∃xs,SqT K H1 a xs)∧R (LO K a) H1
theorem JO{l:Expr}{tl:TE}(hl:PE X l tl):PI X tg l (S_ X.K tl):=by
 intro pins s σ H R I h;refine IG (hl pins s σ H _ I h) λv s1 ⟨x,H1,I1,r1,q1⟩=>?_;obtain⟨a,e,⟨xs,hq⟩,q⟩:=q1;subst e;cases r1;obtain⟨its,rv,p,hz⟩:=I1.list hq;refine Ed p.isList ?_;refine⟨s1.heap.objs.size,[s1.heap.objs.size],_,_,H1,rfl,I1.kept (t':=s1.toks) λb o e=>Ad _ e,zjU a _,⟨_,Ak _ rfl,rfl,rfl⟩,λb hb=>?_,q⟩;have e:b=s1.heap.objs.size:=by simpa using hb
 subst e;exact I1.fpOk (Ah _) (I1.hok.fresh (Ah _))
theorem KQ{l:Expr}{tl:TE}(hl:PE X l tl):PI X tg l (OK X.K tl):=by
 intro pins s σ H R I h;refine IG (hl pins s σ H _ I h) λv s1 ⟨x,H1,I1,r1,q1⟩=>?_;obtain⟨a,e,⟨xs,hq⟩,q⟩:=q1;subst e;cases r1;obtain⟨its,rv,p,hz⟩:=I1.tuple hq;refine CA (show s1.heap.IsTuple a its.toArray from p) ?_;refine⟨s1.heap.objs.size,[s1.heap.objs.size],_,_,H1,rfl,I1.kept (t':=s1.toks) λb o e=>Ad _ e,zi9 a _,⟨_,Ak _ rfl,rfl,rfl⟩,λb hb=>?_,q⟩;have e:b=s1.heap.objs.size:=by simpa using hb
 subst e;exact I1.fpOk (Ah _) (I1.hok.fresh (Ah _))
theorem Vm{σ:St}{H:Hp}{R:It→Hp→Prop}{E:Value→Shared→Prop}{lo hi:Int}{t u v:Tok}{tk:Nat}(I:Inv X pins σ H s)(h1: -(2^62)≤lo)(h2:lo<2^62)(h3: -(2^62)≤hi)(h4:hi<2^62)
 (q:R (Mn lo (hi - lo).toNat) H):wpAny (model X.prog X.w) X.A (pyIter (.ref s.heap.objs.size)) (WJ X pins σ tg R) E {s with heap:=s.heap.push {cls:= .type "range",data:= .fields #[.int lo t,.int hi u,.int 1 v]},toks:=tk}:=by
 refine wpAny_pyIter_range (IsRange.new ..) (small_one h1 h2 h3 h4) ?_;have I1:Inv X pins σ H {s with heap:=s.heap.push {cls:= .type "range",data:= .fields #[.int lo t,.int hi u,.int 1 v]},toks:=tk}:=I.kept λb o e=>Ad _ e
 refine⟨(s.heap.push {cls:= .type "range",data:= .fields #[.int lo t,.int hi u,.int 1 v]}).objs.size,[(s.heap.push {cls:= .type "range",data:= .fields #[.int lo t,.int hi u,.int 1 v]}).objs.size],_,_,H,rfl,
  I1.kept (t':=tk) λb o e=>Ad _ e,zja _ lo (hi - lo).toNat,?_,λb hb=>?_,q⟩
 · have e1:lo+((0:Nat):Int)*1=lo:=by simp
   have e2:(((hi - lo).toNat:Nat):Int) - ((0:Nat):Int)=Builtin.Range.rangeSize lo hi 1:=by rw[rangeSize_one];split<;>omega
   show IsRangeIter _ _ (lo+((0:Nat):Int)*1) ((((hi - lo).toNat:Nat):Int) - ((0:Nat):Int)) 1;rw[e1,e2];exact Ak _ rfl
 · have e:b=(s.heap.push {cls:= .type "range",data:= .fields #[.int lo t,.int hi u,.int 1 v]}).objs.size:=by simpa using hb
   subst e;exact I1.fpOk (Ah _) (I1.hok.fresh (Ah _))
noncomputable def WM(ta:TA):TI:=λσ H R=>ta σ H λvs H1=>∃j:Int,vs=[.int j]∧ -(2^62)≤j∧j<2^62∧R (Mn 0 j.toNat) H1
noncomputable def WN(ta:TA):TI:=λσ H R=>ta σ H λvs H1=>∃i j:Int,vs=[.int i,.int j]∧(-(2^62)≤i∧i<2^62∧ -(2^62)≤j∧j<2^62)∧R (Mn i (j - i).toNat) H1
theorem Oj{a:Expr}{ta:TA}{p:Pos}(hg:Gl X "range")(hm:X.mg "range"=none)(ha:PA X [a] ta)(hs:AL [a] X.env=[(false,eval a X.env)]:=by rfl):PI X tg (.Call (.Name "range" p) [a] [] pos) (WM ta):=by
 intro pins s σ H R I h;refine Call_ (LI I hg hm boot_range (Cc (IG (ha pos pins s σ H _ I h) λus s1 ⟨vs,H1,I1,r1,q1⟩=>?_) hs rfl));obtain⟨j,e,q1,q2,q⟩:=q1;subst e;cases r1 with
 | cons r rr=> cases rr;obtain⟨t,rfl⟩:=r;exact call_range_1 (Vm I1 (by omega) (by omega) q1 q2 (by simpa using q))
theorem zkC{a b:Expr}{ta:TA}{p pos:Pos}(hg:Gl X "range")(hm:X.mg "range"=none)(ha:PA X [a,b] ta)(hs:AL [a,b] X.env=[(false,eval a X.env),(false,eval b X.env)]:=by rfl)(hs2:AL [b] X.env=[(false,eval b X.env)]:=by rfl):
 PI X tg (.Call (.Name "range" p) [a,b] [] pos) (WN ta):=by
 intro pins s σ H R I h;refine Call_ (LI I hg hm boot_range (Cc (IG (ha pos pins s σ H _ I h) λus s1 ⟨vs,H1,I1,r1,q1⟩=>?_) (by rw[hs,hs2]) (by rw[hs2];rfl)));obtain⟨i,j,e,⟨q1,q2,q3,q4⟩,q⟩:=q1;subst e;cases r1 with
 | cons r rr=>
  cases rr with
  | cons r' rr=> cases rr;obtain⟨t,rfl⟩:=r;obtain⟨t',rfl⟩:=r';exact call_range_2 (Vm I1 q1 q2 q3 q4 q)
noncomputable def RV(wi:TI)(g:TG)(tb:TS):TS:=λD σ H=>wi σ H λJ H1=>∃W:Nat→Nat→St→Hp→Prop,(∃m,W 0 m σ H1)∧∀i m σ H,W i m σ H→
 (J.stop i H∧D.nx σ H)∨(J.go i H∧∃N:St→Hp→Prop,(∀σ' H',N σ' H'→∃m',m'<m∧W (i+1) m' σ' H')∧∀x H',J.yld i H x H'→g x σ H' λσ2 H2=>tb {D with nx:=N,ct:=N,bk:=D.nx} σ2 H2)
noncomputable def Ki(fp:List Addr)(h:Heap):List (Addr×Obj):=fp.filterMap λb=>(h.get? b).map λo=>(b,o)
theorem K9{fp:List Addr}{o:Obj}(hb:b∈fp)(e:h.get? b=some o):(b,o)∈Ki fp h:=DQ.mpr ⟨b,hb,by rw[e];rfl⟩
theorem Rc{fp:List Addr}{p:Addr×Obj}(hp:p∈Ki fp h):p.1∈fp∧h.get? p.1=some p.2:=by
 obtain⟨b,hb,e⟩:=DQ.mp hp;cases q:h.get? b with
 | none=>rw[q] at e;cases e
 | some o=> rw[q] at e;have e':(b,o)=p:=A4 e;subst e';exact⟨hb,q⟩
theorem Inv.pinned{σ:St}{H:Hp}{fp:List Addr}(I:Inv X pins σ H s)(hf:∀b∈fp,IJ X pins H b)(ho:∀b∈fp,∃o,s.heap.get? b=some o∧∀v,o.data≠ .cell v):Inv X (pins++Ki fp s.heap) σ H s:=
 I.pins_of λp hp=>(A3.mp hp).elim (λz=>I.pin p (Ai _ z)) λz=>by obtain⟨hb,e⟩:=Rc z;obtain⟨f0,f1,f2,_⟩:=hf p.1 hb;obtain⟨o,e',d⟩:=ho p.1 hb;rw[e] at e';cases e';exact⟨e,f0,f1,f2,d⟩
theorem Inv.unpinned{pl:List (Addr×Obj)}{σ:St}{H:Hp}(I:Inv X (pins++pl) σ H s):Inv X pins σ H s:=I.pins_of λp hp=>I.pin p (Ai _ (Bw _ hp))
theorem Kj{iter:Expr}{body:List Stmt}{wi:TI}{g:TG}{tb:TS}{pos:Pos}(hp:PassesOwn (model X.prog X.w) X.A X.env X.xe)(hc:X.calm=true)(hi:PI X tg iter wi)(hg:PG X tg g)(hb:PSs X body tb)
 (hs:∀x,Bc iter X.env x=pure x:=by intro _;rfl):PS X (.For tg iter body [] pos) (RV wi g tb):=by
 intro pins s σ H D I h;refine wpAny_For (IG (hi pins s σ H _ I h) λv s1 h1=>IG h1 λitv s2 h2=>?_) hs;obtain⟨it,fp,tn,J,H2,e,I2,T,st2,f2,W,⟨m0,w0⟩,turn⟩:=h2;subst e;have stat:∀{H':Hp},(∀b∈fp,H' b=none)→∀b∈fp,IJ X pins H' b:=λhn b hb=>⟨hn b hb,(f2 b hb).2⟩;refine codeAny_forLoop_any (λn s'=>∃i σ' H',Inv X pins σ' H' s'∧tn i s'.heap∧(∀b∈fp,H' b=none)∧W i n σ' H') ?_ m0 ⟨0,σ,H2,I2,st2,λb hb=>(f2 b hb).1,w0⟩;rintro n s3 ⟨i,σ3,H3,I3,st3,fr3,w3⟩;rcases turn i n σ3 H3 w3 with⟨stop,qn⟩ | ⟨go,N,hN,step⟩
 · refine DH hp (IG (T.done X rfl rfl rfl hc i pins s3 σ3 H3 X.xe I3 (stat fr3) st3 stop) λr s4 ⟨hr,I4⟩=>?_);subst hr;exact Gb ⟨σ3,H3,I4,qn⟩
 · refine DH hp (IG (T.item X rfl rfl rfl hc i pins s3 σ3 H3 X.xe I3 (stat fr3) st3 go) λr s4 ⟨u,hr,h4⟩=>?_);subst hr;refine DH hp (IG h4 λ_ s5 ⟨x,H5,I5,r5,y5,st5,fr5⟩=>?_);have I5':=I5.pinned (stat fr5) (T.obj _ _ st5);refine DH hp (IG (hg _ s5 σ3 H5 x u _ I5' r5 (step x H5 y5)) λ_ s6 ⟨σ6,H6,I6,q6⟩=>?_);refine DH hp (IG (hb _ s6 σ6 H6 _ I6 q6) λf s7 q7=>?_);have again:∀{σ7:St}{H7:Hp},Inv X (pins++Ki fp s5.heap) σ7 H7 s7→N σ7 H7→∃m,m<n∧∃i σ' H',Inv X pins σ' H' s7∧tn i s7.heap∧(∀b∈fp,H' b=none)∧W i m σ' H':=λ{σ7 H7}I7 n7=>by
    obtain⟨m',hm,w7⟩:=hN σ7 H7 n7;refine⟨m',hm,i+1,σ7,H7,I7.unpinned,T.keep _ _ _ st5 λb hb o e=>(I7.pin (b,o) (Ai _ (Ai _ (K9 hb e)))).1,λb hb=>?_,w7⟩;obtain⟨o,e,d⟩:=T.obj _ _ st5 b hb;exact(I7.pin (b,o) (Ai _ (Ai _ (K9 hb e)))).2.1
   cases f with
   | next=>obtain⟨σ7,H7,I7,n7⟩:=q7;exact again I7 n7
   | cont=>obtain⟨σ7,H7,I7,n7⟩:=q7;exact again I7 n7
   | brk=>obtain⟨σ7,H7,I7,q7⟩:=q7;exact⟨σ7,H7,I7.unpinned,q7⟩
   | ret v=>obtain⟨x7,σ7,H7,I7,r7,q7⟩:=q7;exact⟨x7,σ7,H7,I7.unpinned,r7,q7⟩
end
theorem L_{K:Ae}{xs:List V}{g:TG}{tb:TS}{D:Ends}{σ:St}{H:Hp}(Pv:Nat→St→Hp→Prop)(h0:Pv 0 σ H)(hl:∀i σ H,i≤xs.length→Pv i σ H→SqL K H a xs)
 (hs:∀i x σ H,xs[i]?=some x→Pv i σ H→g x σ H λσ2 H2=>tb {D with nx:=Pv (i+1),ct:=Pv (i+1),bk:=D.nx} σ2 H2) (hd:∀σ H,Pv xs.length σ H→D.nx σ H):
 ∃W:Nat→Nat→St→Hp→Prop,(∃m,W 0 m σ H)∧∀i m σ H,W i m σ H→
  ((Ln K a).stop i H∧D.nx σ H)∨((Ln K a).go i H∧∃N:St→Hp→Prop,(∀σ' H',N σ' H'→∃m',m'<m∧W (i+1) m' σ' H')∧∀x H',(Ln K a).yld i H x H'→g x σ H' λσ2 H2=>tb {D with nx:=N,ct:=N,bk:=D.nx} σ2 H2):=by
 refine⟨λi m σ H=>m=xs.length - i∧i≤xs.length∧Pv i σ H,⟨xs.length,by simp,AK _,h0⟩,?_⟩;rintro i m σ H ⟨rfl,hi,p⟩;have q:=hl i σ H hi p;by_cases hlt:i<xs.length
 · refine .inr ⟨⟨xs,xs[i],q,by simp[hlt]⟩,Pv (i+1),λσ' H' p'=>⟨xs.length - (i+1),by omega,rfl,hlt,p'⟩,λx H' y=>?_⟩;obtain⟨e,y⟩:=y;subst e;exact hs i x σ _ (y xs q) p
 · have e:i=xs.length:=by omega
   subst e;exact .inl ⟨⟨xs,q,Ah _⟩,hd σ H p⟩
theorem MN{K:Ae}{xs:List V}{g:TG}{tb:TS}{D:Ends}{σ:St}{H:Hp}(Pv:Nat→St→Hp→Prop)(h0:Pv 0 σ H)(hl:∀i σ H,i≤xs.length→Pv i σ H→SqT K H a xs)
 (hs:∀i x σ H,xs[i]?=some x→Pv i σ H→g x σ H λσ2 H2=>tb {D with nx:=Pv (i+1),ct:=Pv (i+1),bk:=D.nx} σ2 H2) (hd:∀σ H,Pv xs.length σ H→D.nx σ H):
 ∃W:Nat→Nat→St→Hp→Prop,(∃m,W 0 m σ H)∧∀i m σ H,W i m σ H→
  ((LO K a).stop i H∧D.nx σ H)∨((LO K a).go i H∧∃N:St→Hp→Prop,(∀σ' H',N σ' H'→∃m',m'<m∧W (i+1) m' σ' H')∧∀x H',(LO K a).yld i H x H'→g x σ H' λσ2 H2=>tb {D with nx:=N,ct:=N,bk:=D.nx} σ2 H2):=by
 refine⟨λi m σ H=>m=xs.length - i∧i≤xs.length∧Pv i σ H,⟨xs.length,by simp,AK _,h0⟩,?_⟩;rintro i m σ H ⟨rfl,hi,p⟩;have q:=hl i σ H hi p;by_cases hlt:i<xs.length
 · refine .inr ⟨⟨xs,xs[i],q,by simp[hlt]⟩,Pv (i+1),λσ' H' p'=>⟨xs.length - (i+1),by omega,rfl,hlt,p'⟩,λx H' y=>?_⟩;obtain⟨e,y⟩:=y;subst e;exact hs i x σ _ (y xs q) p
 · have e:i=xs.length:=by omega
   subst e;exact .inl ⟨⟨xs,q,Ah _⟩,hd σ H p⟩
theorem Ra{lo:Int}{n:Nat}{g:TG}{tb:TS}{D:Ends}{σ:St}{H:Hp}(Pv:Nat→St→Hp→Prop)(h0:Pv 0 σ H)
 (hs:∀i σ H,i<n→Pv i σ H→g (.int (lo+i)) σ H λσ2 H2=>tb {D with nx:=Pv (i+1),ct:=Pv (i+1),bk:=D.nx} σ2 H2) (hd:∀σ H,Pv n σ H→D.nx σ H):
 ∃W:Nat→Nat→St→Hp→Prop,(∃m,W 0 m σ H)∧∀i m σ H,W i m σ H→
  ((Mn lo n).stop i H∧D.nx σ H)∨((Mn lo n).go i H∧∃N:St→Hp→Prop,(∀σ' H',N σ' H'→∃m',m'<m∧W (i+1) m' σ' H')∧∀x H',(Mn lo n).yld i H x H'→g x σ H' λσ2 H2=>tb {D with nx:=N,ct:=N,bk:=D.nx} σ2 H2):=by
 refine⟨λi m σ H=>m=n - i∧i≤n∧Pv i σ H,⟨n,by simp,AK _,h0⟩,?_⟩;rintro i m σ H ⟨rfl,hi,p⟩;by_cases hlt:i<n
 · refine .inr ⟨hlt,Pv (i+1),λσ' H' p'=>⟨n - (i+1),by omega,rfl,hlt,p'⟩,λx H' y=>?_⟩;obtain⟨e,y⟩:=y;subst e y;exact hs i σ _ hlt p
 · have e:i=n:=by omega
   subst e;exact .inl ⟨Ah _,hd σ H p⟩
noncomputable abbrev R2:=V→V→Hp→VK→Prop
noncomputable def J2(X:Cx)(f:Value→Value→Sem Value)(r:R2):Prop:=
 ∀(pins:List (Addr×Obj))(s:Shared)(σ:St)(H:Hp)(x y:V)(v u:Value)(Q:VK),Inv X pins σ H s→RelV x v→RelV y u→r x y H Q→
  wpAny (model X.prog X.w) X.A (f v u) (EP X pins σ Q) X.xe s
noncomputable def SB(X:Cx)(f:Value→Sem Value)(r:V→Hp→VK→Prop):Prop:=
 ∀(pins:List (Addr×Obj))(s:Shared)(σ:St)(H:Hp)(x:V)(v:Value)(Q:VK),Inv X pins σ H s→RelV x v→r x H Q→
  wpAny (model X.prog X.w) X.A (f v) (EP X pins σ Q) X.xe s
noncomputable def KH(X:Cx)(f:Value)(r:List V→Hp→VK→Prop):Prop:=
 ∀(pins:List (Addr×Obj))(s:Shared)(σ:St)(H:Hp)(xs:List V)(us:List Value)(Q:VK),Inv X pins σ H s→Vals xs us→r xs H Q→
  wpAny (model X.prog X.w) X.A (call f us) (EP X pins σ Q) X.xe s
noncomputable def SC(X:Cx)(r:V→Hp→(Bool→Hp→Prop)→Prop):Prop:=
 ∀(pins:List (Addr×Obj))(s:Shared)(σ:St)(H:Hp)(x:V)(v:Value)(Q:Bool→Hp→Prop),Inv X pins σ H s→RelV x v→r x H Q→
  wpAny (model X.prog X.w) X.A (truthy v) (TP X pins σ Q) X.xe s
noncomputable def Qf(r:R2)(ta tb:TE):TE:=λσ H Q=>ta σ H λx H1=>tb σ H1 λy H2=>r x y H2 Q
noncomputable def tUn(r:V→Hp→VK→Prop)(ta:TE):TE:=λσ H Q=>ta σ H λx H1=>r x H1 Q
noncomputable def rI(C:Int→Int→Prop)(g:Int→Int→V):R2:=λx y H Q=>∃i j,x= .int i∧y= .int j∧C i j∧Q (g i j) H
noncomputable def M5(g:Int→Int→V):R2:=λx y H Q=>∃i j,x= .int i∧y= .int j∧Q (g i j) H
noncomputable def rU(g:Int→V):V→Hp→VK→Prop:=λx H Q=>∃i,x= .int i∧Q (g i) H
section
variable{X:Cx}{a b c:Expr}{ta tb tc:TE}
theorem Ng(ha:PE X a ta)(hb:PE X b tb){σ:St}{H:Hp}{R:V→V→Hp→Prop}(I:Inv X pins σ H s)
 (h:ta σ H λx H1=>tb σ H1 λy H2=>R x y H2) {Q:Value→Shared→Prop} {f:Value→Value→Sem Value}
 (hf:∀v u s2 x y H2,Inv X pins σ H2 s2→RelV x v→RelV y u→R x y H2→wpAny (model X.prog X.w) X.A (f v u) Q X.xe s2):
 wpAny (model X.prog X.w) X.A (eval a X.env) (λv s₁=>wpAny (model X.prog X.w) X.A (eval b X.env) (λu s₂=>wpAny (model X.prog X.w) X.A (f v u) Q X.xe s₂) X.xe s₁) X.xe s:=by
 refine IG (ha pins s σ H _ I h) λv s1 ⟨x,H1,I1,r1,q1⟩=>?_;refine IG (hb pins s1 σ H1 _ I1 q1) λu s2 ⟨y,H2,I2,r2,q2⟩=>?_;exact hf v u s2 x y H2 I2 r1 r2 q2
theorem IW{op:Operator}{r:R2}(ho:J2 X (binaryOp op) r)(ha:PE X a ta)(hb:PE X b tb):PE X (.BinOp a op b pos) (Qf r ta tb):=by intro pins s σ H Q I h;exact wpAny_BinOp (Ng ha hb I h λv u s2 x y H2 I2 rx ry q=>ho pins s2 σ H2 x y v u Q I2 rx ry q)
theorem WR{op:UnaryOp}{r:V→Hp→VK→Prop}(ho:SB X (unaryOp op) r)(ha:PE X a ta):PE X (.UnaryOp op a pos) (tUn r ta):=by intro pins s σ H Q I h;exact UnaryOp_ (IG (ha pins s σ H _ I h) λv s1 ⟨x,H1,I1,r1,q1⟩=>ho pins s1 σ H1 x v Q I1 r1 q1)
theorem O0{f:Value→Value→Sem Value}{C:Int→Int→Prop}{g:Int→Int→Int}
 (rule:∀(i j:Int)(t u:Tok)(s:Shared)(Q:Value→Shared→Prop)(E:Value→Shared→Prop),C i j→Q (.int (g i j) s.toks) {s with toks:=s.toks+1}→wpAny (model X.prog X.w) X.A (f (.int i t) (.int j u)) Q E s):
 J2 X f (rI C λi j=> .int (g i j)):=by
 intro pins s σ H x y v u Q I rx ry h;obtain⟨i,j,rfl,rfl,hc,q⟩:=h;obtain⟨t,rfl⟩:=rx;obtain⟨t',rfl⟩:=ry;exact rule i j t t' s _ _ hc ⟨.int (g i j),H,I.tok _,⟨_,rfl⟩,q⟩
theorem Oz{f:Value→Value→Sem Value}{g:Int→Int→Int}
 (rule:∀(i j:Int)(t u:Tok)(s:Shared)(Q:Value→Shared→Prop)(E:Value→Shared→Prop),Q (.int (g i j) s.toks) {s with toks:=s.toks+1}→wpAny (model X.prog X.w) X.A (f (.int i t) (.int j u)) Q E s):
 J2 X f (M5 λi j=> .int (g i j)):=by
 intro pins s σ H x y v u Q I rx ry h;obtain⟨i,j,rfl,rfl,q⟩:=h;obtain⟨t,rfl⟩:=rx;obtain⟨t',rfl⟩:=ry;exact rule i j t t' s _ _ ⟨.int (g i j),H,I.tok _,⟨_,rfl⟩,q⟩
theorem Me{f:Value→Value→Sem Value}{g:Int→Int→Bool}
 (rule:∀(i j:Int)(t u:Tok)(s:Shared)(Q:Value→Shared→Prop)(E:Value→Shared→Prop),Q (.bool (g i j)) s→wpAny (model X.prog X.w) X.A (f (.int i t) (.int j u)) Q E s):
 J2 X f (M5 λi j=> .bl (g i j)):=by
 intro pins s σ H x y v u Q I rx ry h;obtain⟨i,j,rfl,rfl,q⟩:=h;obtain⟨t,rfl⟩:=rx;obtain⟨t',rfl⟩:=ry;exact rule i j t t' s _ _ ⟨.bl (g i j),H,I,rfl,q⟩
noncomputable def CMul(i j:Int):Prop:=(-(2^64)<i∧i<2^64)∨(-(2^64)<j∧j<2^64)
theorem CMul.ok{i j:Int}(h:CMul i j):IntMulOk i j:=by
 rcases h with⟨h1,h2⟩ | ⟨h1,h2⟩
 · exact .of_left (intBits_le_64 h1 h2)
 · exact .of_right (intBits_le_64 h1 h2)
theorem Ka:J2 X (binaryOp .Add) (M5 λi j=> .int (i+j)):=Oz λ_ _ _ _ _ _ _ q=>add_int q
theorem Mw:J2 X (binaryOp .Sub) (M5 λi j=> .int (i - j)):=Oz λ_ _ _ _ _ _ _ q=>sub_int q
theorem LV:J2 X (binaryOp .Mult) (rI CMul λi j=> .int (i*j)):=O0 λ_ _ _ _ _ _ _ hc q=>mul_int q hc.ok
theorem LU:J2 X (binaryOp .Mod) (rI (λ_ j=>0<j) λi j=> .int (i%j)):=O0 λi j _ _ _ _ _ hc q=>by have h1:(0:Int)<j:=hc;exact mod_int' (by omega) (by rw[Int.fmod_eq_emod_of_nonneg i (by omega)];exact q)
theorem unI{f:Value→Sem Value}{g:Int→Int}
 (rule:∀(i:Int)(t:Tok)(s:Shared)(Q:Value→Shared→Prop)(E:Value→Shared→Prop),Q (.int (g i) s.toks) {s with toks:=s.toks+1}→wpAny (model X.prog X.w) X.A (f (.int i t)) Q E s):
 SB X f (rU λi=> .int (g i)):=by
 intro pins s σ H x v Q I rx h;obtain⟨i,rfl,q⟩:=h;obtain⟨t,rfl⟩:=rx;exact rule i t s _ _ ⟨.int (g i),H,I.tok _,⟨_,rfl⟩,q⟩
theorem Xv:SB X (unaryOp .USub) (rU λi=> .int (-i)):=unI λ_ _ _ _ _ q=>neg_int q
end
noncomputable def Ov:V→V→Bool
 | .non,.non=>true | .non,.int _=>true | .int _,.non=>true | .non,.bl _=>true | .bl _,.non=>true | .non,.str _=>true | .str _,.non=>true
 | .int _,.int _=>true | .bl _,.bl _=>true | .str _,.str _=>true | .byt _,.byt _=>true
 | .int _,.str _=>true | .str _,.int _=>true | .bl _,.str _=>true | .str _,.bl _=>true
 | _,_=>false
noncomputable def rEq:R2:=λx y H Q=>Ov x y=true∧Q (.bl (decide (x=y))) H
noncomputable def rNe:R2:=λx y H Q=>Ov x y=true∧Q (.bl (!decide (x=y))) H
theorem TZ{i j:Int}:decide (V.int i=V.int j)=(i==j):=by rw[Bm];simp
theorem Th{i j:Bool}:decide (V.bl i=V.bl j)=(i==j):=by rw[Bm];simp
theorem T_{i j:Str}:decide (V.str i=V.str j)=(i==j):=by rw[Bm];simp
theorem TY{i j:Array UInt8}:decide (V.byt i=V.byt j)=(i.toList==j.toList):=by rw[Bm];cases i;cases j;simp
section
variable{X:Cx}{a b c:Expr}{ta tb tc:TE}
theorem J8{σ:St}{H:Hp}{Q:VK}{k k':Bool}(I:Inv X pins σ H s)(q:Q (.bl k) H)(e:k=k'):EP X pins σ Q (.bool k') s:=by subst e;exact⟨.bl k,H,I,rfl,q⟩
theorem Ld:J2 X (BF .Eq) rEq:=by
 intro pins s σ H x y v u Q I rx ry h;obtain⟨hs,q⟩:=h;cases x with
 | non=>
  cases rx;cases y with
  | non=>cases ry;exact PySem.EqNone.eq_none_none (J8 I q (by simp))
  | bl j=>cases ry;exact PySem.EqNone.eq_none_bool (J8 I q (by simp))
  | int j=>obtain⟨t',rfl⟩:=ry;exact PySem.EqNone.eq_none_int (J8 I q (by simp))
  | str j=>obtain⟨t',rfl⟩:=ry;exact PySem.EqNone.eq_none_str (J8 I q (by simp))
  | _=>exact absurd (show false=true from hs) Au
 | bl i=>
  cases rx;cases y with
  | non=>cases ry;exact PySem.EqNone.eq_bool_none (J8 I q (by simp))
  | bl j=>cases ry;exact eq_bool (J8 I q Th)
  | str j=>obtain⟨t',rfl⟩:=ry;exact PySem.EqMixed.eq_bool_str (J8 I q (by simp))
  | _=>exact absurd (show false=true from hs) Au
 | int i=>
  obtain⟨t,rfl⟩:=rx;cases y with
  | non=>cases ry;exact PySem.EqNone.eq_int_none (J8 I q (by simp))
  | int j=>obtain⟨t',rfl⟩:=ry;exact eq_int (J8 I q TZ)
  | str j=>obtain⟨t',rfl⟩:=ry;exact PySem.EqMixed.eq_int_str (J8 I q (by simp))
  | _=>exact absurd (show false=true from hs) Au
 | str i=>
  obtain⟨t,rfl⟩:=rx;cases y with
  | non=>cases ry;exact PySem.EqNone.eq_str_none (J8 I q (by simp))
  | bl j=>cases ry;exact PySem.EqMixed.eq_str_bool (J8 I q (by simp))
  | int j=>obtain⟨t',rfl⟩:=ry;exact PySem.EqMixed.eq_str_int (J8 I q (by simp))
  | str j=>obtain⟨t',rfl⟩:=ry;exact eq_str (J8 I q T_)
  | _=>exact absurd (show false=true from hs) Au
 | byt i=>
  obtain⟨t,rfl⟩:=rx;cases y with
  | byt j=>obtain⟨t',rfl⟩:=ry;exact PySem.W.eq_bytes (J8 I q TY)
  | _=>exact absurd (show false=true from hs) Au
 | _=>cases y<;>exact absurd (show false=true from hs) Au
theorem LB:J2 X (BF .NotEq) rNe:=by
 intro pins s σ H x y v u Q I rx ry h;obtain⟨hs,q⟩:=h;cases x with
 | non=>
  cases rx;cases y with
  | non=>cases ry;exact PySem.EqNone.ne_none_none (J8 I q (by simp))
  | bl j=>cases ry;exact PySem.EqNone.ne_none_bool (J8 I q (by simp))
  | int j=>obtain⟨t',rfl⟩:=ry;exact PySem.EqNone.ne_none_int (J8 I q (by simp))
  | str j=>obtain⟨t',rfl⟩:=ry;exact PySem.EqNone.ne_none_str (J8 I q (by simp))
  | _=>exact absurd (show false=true from hs) Au
 | bl i=>
  cases rx;cases y with
  | non=>cases ry;exact PySem.EqNone.ne_bool_none (J8 I q (by simp))
  | bl j=>cases ry;exact ne_bool (J8 I q (congrArg not Th))
  | str j=>obtain⟨t',rfl⟩:=ry;exact PySem.EqMixed.ne_bool_str (J8 I q (by simp))
  | _=>exact absurd (show false=true from hs) Au
 | int i=>
  obtain⟨t,rfl⟩:=rx;cases y with
  | non=>cases ry;exact PySem.EqNone.ne_int_none (J8 I q (by simp))
  | int j=>obtain⟨t',rfl⟩:=ry;exact ne_int (J8 I q (congrArg not TZ))
  | str j=>obtain⟨t',rfl⟩:=ry;exact PySem.EqMixed.ne_int_str (J8 I q (by simp))
  | _=>exact absurd (show false=true from hs) Au
 | str i=>
  obtain⟨t,rfl⟩:=rx;cases y with
  | non=>cases ry;exact PySem.EqNone.ne_str_none (J8 I q (by simp))
  | bl j=>cases ry;exact PySem.EqMixed.ne_str_bool (J8 I q (by simp))
  | int j=>obtain⟨t',rfl⟩:=ry;exact PySem.EqMixed.ne_str_int (J8 I q (by simp))
  | str j=>obtain⟨t',rfl⟩:=ry;exact ne_str (J8 I q (congrArg not T_))
  | _=>exact absurd (show false=true from hs) Au
 | byt i=>
  obtain⟨t,rfl⟩:=rx;cases y with
  | byt j=>obtain⟨t',rfl⟩:=ry;exact PySem.W.ne_bytes (J8 I q (congrArg not TY))
  | _=>exact absurd (show false=true from hs) Au
 | _=>cases y<;>exact absurd (show false=true from hs) Au
theorem NP:J2 X (BF .Lt) (M5 λi j=> .bl (decide (i<j))):=Me λ_ _ _ _ _ _ _ q=>lt_int q
theorem NO:J2 X (BF .LtE) (M5 λi j=> .bl (decide (i≤j))):=Me λ_ _ _ _ _ _ _ q=>le_int q
theorem Mt:J2 X (BF .Gt) (M5 λi j=> .bl (decide (j<i))):=Me λ_ _ _ _ _ _ _ q=>gt_int q
theorem WO:J2 X (BF .GtE) (M5 λi j=> .bl (decide (j≤i))):=Me λ_ _ _ _ _ _ _ q=>ge_int q
theorem zkH:J2 X (BF .Lt) (λx y H Q=>∃i j,x= .str i∧y= .str j∧Q (.bl (decide (i.cps.toList<j.cps.toList))) H):=by intro pins s σ H x y v u Q I rx ry h;obtain⟨i,j,rfl,rfl,q⟩:=h;obtain⟨t,rfl⟩:=rx;obtain⟨t',rfl⟩:=ry;exact lt_str (J8 I q rfl)
theorem Ji(b:Expr){op:CmpOp}(h:op≠ .In:=by decide)(h2:op≠ .NotIn:=by decide):behindInMarks op b=false:=by
 have e1:(op==CmpOp.In)=false:=by cases op<;>first | rfl | exact absurd rfl h
 have e2:(op==CmpOp.NotIn)=false:=by cases op<;>first | rfl | exact absurd rfl h2
 cases b<;>simp[behindInMarks,e1,e2]
theorem MP{op:CmpOp}{r:R2}(ho:J2 X (BF op) r)(ha:PE X a ta)(hb:PE X b tb)(hm:behindInMarks op b=false):PE X (.Compare a [op] [b] pos) (Qf r ta tb):=by intro pins s σ H Q I h;exact wpAny_Compare1 (Ng ha hb I h λv u s2 x y H2 I2 rx ry q=>ho pins s2 σ H2 x y v u Q I2 rx ry q) hm
noncomputable def SS(t:TE):TT:=λσ H Q=>t σ H λx H'=>∃k,x= .bl k∧Q k H'
theorem Jn{op:CmpOp}{r:R2}(ho:J2 X (BF op) r)(ha:PE X a ta)(hb:PE X b tb)(hm:behindInMarks op b=false):PT X (.Compare a [op] [b] pos) (SS (Qf r ta tb)):=by intro pins s σ H Q I h;refine wpAny_isTrue_Compare1 (IG (ha pins s σ H _ I h) λv s1 ⟨x,H1,I1,r1,q1⟩=>IG (hb pins s1 σ H1 _ I1 q1) λu s2 ⟨y,H2,I2,r2,q2⟩=> IG (ho pins s2 σ H2 x y v u _ I2 r1 r2 q2) λc s3 ⟨z,H3,I3,r3,k,e,q3⟩=>?_) hm;subst e;cases r3;exact Bk ⟨H3,I3,q3⟩
noncomputable def TH(r r':R2)(ta tb tc:TE):TE:=λσ H Q=>ta σ H λx H1=>tb σ H1 λy H2=>r x y H2 λz H3=>∃k,z= .bl k∧
 (if k=true then tc σ H3 λw' H4=>r' y w' H4 Q else Q (.bl false) H3)
theorem Zi{op op':CmpOp}{r r':R2}(ho:J2 X (BF op) r)(ho':J2 X (BF op') r')(ha:PE X a ta)(hb:PE X b tb)(hc:PE X c tc)
 (hm:lastMarks [op,op'] [b,c]=false:=by with_unfolding_all rfl):PE X (.Compare a [op,op'] [b,c] pos) (TH r r' ta tb tc):=by
 intro pins s σ H Q I h;refine Compare_chain (IG (ha pins s σ H _ I h) λv s1 ⟨x,H1,I1,r1,q1⟩=>chain_link (IG (hb pins s1 σ H1 _ I1 q1) λu s2 ⟨y,H2,I2,r2,q2⟩=> IG (ho pins s2 σ H2 x y v u _ I2 r1 r2 q2) λd s3 ⟨z,H3,I3,r3,k,e,q3⟩=>?_)) hm;subst e;cases r3;refine Bk ?_;cases k with
 | false=>exact ite_ff ⟨.bl false,H3,I3,rfl,q3⟩
 | true=>exact ite_tt (chain_last (IG (hc pins s3 σ H3 _ I3 q3) λw' s4 ⟨z',H4,I4,r4,q4⟩=>ho' pins s4 σ H4 y z' u w' Q I4 r2 r4 q4))
theorem Z_{op op':CmpOp}{r r':R2}(ho:J2 X (BF op) r)(ho':J2 X (BF op') r')(ha:PE X a ta)(hb:PE X b tb)(hc:PE X c tc)
 (hm:lastMarks [op,op'] [b,c]=false:=by with_unfolding_all rfl):PT X (.Compare a [op,op'] [b,c] pos) (SS (TH r r' ta tb tc)):=by
 intro pins s σ H Q I h;refine isTrue_chain (IG (ha pins s σ H _ I h) λv s1 ⟨x,H1,I1,r1,q1⟩=>test_link (IG (hb pins s1 σ H1 _ I1 q1) λu s2 ⟨y,H2,I2,r2,q2⟩=> IG (ho pins s2 σ H2 x y v u _ I2 r1 r2 q2) λd s3 ⟨z,H3,I3,r3,k,e,q3⟩=>?_)) hm;subst e;cases r3;refine Bk ?_;cases k with
 | false=> obtain⟨k',e',q'⟩:=q3;cases e';exact ite_ff ⟨H3,I3,q'⟩
 | true=> refine ite_tt (test_last (IG (hc pins s3 σ H3 _ I3 q3) λw' s4 ⟨z',H4,I4,r4,q4⟩=>IG (ho' pins s4 σ H4 y z' u w' _ I4 r2 r4 q4) λd' s5 ⟨z2,H5,I5,r5,k2,e2,q5⟩=>?_));subst e2;cases r5;exact Bk ⟨H5,I5,q5⟩
noncomputable def Nh(K:Ae)(x:V)(H:Hp)(k:Bool):Prop:=
 match x with
 | .non=>k=false
 | .bl b=>k=b
 | .int i=>k=(i !=0)
 | .str y=>y.length≤Ay∧k=((y.length:Int) !=0)
 | .byt y=>y.size≤Ay∧k=((y.size:Int) !=0)
 | .ref p=>(∃xs,SqL K H p xs∧k=!xs.isEmpty)∨(∃xs,SqT K H p xs∧k=!xs.isEmpty)∨∃kvs,H p=some (.dK kvs)∧k=!kvs.isEmpty
 | _=>False
theorem zjI{κ:Type}{kvs:List (κ×V)}{vs:List (κ×Value)}(r:KV kvs vs):(!vs.isEmpty)=!kvs.isEmpty:=by cases r<;>rfl
theorem VX{xs:List V}{its:List Value}(r:Vals xs its):(!its.toArray.isEmpty)=!xs.isEmpty:=by cases r<;>simp
theorem ML:(Ay:Nat)<2^63:=by rw[sizeLine_eq];decide
theorem Xt:SC X (λx H Q=>∃k,Nh X.K x H k∧Q k H):=by
 intro pins s σ H x v Q I rx h;obtain⟨k,e,q⟩:=h;have hl:=ML;have hs:Ay=16777216:=sizeLine_eq;cases x with
 | non=> cases rx;have e':k=false:=e;subst e';exact truthy_none ⟨H,I,q⟩
 | bl b=> cases rx;have e':k=b:=e;subst e';exact Bk ⟨H,I,q⟩
 | int i=> obtain⟨t,rfl⟩:=rx;have e':k=(i !=0):=e;subst e';exact PySem.P.truthy_int ⟨H,I,q⟩
 | str y=> obtain⟨t,rfl⟩:=rx;obtain⟨hy,e'⟩:y.length≤Ay∧k=((y.length:Int) !=0):=e;subst e';exact PySem.P.truthy_str (by omega) ⟨H,I.tok _,q⟩
 | byt y=> obtain⟨t,rfl⟩:=rx;obtain⟨hy,e'⟩:y.size≤Ay∧k=((y.size:Int) !=0):=e;subst e';exact PySem.W.truthy_bytes (by omega) ⟨H,I.tok _,q⟩
 | ref p=>
  cases rx;have e':(∃xs,SqL X.K H p xs∧k=!xs.isEmpty)∨(∃xs,SqT X.K H p xs∧k=!xs.isEmpty)∨∃kvs,H p=some (.dK kvs)∧k=!kvs.isEmpty:=e;rcases e' with⟨xs,hx,e'⟩ | ⟨xs,hx,e'⟩ | ⟨kvs,hx,e'⟩
  · subst e';obtain⟨its,r,pl,hz⟩:=I.list hx;have hlen:=r.length;exact wpAny_truthy_list pl.isList (by simp only[Av];omega) ⟨H,I.tok _,by rw[VX r];exact q⟩
  · subst e';obtain⟨its,r,pl,hz⟩:=I.tuple hx;have hlen:=r.length;exact truthy_tuple pl (by simp only[Av];omega) ⟨H,I.tok _,by rw[VX r];exact q⟩
  · subst e';obtain⟨hz,hS,vs,r,m⟩:kvs.length≤Ay∧(p==BC)=false∧∃vs,KV kvs vs∧s.heap.DictOf (JW X.prog X.w) p vs:=I.hok p _ hx;have hlen:kvs.length=vs.length:=Eu r;exact wpAny_truthy_dict hS m (by omega) ⟨H,I.tok _,by rw[zjI r];exact q⟩
 | _=>exact(show False from e).elim
theorem zl6(ha:PE X a ta)(he:∀whole,isTrue a X.env whole=(do let v ←whole;standAt a.pos;holding [v] (truthy v))):
 PT X a (λσ H Q=>ta σ H λx H'=>∃k,Nh X.K x H' k∧Q k H'):=by
 intro pins s σ H Q I h;exact isTrue_plain (IG (ha pins s σ H _ I h) λv s1 ⟨x,H1,I1,r1,q1⟩=>Xt pins s1 σ H1 x v Q I1 r1 q1) (he _)
theorem PQ:J2 X (binaryOp .Add) (λx y H Q=>∃i j,x= .str i∧y= .str j∧i.length+j.length≤Ay∧Q (.str (i++j)) H):=by intro pins s σ H x y v u Q I rx ry h;obtain⟨i,j,rfl,rfl,hz,q⟩:=h;obtain⟨t,rfl⟩:=rx;obtain⟨t',rfl⟩:=ry;exact add_str (λt' tk=>⟨.str (i++j),H,I.tok _,⟨_,rfl⟩,q⟩) hz
theorem KA{x:V}(r:Vals [x] us):∃u,us=[u]∧RelV x u:=by
 cases r with
 | cons r1 r2=>cases r2;exact⟨_,rfl,r1⟩
theorem Nt{x y:V}(r:Vals [x,y] us):∃u w',us=[u,w']∧RelV x u∧RelV y w':=by
 cases r with
 | cons r1 r2=>
  cases r2 with
  | cons r3 r4=>cases r4;exact⟨_,_,rfl,r1,r3⟩
theorem QW:KH X (.builtin "abs") (λxs H Q=>∃i,xs=[.int i]∧Q (.int (if i<0 then -i else i)) H):=by intro pins s σ H xs us Q I r h;obtain⟨i,rfl,q⟩:=h;obtain⟨u,rfl,t,rfl⟩:=KA r;exact call_abs_int λu tk=>⟨.int (if i<0 then -i else i),H,I.tok _,⟨_,rfl⟩,q⟩
theorem ZU(hc:X.calm=true):KH X (.builtin "max") (λxs H Q=>∃i j,xs=[.int i,.int j]∧Q (.int (if j>i then j else i)) H):=by
 intro pins s σ H xs us Q I r h;obtain⟨i,j,rfl,q⟩:=h;obtain⟨u,w',rfl,⟨t,rfl⟩,⟨t',rfl⟩⟩:=Nt r;refine max_two_ints (I.ok.hd hc) λh' tk k=>⟨_,H,I.kept k,?_,q⟩;by_cases hj:j>i
 · rw[if_pos hj,if_pos hj];exact⟨_,rfl⟩
 · rw[if_neg hj,if_neg hj];exact⟨_,rfl⟩
theorem ZW(hc:X.calm=true):KH X (.builtin "min") (λxs H Q=>∃i j,xs=[.int i,.int j]∧Q (.int (if j<i then j else i)) H):=by
 intro pins s σ H xs us Q I r h;obtain⟨i,j,rfl,q⟩:=h;obtain⟨u,w',rfl,⟨t,rfl⟩,⟨t',rfl⟩⟩:=Nt r;refine min_two_ints (I.ok.hd hc) λh' tk k=>⟨_,H,I.kept k,?_,q⟩;by_cases hj:j<i
 · rw[if_pos hj,if_pos hj];exact⟨_,rfl⟩
 · rw[if_neg hj,if_neg hj];exact⟨_,rfl⟩
end
structure ObjM(h:Heap)(x dx C:Addr)(mA:Str→Option Value):Prop where
 obj:h.get? x=some (Ga C dx)
 ns:h.Ns1 dx mA
 ne:dx≠x
theorem zkT{dx:Addr}{mA:Str→Option Value}(n:h.Ns1 dx mA):∃od,h.get? dx=some od∧∀name,Gy name od=some (mA name):=by
 obtain⟨o,es,ep,ho,hd,hk,_,hm⟩:=n;refine⟨o,ho,λname=>?_⟩;have e:=hm name;unfold nsFind findBy at e;rw[←Array.find?_toList] at e;unfold Gy;rw[hd];dsimp only
 split
 · rename_i y q;rw[q] at e;exact congrArg some e
 · rename_i q;rw[q] at e;have a:es.toList.any (·.refKey)=false:=by
    rw[List.any_eq_false];intro y hy;obtain⟨z,t,hkey⟩:=hk y (Array.mem_toList_iff.mp hy);simp[DictEntry.refKey,hkey]
   have a':¬es.toList.any (·.refKey)=true:=by rw[a];exact Au
   rw[if_neg a'];exact congrArg some e
theorem ObjM.look{x dx C:Addr}{mA:Str→Option Value}(I:ObjM h x dx C mA):∃od,PySem.W.InstAt h x (Ga C dx) C (some od)∧∀name,Gy name od=some (mA name):=
 let⟨od,ho,hl⟩:=zkT I.ns
 ⟨od,⟨I.obj,rfl,rfl,ho⟩,hl⟩
section
variable{K:Ae}{x dx C f:Addr}{mA:Str→Option Value}{name:Str}{v:Value}
end
theorem RelO.some_of{v:V}{o:Option Value}(r:RelO (some v) o):∃u,o=some u∧RelV v u:=by
 cases o with
 | none=>exact(show False from r).elim
 | some u=>exact⟨u,rfl,r⟩
section
variable{H H':Hp}{h':Heap}{C dx:Addr}{fs fs':List (Str×V)}
theorem YI(hok:HOk P w H h)(e:H a=some (.ins C dx fs)):∃mA,ObjM h a dx C mA∧(∀f,RelO (fs.lookup f) (mA f))∧PySem.Within mA (fs.map (·.1))∧fs.length≤1000∧H dx=some (.own a):=by obtain⟨d,z,ne,ob,mA,n,r,q⟩:=(show ObjOk P w H h a (.ins C dx fs) from hok a _ e);exact⟨mA,⟨ob,n,ne⟩,r,q,z,d⟩
end
structure Cls(K:Ae)(C:Addr):Prop where
 pg:PySem.W.plainGet K C Str.empty=true
 hd:PySem.W.hasDictIn K C=true
 po:PySem.W.plainOver K C=true
 sa:PySem.W.findIn K (.ref C) "__setattr__"=some (some (.builtin "object.__setattr__"))
theorem Cls.get{K:Ae}{C:Addr}(c:Cls K C)(f:Str):PySem.W.plainGet K C f=true:=c.pg
section
variable{X:Cx}{σ:St}{H:Hp}{C dx:Addr}{fs:List (Str×V)}{f:Str}{v:V}
end
section
variable{X:Cx}{o value:Expr}{f:Str}{pos' tpos:Pos}{ta tv:TE}
end
section
variable{X:Cx}{σ:St}{H:Hp}{Q:Value→Shared→Prop}{c:Value}{b:Bool}
inductive TyOf(K:Ae)(H:Hp):V→Value→Prop where
 | non:TyOf K H .non (.type "NoneType")
 | bl (x:Bool):TyOf K H (.bl x) (.type "bool")
 | int (i:Int):TyOf K H (.int i) (.type "int")
 | str (x:Str):TyOf K H (.str x) (.type "str")
 | flt (x:UInt64):TyOf K H (.flt x) (.type "float")
 | lst {a:Addr} {xs:List V} (e:H a=some (.lst xs)):TyOf K H (.ref a) (.type "list")
 | frz {a:Addr} {o:Obj} {xs:List V} (e:H a=some (.frz o (.lst xs))):TyOf K H (.ref a) (.type "list")
 | tup {a:Addr} {xs:List V} (e:H a=some (.tup xs)):TyOf K H (.ref a) (.type "tuple")
 | dK {a:Addr} {kvs:List (IV×V)} (e:H a=some (.dK kvs)):TyOf K H (.ref a) (.type "dict")
 | dT {a:Addr} {kvs:List (List IV×V)} (e:H a=some (.dT kvs)):TyOf K H (.ref a) (.type "dict")
 | ins {a C dx:Addr} {fs:List (Str×V)} (e:H a=some (.ins C dx fs)) (cl:Cls K C) (ha:PySem.W.findIn K (.ref C) "__class__"=some (some (.builtin "object.__class__")))
  (hn:PySem.W.specialIn K (.builtin "object.__class__") "__get__"=some (some (.builtin "getset_descriptor.__get__"))) (htk:PySem.W.takesIn K (.builtin "object.__class__")=some true)
  (hm:PySem.W.mroIn K C (.type "object")=some true):TyOf K H (.ref a) (.ref C)
theorem zk5{x:V}{t:Value}(I:Inv X pins σ H s)(rx:RelV x u)(ty:TyOf X.K H x t)(e:PySem.W.kitOne X.K t c=some b)(h:∀tk,Q (.bool b) {s with toks:=tk}):
 wpAny (model X.prog X.w) A (call (.builtin "isinstance") [u,c]) Q E s:=by
 cases ty with
 | non=>cases(show u=Value.none from rx);exact Ca PySem.W.kitx_none I.kIn True.intro e (λz=>nomatch z) h
 | bl y=>cases(show u=Value.bool y from rx);exact Ca PySem.W.kitx_bool I.kIn True.intro e (λz=>nomatch z) h
 | int i=>obtain⟨t,q⟩:=(show ∃t,u=Value.int i t from rx);cases q;exact Ca PySem.W.kitx_int I.kIn True.intro e (λz=>nomatch z) h
 | str y=>obtain⟨t,q⟩:=(show ∃t,u=Value.str y t from rx);cases q;exact Ca PySem.W.kitx_str I.kIn True.intro e (λz=>nomatch z) h
 | flt y=>obtain⟨t,q⟩:=(show ∃t,u=Value.float y t from rx);cases q;exact Ca PySem.W.kitx_float I.kIn True.intro e (λz=>nomatch z) h
 | @lst a xs ea=> cases(show u=Value.ref a from rx);obtain⟨_,_,n,_,h1⟩:=(show ObjOk X.prog X.w H s.heap a (.lst xs) from I.hok a _ ea);exact Ca Ef I.kIn ⟨_,h1,rfl⟩ e (λz=>nomatch z) h
 | @frz a ob xs ea=> cases(show u=Value.ref a from rx);obtain⟨_,_,_,n,_,h1⟩:=(show ObjOk X.prog X.w H s.heap a (.frz ob (.lst xs)) from I.hok a _ ea);exact Ca Ef I.kIn ⟨_,h1,rfl⟩ e (λz=>nomatch z) h
 | @tup a xs ea=> cases(show u=Value.ref a from rx);obtain⟨_,_,_,p⟩:=(show ObjOk X.prog X.w H s.heap a (.tup xs) from I.hok a _ ea);obtain⟨o,h1,h2,_⟩:=p;exact Ca PySem.W.kitx_tuple I.kIn ⟨o,h1,h2⟩ e (λz=>nomatch z) h
 | @dK a kvs ea=> cases(show u=Value.ref a from rx);obtain⟨_,_,vs,_,p⟩:=(show ObjOk X.prog X.w H s.heap a (.dK kvs) from I.hok a _ ea);obtain⟨o,es,ep,h1,h2,_⟩:=p;exact Ca Eg I.kIn ⟨o,h1,h2.1⟩ e (λz=>nomatch z) h
 | @dT a kvs ea=> cases(show u=Value.ref a from rx);obtain⟨_,_,xs,_,o,es,ep,h1,h2,_⟩:=(show ObjOk X.prog X.w H s.heap a (.dT kvs) from I.hok a _ ea);exact Ca Eg I.kIn ⟨o,h1,h2.1⟩ e (λz=>nomatch z) h
 | @ins a C dx fs ea cl ha hn htk hm=> cases(show u=Value.ref a from rx);obtain⟨mA,O,_⟩:=YI I.hok ea;obtain⟨od,J,_⟩:=O.look;exact Ca (PySem.W.kitx_own (cl.get _) cl.hd ha hn htk hm) I.kIn J e (λz=>nomatch z) h
end
structure Room(k:Nat)(A:BE):Prop where
 hd:A.handled=none
 dp:A.depth+3*k+5<recursionLimit
 un:A.units+16*k+200<cLine
 gd:A.guards=some []
theorem Room.mono{j k:Nat}(r:Room k A)(h:j≤k):Room j A:=⟨r.hd,by have:=r.dp;omega,by have:=r.un;omega,r.gd⟩
theorem Room.deeper{k:Nat}(r:Room (k+1) A)(env:Env):Room k (A.deeper env):=
 ⟨r.hd,by have:=r.dp;show A.depth+1+3*k+5<_;omega,by have:=r.un;show A.units+3+16*k+200<_;omega,r.gd⟩
theorem Room.in1{k:Nat}(r:Room (k+1) A):Room k A.in1:=
 ⟨r.hd,by have:=r.dp;show A.depth+3*k+5<_;omega,by have:=r.un;show A.units+1+16*k+200<_;omega,r.gd⟩
theorem Room.depth{k:Nat}(r:Room k A):A.depth<recursionLimit:=by have:=r.dp;omega
theorem Room.units{k:Nat}(r:Room k A):A.units+64<cLine:=by have:=r.un;omega
noncomputable def Ou:TA:=λ_ H Q=>Q [] H
noncomputable def SQ(ta:TE)(tr:TA):TA:=λσ H Q=>ta σ H λx H1=>tr σ H1 λxs H2=>Q (x::xs) H2
section
variable{X:Cx}{es:List Expr}{te:TE}{t:TA}
theorem IB:PA X [] Ou:=λ_ _ _ _ H Q I h=>Fu ⟨[],H,I,.nil,h⟩
theorem I0(ha:PE X e te)(hr:PA X es t)(hs:AL (e::es) X.env=(false,eval e X.env)::AL es X.env:=by rfl):PA X (e::es) (SQ te t):=by intro pos pins s σ H Q I h;rw[hs];show wpAny _ _ (spliced ((false,eval e X.env)::backTo pos (AL es X.env))) _ _ s;refine DR (IG (ha pins s σ H _ I h) λu s1 ⟨x,H1,I1,r1,q1⟩=>?_);exact IG (hr pos pins s1 σ H1 _ I1 q1) λus s2 ⟨xs,H2,I2,r2,q2⟩=>⟨x::xs,H2,I2,.cons r1 r2,q2⟩
noncomputable def RL(t:TA):TE:=λσ H Q=>t σ H λxs H1=>xs.length≤Ay∧∀p,H1 p=none→Q (.ref p) (IC H1 p (.tup xs))
noncomputable def RQ(t:TA):TE:=λσ H Q=>t σ H λxs H1=>xs.length≤Ay∧∀p,H1 p=none→Q (.ref p) (IC H1 p (.lst xs))
theorem J0{x1}(h:PA X es t):PE X (.Tuple es x1 pos) (RL t):=by intro pins s σ H Q I hq;refine wpAny_Tuple_spliced (IG (h pos pins s σ H _ I hq) λus s1 ⟨xs,H1,I1,r,z,q⟩=>⟨by rw[←r.length];exact z,?_⟩);have hf:H1 s1.heap.objs.size=none:=I1.hok.fresh (Ah _);refine⟨.ref s1.heap.objs.size,IC H1 s1.heap.objs.size (.tup xs),I1.laid (t':=s1.toks) (λb u e=>Ad _ e) (Ah _) ?_,rfl,q _ hf⟩;exact⟨z,us,r,⟨_,Ak _ rfl,rfl,rfl,_,rfl⟩⟩
theorem Kb(h:PA X es t):PE X (.List es pos) (RQ t):=by intro pins s σ H Q I hq;refine wpAny_List_spliced (IG (h pos pins s σ H _ I hq) λus s1 ⟨xs,H1,I1,r,z,q⟩=>⟨by rw[←r.length];exact z,?_⟩);have hf:H1 s1.heap.objs.size=none:=I1.hok.fresh (Ah _);refine⟨.ref s1.heap.objs.size,IC H1 s1.heap.objs.size (.lst xs),I1.laid (t':=s1.toks) (λb u e=>Ad _ e) (Ah _) ?_,rfl,q _ hf⟩;exact⟨z,us,0,r,Ak _ rfl⟩
end
noncomputable abbrev Sp:=List V→Hp→VK→XK→Prop
noncomputable abbrev L9:=List Env→Hp→Shared→XK→Value→Shared→Prop
structure Env0(P:Bp)(w:World)(K:Ae)(mg:Str→Option Value)(base:Heap)(A:BE)(outer:List Env)(s:Shared)(H:Hp):Prop where
 frames:A.frames=some outer
 mod:Mod K mg base
 bs:∀b o,base.get? b=some o→s.heap.get? b=some o∧H b=none
 bsz:base.objs.size≤s.heap.objs.size
 funs:s.heap.FunFrames base outer
 frf:∀b∈L5 outer,H b=none
 hok:HOk P w H s.heap
 bare:AllBare s.gens
noncomputable def CE(outer:List Env)(P:Bp)(w:World)(H:Hp)(s:Shared)(Q:VK)(u:Value)(s':Shared):Prop:=
 ∃v H',s'.os=s.os∧AllBare s'.gens∧Un (L5 outer) [] H H' s.heap s'.heap∧HOk P w H' s'.heap∧RelV v u∧Q v H'
noncomputable def CR(CX:L9)(outer:List Env)(P:Bp)(w:World)(H:Hp)(s:Shared)(Q:VK)(E:XK)(r:Result)(s':Shared):Prop:=
 match r with
 | .ok (.ret u)=>CE outer P w H s Q u s'
 | .ok _=>False
 | .error e=>CX outer H s E e s'
structure FnOk(P:Bp)(w:World)(K:Ae)(mg:Str→Option Value)(base:Heap)(CX:L9)(k:Nat)(f:Addr)(fd:BP)(ps:List Str)(sp:Sp):Prop where
 len:∀vs H Q E,sp vs H Q E→vs.length=ps.length
 run:∀(A:BE)(outer:List Env)(s:Shared)(H:Hp)(args:Args)(us:List Value)(vs:List V)(Q:VK)(E:XK),Room k A→Env0 P w K mg base A outer s H→BindsTo s fd args (ps.zip us)→Vals vs us→sp vs H Q E→
  codeAny (model P w) A (.call (.ref f) args) (CR CX outer P w H s Q E) s
section
variable{X:Cx}{σ:St}{H:Hp}{s':Shared}
theorem Inv.env0(I:Inv X pins σ H s):Env0 X.prog X.w X.K X.mg X.base X.A X.stack s H:=
 ⟨I.ok.frames,I.ok.mod,I.bs,AD I.ok.bsz I.sz,I.stack,I.stkFree,I.hok,I.bare⟩
theorem Inv.after{Q:VK}(I:Inv X pins σ H s)(h:CE X.stack X.prog X.w H s Q u s'):EP X pins σ Q u s':=by obtain⟨v,H',os,bare,un,hok,r,q⟩:=h;obtain⟨hh,g,d,t,os'⟩:=s';obtain rfl:os'=s.os:=os;exact⟨v,H',I.call (h':=hh) (g':=g) (d':=d) (t':=t) (ch:=[]) un hok bare (λb z=>absurd z (by simp)),r,q⟩
end
noncomputable def SO(sp:Sp)(dvs:List V)(E:XK)(t:TA):TE:=λσ H Q=>t σ H λvs H1=>sp (vs++dvs) H1 Q E
noncomputable def Binds(K:Ae)(fd:BP)(ps:List Str)(ds:List Value):Prop:=
 ∀(s:Shared)(us:List Value),K.In s.heap→(us++ds).length=ps.length→BindsTo s fd ⟨us,[]⟩ (ps.zip (us++ds))
theorem Binds.all{K:Ae}{fd:BP}{ps:List Str}(h:∀us:List Value,us.length=ps.length→bindArgs fd ⟨us,[]⟩=pure (ps.zip us)):Binds K fd ps []:=λs us _ hl=>by rw[Du] at hl ⊢;exact .of_eq (h us hl)
noncomputable def Qt(CX:L9)(X:Cx)(E:XK):Prop:=∀(pins:List (Addr×Obj))(σ:St)(H:Hp)(s:Shared)(e:Value)(s':Shared),Inv X pins σ H s→CX X.stack H s E e s'→X.xe e s'
section
variable{X:Cx}{CX:L9}{k:Nat}{f C:Addr}{fd:BP}{ps:List Str}{sp:Sp}{dvs:List V}{ds:List Value}{E:XK}{x m:Str}{p apos:Pos}{o:Expr}{es:List Expr}{ta:TE}{t:TA}
theorem TQ{pins:List (Addr×Obj)}{σ:St}{H:Hp}{s:Shared}{Q:VK}{us:List Value}{vs:List V}(F:FnOk X.prog X.w X.K X.mg X.base CX k f fd ps sp)(hr:Room k X.A)(hb:Binds X.K fd ps ds)(hd:Vals dvs ds)(hx:Qt CX X E)
 (I:Inv X pins σ H s) (r:Vals vs us) (h:sp (vs++dvs) H Q E):wpAny (model X.prog X.w) X.A (call (.ref f) us) (EP X pins σ Q) X.xe s:=by
 have r2:Vals (vs++dvs) (us++ds):=r.append hd;have hl:(us++ds).length=ps.length:=by rw[←r2.length];exact F.len _ _ _ _ h
 refine E7 (Cg (F.run X.A X.stack s H ⟨us,[]⟩ (us++ds) (vs++dvs) Q E hr I.env0 (hb s us I.kIn hl) r2 h) λr s' hq=>?_);cases r with
 | error e=>exact hx pins σ H s e s' I hq
 | ok fl=>
  cases fl with
  | ret u=>exact I.after hq
  | next=>exact Dg hq
  | brk=>exact Dg hq
  | cont=>exact Dg hq
theorem Yt(F:FnOk X.prog X.w X.K X.mg X.base CX k f fd ps sp)(hr:Room k X.A)(hg:Gl X x)(hm:X.mg x=some (.ref f))(hk:ER X.K (.ref f)=true)(hb:Binds X.K fd ps ds)(hd:Vals dvs ds)(hx:Qt CX X E)
 (ha:PA X (e::es) t) (hdb:(x==("__debug__":Str))=false:=by decide) (he:AL (e::es) X.env=(false,eval e X.env)::AL es X.env:=by rfl) (hpl:(backTo pos (AL es X.env)).any (·.1)=false:=by rfl):
 PE X (.Call (.Name x p) (e::es) [] pos) (SO sp dvs E t):=by
 intro pins s σ H Q I h;refine Cr (Uy I hg hm ?_ hdb);refine PySem.W.callWith_K (h₀:=X.base) I.ok.mod.kin hk (IG (ha pos pins s σ H _ I h) λus s1 ⟨vs,H1,I1,r,q⟩=>⟨I1.kIn,?_⟩) he hpl;exact TQ F hr hb hd hx I1 r q
end
noncomputable def PK(X:Cx)(kws:List Keyword)(t:TA):Prop:=
 ∀(pos:Pos)(pins:List (Addr×Obj))(s:Shared)(σ:St)(H:Hp)(Q:List V→Hp→Prop),Inv X pins σ H s→t σ H Q→wpAny (model X.prog X.w) X.A (evalAll ((backToKw pos (keywordEach kws X.env)).map (·.2))) (AP X pins σ Q) X.xe s
section
variable{X:Cx}{CX:L9}{k:Nat}{f C:Addr}{fd:BP}{ps ks:List Str}{sp:Sp}{E:XK}{x m:Str}{p apos kpos:Pos}{o:Expr}{es:List Expr}{kws:List Keyword}{te ta:TE}{t tk:TA}{nm:Option Str}
theorem Qy:PK X [] Ou:=λ_ _ _ _ H Q I h=>wpAny_evalAll_nil ⟨[],H,I,.nil,h⟩
theorem Q8(ha:PE X e te)(hr:PK X kws t):PK X (⟨nm,e,kpos⟩::kws) (SQ te t):=by
 intro pos pins s σ H Q I h;show wpAny _ _ (evalAll ((do let v ←eval e X.env;standAt pos;pure v)::(backToKw pos (keywordEach kws X.env)).map (·.2))) _ _ s
 refine wpAny_evalAll_cons (Aa (IG (ha pins s σ H _ I h) λu s1 ⟨x,H1,I1,r1,q1⟩=>Aa (Bz (Ac ?_))));exact IG (hr pos pins s1 σ H1 _ I1 q1) λus s2 ⟨xs,H2,I2,r2,q2⟩=>⟨x::xs,H2,I2,.cons r1 r2,q2⟩
variable{g:List Value→List Value→List Value}{gV:List V→List V→List V}
end
structure FnScope(N P:List Str)(sc:Scope):Prop where
 kind:sc.kind= .function
 co:sc.isCoroutine=false
 gen:sc.isGenerator=false
 nd:N.Nodup
 pre:N.take P.length=P
 par:∀x∈P,sc.names.lookup x=some .local∨sc.names.lookup x=some .cell
 nofree:∀y∈sc.names,y.2≠ .free
theorem Vw{kindOf:Str→Option NameKind}{x:Str}:∀{binds:List (Str×Value)}{m:Str→Option Value},(∀v,(x,v) ∉ binds)→bindL kindOf binds m x=m x
 | [],_,_=>rfl
 | (n,v)::r,m,h=>by
  unfold bindL;rw[Vw λw hw=>h w (As _ hw)]
  split
  · have:x≠n:=by rintro rfl;exact h v Ao
    simp[this]
  · rfl
theorem Vu{kindOf:Str→Option NameKind}{x:Str}:∀{binds:List (Str×Value)}{m:Str→Option Value},(∀v,(x,v) ∉ binds)→bindC kindOf binds m x=m x
 | [],_,_=>rfl
 | (n,v)::r,m,h=>by
  unfold bindC;rw[Vu λw hw=>h w (As _ hw)]
  split
  · rfl
  · have:x≠n:=by rintro rfl;exact h v Ao
    simp[this]
theorem Vv{kindOf:Str→Option NameKind}{x:Str}{v:Value}:∀{P:List Str}{vs:List Value}{i:Nat}{m:Str→Option Value},P.Nodup→P[i]?=some x→vs[i]?=some v→kindOf x=some .local→
 bindL kindOf (P.zip vs) m x=some v
 | [],_,_,_,_,h,_,_=>by simp at h
 | _::_,[],_,_,_,_,h,_=>by simp at h
 | p::P,w::vs,0,m,nd,h1,h2,hk=>by simp at h1 h2;subst h1;subst h2;show bindL kindOf ((p,w)::P.zip vs) m p=_;unfold bindL;rw[Vw λv hv=>(Cm.mp nd).1 (Gc hv).1,if_pos hk];simp
 | p::P,w::vs,i+1,m,nd,h1,h2,hk=>by show bindL kindOf ((p,w)::P.zip vs) m x=_;unfold bindL;exact Vv (i:=i) (Cm.mp nd).2 (by simpa using h1) (by simpa using h2) hk
theorem Vt{kindOf:Str→Option NameKind}{x:Str}{v:Value}:∀{P:List Str}{vs:List Value}{i:Nat}{m:Str→Option Value},P.Nodup→P[i]?=some x→vs[i]?=some v→kindOf x≠some .local→
 bindC kindOf (P.zip vs) m x=some v
 | [],_,_,_,_,h,_,_=>by simp at h
 | _::_,[],_,_,_,_,h,_=>by simp at h
 | p::P,w::vs,0,m,nd,h1,h2,hk=>by simp at h1 h2;subst h1;subst h2;show bindC kindOf ((p,w)::P.zip vs) m p=_;unfold bindC;rw[Vu λv hv=>(Cm.mp nd).1 (Gc hv).1,if_neg hk];simp
 | p::P,w::vs,i+1,m,nd,h1,h2,hk=>by show bindC kindOf ((p,w)::P.zip vs) m x=_;unfold bindC;exact Vt (i:=i) (Cm.mp nd).2 (by simpa using h1) (by simpa using h2) hk
noncomputable def Mq(N:List Str)(vs:List V):St:=vs.map some++By (N.length - vs.length) none
noncomputable def Lc(CX:L9)(P:Bp)(w:World)(K:Ae)(mg:Str→Option Value)(base:Heap)(N:List Str)(qual:Str)(scope:Scope)(f:Addr)(cd:Value)(A:BE)(outer:List Env)(s:Shared)(H:Hp)(E:XK):Cx where
 prog:=P
 w:=w
 K:=K
 mg:=mg
 base:=base
 A:=A.deeper (envOfC qual scope s.heap.objs.size f cd)
 N:=N
 s₀:=s
 H₀:=H
 env:=envOfC qual scope s.heap.objs.size f cd
 outer:=outer
 stack:=envOfC qual scope s.heap.objs.size f cd::outer
 ex:=[]
 calm:=true
 fn:=λ_=>true
 pn:=[]
 xe:=λe s'=>wpAny (model P w) (A.deeper (envOfC qual scope s.heap.objs.size f cd)) (leaving (envOfC qual scope s.heap.objs.size f cd) e) (λ_ s''=>CX outer H s E e s'') (λe' s''=>CX outer H s E e' s'') s'
theorem UV{sc:Scope}{x:Str}(h:sc.names.lookup x=some .cell):∃c,(Cd n sc.names []).lookup x=some c:=by have q:=CQ sc.names n [] (.inl h);exact FI.mp q
theorem zk8{CX:L9}{P:Bp}{w:World}{K:Ae}{mg:Str→Option Value}{base:Heap}{N ps:List Str}{qual:Str}{scope:Scope}{f:Addr}{cd:Value}{A:BE}{outer:List Env}{s s1:Shared}{H:Hp}{E:XK}{us:List Value}{vs:List V}
 (S:FnScope N ps scope) (hd:A.handled=none) (e0:Env0 P w K mg base A outer s H) (hl:vs.length=ps.length) (r:Vals vs us)
 (x:InCallC s s.heap.objs.size (bindL (envOfC qual scope s.heap.objs.size f cd).kindOf (ps.zip us) λ_=>none) (Cd (s.heap.objs.size+1) scope.names []) (bindC (envOfC qual scope s.heap.objs.size f cd).kindOf (ps.zip us) λ_=>none) s1):
 Inv (Lc CX P w K mg base N qual scope f cd A outer s H E) [] (Mq N vs) H s1:=by
 have hpl:ps.length≤N.length:=by have:=congrArg Be S.pre;rw[AE] at this;omega
 obtain⟨h1,tk,rfl,hk⟩:=x.done;have noA:∀b:Addr,b ∉ (Lc CX P w K mg base N qual scope f cd A outer s H E).ex:=λb z=>absurd (show b∈([]:List Addr) from z) (by simp);refine⟨⟨e0.mod,S.kind,rfl,rfl,Ah _,λy z c h1 h2=>?_,λy hy=>?_,λy c _ h=>?_,λ_=>hd,Around.frames_deeper e0.frames,.inr ⟨rfl,rfl⟩,λb z=>absurd z (noA b),e0.bs,e0.bsz,λb _ _=>noA b,λb z=>absurd z (noA b),e0.funs,e0.frf⟩,
  rfl,e0.bare,Un.kept hk,⟨_,x.toInCall.ns,λi y v h1 h2 h3=>?_⟩,λy c h=>⟨_,x.cell y c h⟩,e0.hok.fresh (Ah _),λy c h=>?_,λp hp=>absurd (show p∈([]:List (Addr×Obj)) from hp) (by simp),e0.hok.kept hk,?_⟩
 · exact name_of_addr x.apart (Do h1) (Do h2)
 · have hy:scope.names.lookup y=some .cell∨scope.names.lookup y=some .free:=hy;rcases hy with hy | hy
   · exact UV hy
   · exact absurd rfl (S.nofree _ (Do hy))
 · exact Bv (x.above y c (Do h))
 · have hi:i<vs.length:=by
    unfold Mq at h2;by_cases hi:i<vs.length
    · exact hi
    · rw[Fj (by simpa using hi)] at h2;rw[List.getElem?_replicate] at h2
      split at h2<;>cases h2
   have ha:vs[i]?=some v:=by
    unfold Mq at h2;rw[FC (by simpa using hi),Af] at h2;cases e:vs[i]? with
    | none=>rw[e] at h2;cases h2
    | some a=>rw[e] at h2;cases h2;rfl
   obtain⟨u,hu,rv⟩:=r.get ha;have hp:ps[i]?=some y:=by rw[←S.pre,List.getElem?_take_of_lt (by omega)];exact h1
   have ndP:ps.Nodup:=by rw[←S.pre];exact S.nd.sublist (List.take_sublist _ _)
   refine⟨u,rv,?_⟩;rcases S.par y (Ag hp) with k | k
   · exact .inl ⟨k,Vv ndP hp hu k⟩
   · obtain⟨c,e⟩:=UV (n:=s.heap.objs.size+1) k;refine .inr ⟨.inl k,c,e,?_⟩;have q:=x.cell y c e;rw[Vt ndP hp hu (by show scope.names.lookup y≠_;rw[k];decide)] at q;exact q
 · exact e0.hok.fresh (Bv (x.above y c (Do h)))
 · unfold Mq;show _=N.length;rw[A6,Ab,Cp];omega
theorem Xo{CX:L9}{P:Bp}{w:World}{K:Ae}{mg:Str→Option Value}{base:Heap}{k:Nat}{f:Addr}{name qual:Str}{params:Arguments}{body:List Stmt}{scope:Scope}{dV kV doc pm cdv ct oc:Value}{an od:Option Addr}
 {osl:Array (Option Value)} {N ps:List Str} {sp:Sp} (lk:K.lookup f=some ⟨oc,od,.func (D0 name qual params body scope dV kV doc pm an cdv ct),osl⟩) (hcd:Gz K cdv qual=true) (S:FnScope N ps scope)
 (len:∀vs H Q E,sp vs H Q E→vs.length=ps.length)
 (hbody:∀(A:BE)(outer:List Env)(s:Shared)(H:Hp)(vs:List V)(Q:VK)(E:XK),Room k (A.deeper (envOfC qual scope s.heap.objs.size f cdv))→sp vs H Q E→
  ∃t,PSs (Lc CX P w K mg base N qual scope f cdv A outer s H E) body t∧t {nx:=λ_ H'=>Q .non H',rt:=Q} (Mq N vs) H):
 FnOk P w K mg base CX (k+1) f (D0 name qual params body scope dV kV doc pm an cdv ct) ps sp:=by
 refine⟨len,λA outer s H args us vs Q E hr e0 hb r hsp=>?_⟩;have hl:=len _ _ _ _ hsp;have KX:K.In s.heap:=e0.mod.kin.keeps λb o e=>(e0.bs b o e).1;have lim:s.heap.NoLimit:=e0.mod.nolimit.keeps λb o e=>(e0.bs b o e).1;have hkind:∀y∈ps.zip us,scope.names.lookup y.1=some .local∨(scope.names.lookup y.1=some .cell∧((Cd (s.heap.objs.size+1) scope.names []).lookup y.1).isSome=true):=λ⟨n,v⟩ hy=>by
  rcases S.par n (Gc hy).1 with q | q
  · exact .inl q
  · exact .inr ⟨q,CQ _ _ _ (.inl q)⟩
 refine codeAny_call_function hr.depth (KX _ _ lk) rfl S.co S.gen rfl (PySem.W.codeRec_of KX hcd) (hb _ _ _ _ ?_);refine wpAny_newFunctionEnv_cells S.kind hkind λenv he s1 x=>?_;subst he;refine⟨lim.keeps x.toInCall.keep,codeAny_func ?_⟩;obtain⟨t,ht,hq⟩:=hbody A outer s H vs Q E (hr.deeper _) hsp;have I:Inv (Lc CX P w K mg base N qual scope f cdv A outer s H E) [] (Mq N vs) H s1:=zk8 S hr.hd e0 hl r x;refine A5 (ht [] s1 (Mq N vs) H _ I hq) (λfl s' hs=>?_) λe s' hs=>hs;have fin:∀{σ':St}{H':Hp}{v:V}{u:Value},Inv (Lc CX P w K mg base N qual scope f cdv A outer s H E) [] σ' H' s'→RelV v u→Q v H'→CE outer P w H s Q u s':=
  λ{σ' H' v u}J rv q=>⟨v,H',J.os,J.bare,J.base,J.hok,rv,q⟩
 cases fl with
 | ret u=> obtain⟨v,σ',H',J,rv,q⟩:=hs;exact fin J rv q
 | next=> obtain⟨σ',H',J,q⟩:=hs;exact fin (v:=V.non) (u:=Value.none) J rfl q
 | brk=> obtain⟨_,_,_,q⟩:=hs;exact Dg q
 | cont=> obtain⟨_,_,_,q⟩:=hs;exact Dg q
section
variable{X:Cx}{x:Str}{p:Pos}{es:List Expr}{t:TA}{id T:String}{r:List V→Hp→VK→Prop}
noncomputable def WF(r:List V→Hp→VK→Prop)(t:TA):TE:=λσ H Q=>t σ H λvs H1=>r vs H1 Q
theorem Jd(hc:KH X (.builtin id) r)(hg:Gl X x)(hm:X.mg x=none)(hv:Bh x=some (.builtin id))(ha:PA X (e::es) t)(hn:x≠"__name__":=by decide)(hdb:(x==("__debug__":Str))=false:=by decide)
 (he:AL (e::es) X.env=(false,eval e X.env)::AL es X.env:=by rfl) (hpl:(backTo pos (AL es X.env)).any (·.1)=false:=by rfl):PE X (.Call (.Name x p) (e::es) [] pos) (WF r t):=by
 intro pins s σ H Q I h;refine Cr (LI I hg hm hv ?_ hn hdb);exact E8 (IG (ha pos pins s σ H _ I h) λus s1 ⟨vs,H1,I1,r1,q1⟩=>hc pins s1 σ H1 vs us Q I1 r1 q1) he hpl
theorem MZ(hc:KH X (.type T) r)(hg:Gl X x)(hm:X.mg x=none)(hv:Bh x=some (.type T))(ha:PA X (e::es) t)(hn:x≠"__name__":=by decide)(hdb:(x==("__debug__":Str))=false:=by decide)
 (he:AL (e::es) X.env=(false,eval e X.env)::AL es X.env:=by rfl) (hpl:(backTo pos (AL es X.env)).any (·.1)=false:=by rfl):PE X (.Call (.Name x p) (e::es) [] pos) (WF r t):=by
 intro pins s σ H Q I h;refine Cr (LI I hg hm hv ?_ hn hdb);exact Cc (IG (ha pos pins s σ H _ I h) λus s1 ⟨vs,H1,I1,r1,q1⟩=>hc pins s1 σ H1 vs us Q I1 r1 q1) he hpl
end
end L2
variable{H:L2.Hp}{X:L2.Cx}{σ:L2.St}{xs:List L2.V}{x:PySem.Str}
namespace HT
open PySem PyProof.Rows
section
open PySem.SeqAt
open PySem.AutoSeq1 (wpAny_loadPart')
open PySem.MeetsSeq PySem.MeetsSeq2 PySem.MeetsSeq3
end
theorem cat_tup{t:Addr}{vs ws:List Value}{Q:Value→Shared→Prop}(ht:IsTup s.heap t vs.toArray)(hb:IsTup s.heap b ws.toArray)(hv:vs≠[])
 (h1:ws=[]→Q (.ref t) s) (h2:ws≠[]→Q (.ref s.heap.objs.size) {s with heap:=s.heap.push {cls:= .type "tuple",data:= .seq (vs++ws).toArray}})
 (hsz:vs.length+ws.length≤Ay):wpAny (model prog w) A (binaryOp .Add (.ref t) (.ref b)) Q E s:=by
 obtain⟨⟨cls,dd,data,sl⟩,ho,hc,n,hd⟩:=id ht;obtain⟨⟨cls2,dd2,data2,sl2⟩,ho2,hc2,n2,hd2⟩:=id hb;simp only at hc hd hc2 hd2;subst hc hd hc2 hd2;have e:vs.toArray++ws.toArray=(vs++ws).toArray:=by simp
 by_cases hw:ws=[]
 · exact concat_meets ⟨_,ho,rfl⟩ ⟨_,ho2,rfl⟩ noFill_tuple_add seq_tuple_add El Eb (DS _ _)
    (tuple_addW1 t b vs.toArray ws.toArray n n2 dd dd2 sl sl2 (by simpa using hv) (by simp[hw])) ⟨ho,ho2,h1 hw⟩
 · refine concat_meets ⟨_,ho,rfl⟩ ⟨_,ho2,rfl⟩ noFill_tuple_add seq_tuple_add El Eb (DS _ _)
    (tuple_addW2 t b vs.toArray ws.toArray n n2 dd dd2 sl sl2 (by simpa using hv) (by simpa using hw) (by rw[Av,Av];exact hsz)) ⟨ho,ho2,?_⟩
   rw[e];exact h2 hw
noncomputable def sIx(n d:Nat):Option Int→Nat
 | none=>d
 | some v=>if v<0 then(v+(n:Int)).toNat else min v.toNat n
theorem sIx_none(n d:Nat):sIx n d none=d:=rfl
theorem sIx_nat(n d k:Nat):sIx n d (some (k:Int))=min k n:=by
 show(if(k:Int)<0 then((k:Int)+(n:Int)).toNat else min (k:Int).toNat n)=min k n
 rw[if_neg (by omega),AZ]
theorem XV(n d:Nat)(hd:d≤n)(o:Option Int):sIx n d o≤n:=by
 cases o with
 | none=>exact hd
 | some v=>
  show(if v<0 then(v+(n:Int)).toNat else min v.toNat n)≤n
  by_cases hv:v<0
  · rw[if_pos hv];omega
  · rw[if_neg hv];exact Nat.min_le_right _ _
theorem TX(v:Int)(n d:Nat):(if v<0 then max (v+(n:Int)) 0 else min v (n:Int))=((sIx n d (some v):Nat):Int):=by
 show(if v<0 then max (v+(n:Int)) 0 else min v (n:Int))=(((if v<0 then(v+(n:Int)).toNat else min v.toNat n):Nat):Int)
 by_cases hv:v<0
 · simp only[if_pos hv];omega
 · simp only[if_neg hv];omega
theorem zjT(lo hi:Option Int)(n:Nat):DI lo hi 1 (n:Int)=(((sIx n 0 lo:Nat):Int),((sIx n n hi:Nat):Int)):=by
 have h1:¬((1:Int)<0):=by omega
 unfold DI;simp only[h1,if_false];refine Prod.ext ?_ ?_
 · cases lo with
   | none=>rfl
   | some v=>exact TX v n 0
 · cases hi with
   | none=>rfl
   | some v=>exact TX v n n
theorem zjn(i j:Nat):Dh (i:Int) (j:Int) 1=j - i:=by
 unfold Dh;have h1:(1:Int)>0:=by omega
 simp only[h1,if_true,Int.ediv_one]
 split<;>omega
theorem Wc{v:Value}{o:Option Int}{Q:Option Int→Shared→Prop}(p:IsPart v o)(h:Q o s):wpAny (model prog w) A (Builtin.Slice.slicePartIndex v) Q E s:=by
 cases p with
 | none=>exact slicePart_none h
 | int i t=>exact slicePart_int h
theorem sliceApplied_gen{sl:Addr}{vl vu:Value}{lo hi:Option Int}{n:Nat}{Q:Int×Int×Nat→Shared→Prop}(hs:s.heap.IsSliceOf sl vl vu .none)(pl:IsPart vl lo)(pu:IsPart vu hi)
 (h:Q (((sIx n 0 lo:Nat):Int),1,sIx n n hi - sIx n 0 lo) s):wpAny (model prog w) A (Fl (.ref sl) (pure (n:Int))) Q E s:=by
 obtain⟨os,hos,hcs,hds⟩:=id hs;unfold Fl Builtin.Slice.sliceFields;refine Aa (Aa (AY hos hds (x:=vl) rfl (Aa (AY hos hds (x:=vu) rfl (Aa (AY hos hds (x:= .none) rfl (Ac ?_)))))));refine Aa (slicePart_none ?_);show wpAny _ _ (if((1:Int)==0)=true then _ else _) _ _ s
 rw[if_neg (by decide)];refine Aa (Wc pl (Aa (Wc pu (Aa (Ac ?_)))));show wpAny _ _ (match DI lo hi 1 (n:Int) with | (lo,hi)=>pure (lo,(1:Int),Dh lo hi 1)) _ _ s
 rw[zjT lo hi n];show wpAny _ _ (pure (((sIx n 0 lo:Nat):Int),(1:Int),Dh ((sIx n 0 lo:Nat):Int) ((sIx n n hi:Nat):Int) 1)) _ _ s;rw[zjn];exact Ac h
theorem ZZ(xs:Array Value)(i k:Nat):((BU k).filterMap λ(m:Nat)=>xs[((i:Int)+(m:Int)*1).toNat]?).toArray=((xs.toList.drop i).take k).toArray:=by
 have e:(λ(m:Nat)=>xs[((i:Int)+(m:Int)*1).toNat]?)=λm=>xs[i+m]?:=by
  funext m;have:((i:Int)+(m:Int)*1).toNat=i+m:=by omega
  rw[this]
 rw[e];have:=pick_run xs i k;rw[List.filterMap_map] at this;have e2:((λx=>xs[x]?)∘λx=>i+x)=λm=>xs[i+m]?:=rfl;rw[e2] at this;rw[this]
theorem getItem_tuple_cut{t sl:Addr}{items:Array Value}{vl vu:Value}{lo hi:Option Int}{Q:Value→Shared→Prop}(ht:IsTup s.heap t items)(hs:s.heap.IsSliceOf sl vl vu .none)(pl:IsPart vl lo)(pu:IsPart vu hi)
 (hw:¬(sIx items.size 0 lo=0∧sIx items.size items.size hi=items.size))
 (h:Q (.ref s.heap.objs.size) {s with heap:=s.heap.push {cls:= .type "tuple",data:= .seq ((items.toList.drop (sIx items.size 0 lo)).take (sIx items.size items.size hi - sIx items.size 0 lo)).toArray}})
 (hsz:items.size≤Ay):wpAny (model prog w) A (getItem (.ref t) (.ref sl)) Q E s:=by
 have htake:sizeOk (.seq ((items.toList.drop (sIx items.size 0 lo)).take (sIx items.size items.size hi - sIx items.size 0 lo)).toArray):=by show((items.toList.drop (sIx items.size 0 lo)).take (sIx items.size items.size hi - sIx items.size 0 lo)).toArray.size≤Ay;rw[Av,AE,D6,A9];omega
 have hj:sIx items.size items.size hi≤items.size:=XV _ _ (Ah _) hi;obtain⟨os,hos,hcs,hds⟩:=id hs;have hTs:s.TypeIs (.ref sl) "slice":=⟨os,hos,hcs⟩;unfold getItem
 try with_reducible refine AN ?_
 first | refine Aa (Ac ?_) | skip
 refine Aa (Fv ht.typeIs (by decide) ?_);refine Aa (AU (name:=BG "__getitem__") ht.typeIs BR
  (AH BR ht.typeIs entry_tuple_getitem ?_ (args_tuple_getitem _ _)))
 show wpAny _ _ (DB (.ref t)>>=_) _ _ s;refine Aa (tupleItemsOf_ ht ?_);refine Aa (C3 hTs ?_);rw[if_pos (by decide)];refine Aa (sliceApplied_gen hs pl pu ?_);have hno:¬((((sIx items.size 0 lo:Nat):Int)==0 && (1:Int)==1 && (sIx items.size items.size hi - sIx items.size 0 lo)==items.size)=true):=by intro q;rw[AF,AF] at q;have q1:((sIx items.size 0 lo:Nat):Int)=0:=eq_of_beq q.1.1;have q2:sIx items.size items.size hi - sIx items.size 0 lo=items.size:=eq_of_beq q.2;exact hw ⟨by omega,by omega⟩
 show wpAny _ _ (if(((sIx items.size 0 lo:Nat):Int)==0 && (1:Int)==1 && (sIx items.size items.size hi - sIx items.size 0 lo)==items.size)=true then _ else _) _ _ s
 rw[if_neg hno,ZZ]
 first
  | exact Aa (m:=Dl _) (AM (Ac ⟨_,rfl,Ac h⟩) htake)
  | exact Aa (m:=Dl _) (AM (Aa (Ac (Ac ⟨_,rfl,Ac h⟩))) htake)
  | exact Aa (Aa (m:=Dl _) (AM (Ac (Ac ⟨_,rfl,Ac h⟩)) htake))
  | exact Aa (Aa (m:=Dl _) (AM (Ac ⟨_,rfl,Ac h⟩) htake))
end HT
namespace L2
noncomputable abbrev TO:=St→Hp→(Option Int→Hp→Prop)→Prop
noncomputable def PO(X:Cx)(e:Option Expr)(t:TO):Prop:=
 ∀(pins:List (Addr×Obj))(s:Shared)(σ:St)(H:Hp)(Q:Option Int→Hp→Prop),Inv X pins σ H s→t σ H Q→
  wpAny (model X.prog X.w) X.A (evalPart e X.env) (λu s'=>∃o H',Inv X pins σ H' s'∧IsPart u o∧Q o H') X.xe s
noncomputable def U4:TO:=λ_ H Q=>Q none H
noncomputable def Xc(t:TE):TO:=λσ H Q=>t σ H λx H1=>∃i,x= .int i∧Q (some i) H1
section
variable{te:TE}{lo hi:Option Expr}{tl th:TO}{p2:Pos}
theorem LG:PO X none U4:=by intro pins s σ H Q I h;rw[evalPart_none];exact Ac ⟨none,H,I,.none,h⟩
theorem LH(h:PE X e te):PO X (some e) (Xc te):=by intro pins s σ H Q I hw;rw[evalPart_some];refine IG (h pins s σ H _ I hw) λu s1 ⟨x,H1,I1,r1,q1⟩=>?_;obtain⟨i,rfl,q⟩:=q1;obtain⟨t,rfl⟩:=r1;exact⟨some i,H1,I1,.int i t,q⟩
noncomputable def NL(X:Cx)(r:V→Option Int→Option Int→Hp→VK→Prop):Prop:=
 ∀(pins:List (Addr×Obj))(s:Shared)(σ:St)(H:Hp)(x:V)(v vl vu:Value)(lo hi:Option Int)(sl:Addr)(Q:VK),Inv X pins σ H s→RelV x v→s.heap.IsSliceOf sl vl vu .none→IsPart vl lo→IsPart vu hi→r x lo hi H Q→
  ∃T id,typeLookup (.type T) "__getitem__"=pure (some (.builtin id))∧s.TypeIs v T∧wpAny (model X.prog X.w) X.A (getItem v (.ref sl)) (EP X pins σ Q) X.xe s
noncomputable def tSl(r:V→Option Int→Option Int→Hp→VK→Prop)(te:TE)(tl th:TO):TE:=λσ H Q=>te σ H λx H1=>tl σ H1 λl H2=>th σ H2 λu H3=>r x l u H3 Q
theorem LK{r:V→Option Int→Option Int→Hp→VK→Prop}(hr:NL X r)(he:PE X e te)(hl:PO X lo tl)(hu:PO X hi th):PE X (.Subscript e (.Slice lo hi none p2) pos) (tSl r te tl th):=by
 intro pins s σ H Q I h;refine Subscript_ (IG (he pins s σ H _ I h) λv s1 ⟨x,H1,I1,r1,q1⟩=>?_);refine wpAny_Slice (IG (hl pins s1 σ H1 _ I1 q1) λvl s2 ⟨l,H2,I2,pl,q2⟩=>IG (hu pins s2 σ H2 _ I2 q2) λvu s3 ⟨u,H3,I3,pu,q3⟩=>?_);rw[evalPart_none];refine Ac ?_;have I4:Inv X pins σ H3 {s3 with heap:=s3.heap.push {cls:= .type "slice",data:= .fields #[vl,vu,.none]}}:=I3.kept (t':=s3.toks) λb ob q=>Ad _ q
 obtain⟨T,id,hT,ht,hg⟩:=hr pins {s3 with heap:=s3.heap.push {cls:= .type "slice",data:= .fields #[vl,vu,.none]}} σ H3 x v vl vu l u s3.heap.objs.size Q I4 r1 (Heap.IsSliceOf.new ..) pl pu q3;show wpAny (model X.prog X.w) X.A (subscriptTail e (.Slice lo hi none p2) v (.ref s3.heap.objs.size)) (EP X pins σ Q) X.xe {s3 with heap:=s3.heap.push {cls:= .type "slice",data:= .fields #[vl,vu,.none]}};exact tail_any (ops:=[.ref s3.heap.objs.size,v]) ht hT hg (by with_unfolding_all rfl)
noncomputable def J3(xs:List V)(lo hi:Option Int):List V:=(xs.drop (HT.sIx xs.length 0 lo)).take (HT.sIx xs.length xs.length hi - HT.sIx xs.length 0 lo)
theorem Wp(xs:List V)(lo hi:Option Int):(J3 xs lo hi).length≤xs.length:=by unfold J3;rw[AE,D6];omega
noncomputable def Sb(K:Ae):V→Option Int→Option Int→Hp→VK→Prop:=λx lo hi H Q=>∃a xs,x= .ref a∧SqT K H a xs∧
 ¬(HT.sIx xs.length 0 lo=0∧HT.sIx xs.length xs.length hi=xs.length)∧∀p,H p=none→Q (.ref p) (IC H p (.tup (J3 xs lo hi)))
theorem XW:NL X (Sb X.K):=by
 intro pins s σ H x v vl vu lo hi sl Q I rx hs pl pu h;obtain⟨a,xs,rfl,hx,hw,q⟩:=h;cases rx;obtain⟨its,r,ht,hz⟩:=I.tuple hx;have hlen:its.toArray.size=xs.length:=by rw[Av];exact r.length.symm
 refine⟨"tuple",_,BR.lookup,ht.typeIs,?_⟩;refine HT.getItem_tuple_cut ht hs pl pu (by rw[hlen];exact hw) ?_ (by rw[hlen];exact hz);rw[hlen];refine⟨.ref s.heap.objs.size,_,I.laid (t':=s.toks) (o:= .tup (J3 xs lo hi)) (λb ob q=>Ad _ q) (Ah _) ?_,rfl,q _ (I.hok.fresh (Ah _))⟩;exact⟨AD (Wp xs lo hi) hz,_,(r.drop (HT.sIx xs.length 0 lo)).take (HT.sIx xs.length xs.length hi - HT.sIx xs.length 0 lo),IsTupP.new _ _⟩
theorem Vals.nil_iff(r:Vals xs us):us=[]↔xs=[]:=by
 cases r with
 | nil=>simp
 | cons _ _=>simp
end
noncomputable def Mh(n:Nat)(i:Int):Option Nat:=if 0≤i then(if i<n then some i.toNat else none) else if -(n:Int)≤i then some (i+n).toNat else none
noncomputable def Km{α:Type}(xs:List α)(i:Int):Option α:=(Mh xs.length i).bind λj=>xs[j]?
theorem QI{i:Int}{j:Nat}(h:Mh n i=some j):seqIndex? i n=some j∧j<n∧ -(n:Int)≤i∧i<n:=by
 unfold Mh at h;by_cases h0:0≤i
 · rw[if_pos h0] at h;by_cases h1:i<n
   · rw[if_pos h1] at h;have e:i.toNat=j:=A4 h;exact⟨by rw[seqIndex_of h0 h1,e],by omega,by omega,h1⟩
   · rw[if_neg h1] at h;cases h
 · rw[if_neg h0] at h;by_cases h1: -(n:Int)≤i
   · rw[if_pos h1] at h;have e:(i+n).toNat=j:=A4 h;exact⟨by rw[seqIndex_neg (by omega) h1,e],by omega,h1,by omega⟩
   · rw[if_neg h1] at h;cases h
theorem Q6{α:Type}{xs:List α}{i:Int}{v:α}(h:Km xs i=some v):∃j,seqIndex? i xs.length=some j∧xs[j]?=some v∧j<xs.length∧ -(xs.length:Int)≤i∧i<xs.length:=by
 unfold Km at h;cases e:Mh xs.length i with
 | none=>rw[e] at h;cases h
 | some j=> rw[e] at h;obtain⟨h1,h2,h3,h4⟩:=QI e;exact⟨j,h1,h,h2,h3,h4⟩
theorem Lg{α:Type}{xs:List α}{j:Nat}{v:α}(h:xs[j]?=some v):Km xs (j:Int)=some v:=by
 have hj:j<xs.length:=(An.mp h).1;have e:Mh xs.length (j:Int)=some j:=by unfold Mh;rw[if_pos (by omega),if_pos (by omega)];simp
 unfold Km;rw[e];exact h
noncomputable def Xz(b:Expr):Prop:=∀o i,subscripted b false o i=operate [o,i] (getItem o i)
noncomputable def Nl(X:Cx)(r:R2):Prop:=
 ∀(value slice:Expr)(pins:List (Addr×Obj))(s:Shared)(σ:St)(H:Hp)(x y:V)(v u:Value)(Q:VK),Inv X pins σ H s→RelV x v→RelV y u→r x y H Q→
  subscripted slice false v u=operate [v,u] (getItem v u)→wpAny (model X.prog X.w) X.A (subscriptTail value slice v u) (EP X pins σ Q) X.xe s
noncomputable def MtR(X:Cx)(id:String)(r:V→List V→Hp→VK→Prop):Prop:=
 ∀(pins:List (Addr×Obj))(s:Shared)(σ:St)(H:Hp)(x:V)(xs:List V)(v:Value)(us:List Value)(Q:VK),Inv X pins σ H s→RelV x v→Vals xs us→r x xs H Q→
  wpAny (model X.prog X.w) X.A (call (.builtin id) (v::us)) (EP X pins σ Q) X.xe s
section
variable{a b:Expr}{ta tb:TE}
theorem Jf{r:R2}(hr:Nl X r)(ha:PE X a ta)(hb:PE X b tb)(hs:Xz b):PE X (.Subscript a b pos) (Qf r ta tb):=by intro pins s σ H Q I h;exact Subscript_ (Ng ha hb I h λv u s2 x y H2 I2 rx ry q=>hr a b pins s2 σ H2 x y v u Q I2 rx ry q (hs _ _))
noncomputable def Sf(K:Ae):R2:=λx y H Q=>∃p xs i v,x= .ref p∧y= .int i∧SqL K H p xs∧Km xs i=some v∧Q v H
noncomputable def Ox(K:Ae):R2:=λx y H Q=>∃p xs i v,x= .ref p∧y= .int i∧SqT K H p xs∧Km xs i=some v∧Q v H
noncomputable def Se:R2:=λx y H Q=>∃z i c,x= .str z∧y= .int i∧z.length≤Ay∧Km z.cps.toList i=some c∧Q (.str ⟨#[c]⟩) H
theorem JV:Nl X (Sf X.K):=by
 intro value slice pins s σ H x y v u Q I rx ry h hs;obtain⟨p,xs,i,z,rfl,rfl,hq,he,q⟩:=h;cases rx;obtain⟨t,rfl⟩:=ry;obtain⟨its,r,pl,hz⟩:=I.list hq;obtain⟨j,h1,h2,h3,h4,h5⟩:=Q6 he;obtain⟨w,ew,rw'⟩:=r.get h2;have hl:=r.length;have hn:=ML;have fin:EP X pins σ Q w s:=⟨z,H,I,rw',q⟩;by_cases h0:0≤i
 · have hj:i.toNat=j:=by
    rw[seqIndex_of h0 h5] at h1;exact A4 h1
   exact item_listR pl.isList h0 (by omega) (by rw[hj];simpa using ew) fin hs
 · have hj:(i+(its.toArray.size:Int)).toNat=j:=by
    rw[seqIndex_neg (by omega) h4] at h1;rw[Av,←hl];exact A4 h1
   exact Gk (x:=w) pl.isList.typeIs Fw.lookup
    (wpAny_getItem_list_neg (Q:=λr s'=>r=w∧EP X pins σ Q r s') pl.isList (by omega) (by rw[Av]<;>omega) (by omega) (by rw[hj];simpa using ew) ⟨rfl,fin⟩) hs
theorem JM:Nl X (Ox X.K):=by
 intro value slice pins s σ H x y v u Q I rx ry h hs;obtain⟨p,xs,i,z,rfl,rfl,hq,he,q⟩:=h;cases rx;obtain⟨t,rfl⟩:=ry;obtain⟨its,r,pl,hz⟩:=I.tuple hq;obtain⟨j,h1,h2,h3,h4,h5⟩:=Q6 he;obtain⟨w,ew,rw'⟩:=r.get h2;have hl:=r.length;have hn:=ML;have fin:EP X pins σ Q w s:=⟨z,H,I,rw',q⟩;exact Gk (x:=w) pl.typeIs slot_tuple_getitem.lookup
  (getItem_tuple (j:=j) (Q:=λr s'=>r=w∧EP X pins σ Q r s') pl (by omega) (by omega) (by rw[Av,←hl];exact h1) (by simpa using ew) ⟨rfl,fin⟩) hs
theorem Tj:Nl X Se:=by
 intro value slice pins s σ H x y v u Q I rx ry h hs;obtain⟨z,i,c,rfl,rfl,hz,he,q⟩:=h;obtain⟨t,rfl⟩:=rx;obtain⟨t',rfl⟩:=ry;obtain⟨j,h1,h2,h3,h4,h5⟩:=Q6 he;have hl:z.cps.toList.length=z.length:=by simp[Str.length]
 rw[hl] at h1 h4 h5;have hn:=ML;exact tail_any (typeIs_str s z t) slot_str_getitem.lookup (getItem_str (c:=c) (by have e1:decide (i< -(2^63:Int))=false:=decide_eq_false (by omega);have e2:decide (i≥2^63)=false:=decide_eq_false (by omega);rw[e1,e2,Bool.or_false]) (by rw[h1];simpa using h2) ⟨.str ⟨#[c]⟩,H,I.tok _,⟨_,rfl⟩,q⟩) hs
theorem zjE(its:List Value)(n j:Nat)(u:Value):AI (·.setIfInBounds j u) {cls:= .type "list",data:= .seq its.toArray n}={cls:= .type "list",data:= .seq (its.set j u).toArray n}:=by simp[AI]
theorem Inv.lst{p:Addr}(I:Inv X pins σ H s)(h:H p=some (.lst xs)):
 ∃(its:List Value)(n:Nat),Vals xs its∧s.heap.get? p=some {cls:= .type "list",data:= .seq its.toArray n}∧xs.length≤Ay:=by
 obtain⟨z,its,n,r,e⟩:=I.hok p _ h;exact⟨its,n,r,e,z⟩
theorem Inv.lstUpd{p:Addr}{ys:List V}{its its':List Value}{n n':Nat}{f:Obj→Obj}(I:Inv X pins σ H s)(h:H p=some (.lst xs))
 (ho:s.heap.get? p=some {cls:= .type "list",data:= .seq its.toArray n}) (hf:f {cls:= .type "list",data:= .seq its.toArray n}={cls:= .type "list",data:= .seq its'.toArray n'}) (r:Vals ys its') (hz:ys.length≤Ay) (t:Nat):
 Inv X pins σ (IC H p (.lst ys)) {s with heap:=s.heap.update p f,toks:=t}:=by
 have e:(s.heap.update p f).get? p=some {cls:= .type "list",data:= .seq its'.toArray n'}:=by rw[Bb f ho (by rw[hf]<;>rfl),hf]
 refine I.write (x:=p) (e:=p) (by rw[h];trivial) (.inl rfl) (λb u hb q=>(AT _ _ (BI hb)).trans q) ⟨_,e⟩ ?_;exact⟨hz,its',n',r,e⟩
noncomputable def WV:V→V→V→Hp→(Hp→Prop)→Prop:=λo i v H Q=>∃p xs k j,o= .ref p∧i= .int k∧H p=some (.lst xs)∧Mh xs.length k=some j∧Q (IC H p (.lst (xs.set j v)))
theorem QL:ON X WV:=by
 intro pins s σ H o i v ov iv u Q I ro ri rv h;obtain⟨p,xs,k,j,rfl,rfl,hp,hj,q⟩:=h;cases ro;obtain⟨t,rfl⟩:=ri;obtain⟨its,n,r,ho,hz⟩:=I.lst hp;obtain⟨h1,h2,h3,h4⟩:=QI hj;have hl:=r.length;have hn:=ML;have I':Inv X pins σ (IC H p (.lst (xs.set j v))) {s with heap:=s.heap.update p (AI (·.setIfInBounds j u))}:=
  I.lstUpd hp ho (zjE its n j u) (r.set rv j) (by rw[List.length_set];exact hz) s.toks
 by_cases h0:0≤k
 · have hk:k.toNat=j:=by
    rw[seqIndex_of h0 h4] at h1;exact A4 h1
   exact PySem.W.ki_setAt ho h0 (by omega) (by rw[Av,←hl];exact h4) (by rw[hk];exact⟨_,I',q⟩)
 · have hk:(k+(its.toArray.size:Int)).toNat=j:=by
    rw[seqIndex_neg (by omega) h3] at h1;rw[Av,←hl];exact A4 h1
   exact PySem.W.ki_setBack ho (by omega) (by rw[Av,←hl];exact h3) (by omega) (by rw[hk];exact⟨_,I',q⟩)
theorem zgm(lo hi:Option Int)(n:Nat):(sliceBounds lo hi none n).1=((HT.sIx n 0 lo:Nat):Int)∧(sliceBounds lo hi none n).2.1=((HT.sIx n n hi:Nat):Int)∧(sliceBounds lo hi none n).2.2=1:=by
 refine⟨?_,?_,rfl⟩
 · cases lo with
   | none=>simp[sliceBounds,HT.sIx]
   | some i=>
    simp only[sliceBounds,HT.sIx,FJ,show(1:Int)>0 by decide,if_true];by_cases h:i<0
    · simp only[h,if_true]<;>omega
    · simp only[h,if_false]<;>omega
 · cases hi with
   | none=>simp[sliceBounds,HT.sIx]
   | some i=>
    simp only[sliceBounds,HT.sIx,FJ,show(1:Int)>0 by decide,if_true];by_cases h:i<0
    · simp only[h,if_true]<;>omega
    · simp only[h,if_false]<;>omega
theorem zfu(its:List Value)(lo hi:Option Int):slicePick its.toArray lo hi none=((its.drop (HT.sIx its.length 0 lo)).take (HT.sIx its.length its.length hi - HT.sIx its.length 0 lo)).toArray:=by obtain⟨h1,h2,h3⟩:=zgm lo hi its.toArray.size;unfold slicePick;rw[h1,h2,h3];simp only[sliceRange_one,pick_run,Av]<;>rfl
noncomputable def Sc(K:Ae):V→Option Int→Option Int→Hp→VK→Prop:=λx lo hi H Q=>∃a xs,x= .ref a∧SqL K H a xs∧∀p,H p=none→Q (.ref p) (IC H p (.lst (J3 xs lo hi)))
theorem Up:NL X (Sc X.K):=by intro pins s σ H x v vl vu lo hi sl Q I rx hs pl pu h;obtain⟨a,xs,rfl,hx,q⟩:=h;cases rx;obtain⟨its,r,ht,hz⟩:=I.list hx;have hlen:=r.length;refine⟨"list",_,Fw.lookup,ht.isList.typeIs,?_⟩;refine FK ht.isList hs pl pu .none (by simp) ?_ (by rw[Av]<;>omega);rw[zfu,←hlen];refine⟨.ref s.heap.objs.size,_,I.laid (t':=s.toks) (o:= .lst (J3 xs lo hi)) (λb ob q=>Ad _ q) (Ah _) ?_,rfl,q _ (I.hok.fresh (Ah _))⟩;exact⟨AD (Wp xs lo hi) hz,_,0,(r.drop (HT.sIx xs.length 0 lo)).take (HT.sIx xs.length xs.length hi - HT.sIx xs.length 0 lo),Ak _ rfl⟩
noncomputable def LQ:V→Bool
 | .non=>true
 | .bl _=>true
 | .int _=>true
 | .str _=>true
 | _=>false
noncomputable def LN:V→V→Bool
 | .non,.non=>true
 | .bl a,.bl b=>a==b
 | .bl a,.int b=>(if a then 1 else 0)==b
 | .int a,.bl b=>a==(if b then 1 else 0)
 | .int a,.int b=>a==b
 | .str a,.str b=>a==b
 | _,_=>false
theorem XY{y x:V}{v:Value}(ry:RelV y u)(rx:RelV x v)(fy:LQ y=true)(fx:LQ x=true):DZ A s u v (LN y x):=by
 cases y with
 | non=>
  cases ry;cases x with
  | non=>cases rx;exact DJ _
  | bl b=>cases rx;exact GB b
  | int b=>obtain⟨t,rfl⟩:=rx;exact EH b t
  | str b=>obtain⟨t,rfl⟩:=rx;exact EI b t
  | _=>exact absurd (show false=true from fx) Au
 | bl a=>
  cases ry;cases x with
  | non=>cases rx;exact GC a
  | bl b=>cases rx;exact GD a b
  | int b=>obtain⟨t,rfl⟩:=rx;exact GK a b t
  | str b=>obtain⟨t,rfl⟩:=rx;exact GL a b t
  | _=>exact absurd (show false=true from fx) Au
 | int a=>
  obtain⟨t',rfl⟩:=ry;cases x with
  | non=>cases rx;exact EJ a t'
  | bl b=>cases rx;exact GM a t' b
  | int b=>obtain⟨t,rfl⟩:=rx;exact SeqAt.EqAt.int_int a t' b t
  | str b=>obtain⟨t,rfl⟩:=rx;exact DO a t' b t
  | _=>exact absurd (show false=true from fx) Au
 | str a=>
  obtain⟨t',rfl⟩:=ry;cases x with
  | non=>cases rx;exact EK a t'
  | bl b=>cases rx;exact GN a t' b
  | int b=>obtain⟨t,rfl⟩:=rx;exact DP a t' b t
  | str b=>obtain⟨t,rfl⟩:=rx;exact SeqAt.EqAt.str_str a t' b t
  | _=>exact absurd (show false=true from fx) Au
 | _=>exact absurd (show false=true from fy) Au
noncomputable def Mi(x:V)(u:Value):Bool:=match u with
 | .none=>LN .non x
 | .bool b=>LN (.bl b) x
 | .int i _=>LN (.int i) x
 | .str z _=>LN (.str z) x
 | _=>false
theorem Ti{x y:V}(r:RelV y u)(f:LQ y=true):Mi x u=LN y x:=by
 cases y with
 | non=>cases r;rfl
 | bl b=>cases r;rfl
 | int i=>obtain⟨t,rfl⟩:=r;rfl
 | str z=>obtain⟨t,rfl⟩:=r;rfl
 | _=>exact absurd (show false=true from f) Au
theorem Q5{x:V}:∀{xs:List V}{us:List Value},Vals xs us→xs.all LQ=true→us.any (Mi x)=xs.any λy=>LN y x
 | _,_,.nil,_=>rfl
 | y::xs,u::us,.cons r t,f=>by rw[C5,AF] at f;rw[CG,CG,Ti r f.1,Q5 t f.2]
theorem QQ{x:V}{v:Value}(rx:RelV x v)(fx:LQ x=true):∀{xs:List V}{us:List Value},Vals xs us→xs.all LQ=true→∀u∈us,DZ A s u v (Mi x u)
 | _,_,.nil,_=>λu hu=>by cases hu
 | y::xs,u::us,.cons r t,f=>λu' hu=>by
  rw[C5,AF] at f;rcases Aw.mp hu with rfl | hu
  · rw[Ti r f.1];exact XY r rx f.1 fx
  · exact QQ rx fx t f.2 u' hu
noncomputable def Qh(x:V)(xs:List V):Bool:=xs.any λy=>LN y x
noncomputable def rIn(K:Ae)(neg:Bool):R2:=λx y H Q=>∃p xs,y= .ref p∧(SqL K H p xs∨SqT K H p xs)∧LQ x=true∧xs.all LQ=true∧Q (.bl (if neg then !Qh x xs else Qh x xs)) H
theorem zgz:J2 X (BF .NotIn) (rIn X.K true):=by
 intro pins s σ H x y v u Q I rx ry h;obtain⟨p,xs,rfl,hq,fx,fs,q⟩:=h;cases ry;rcases hq with hq | hq
 · obtain⟨its,r,pl,hz⟩:=I.list hq;refine SeqAt.notIn_listAt (Mi x) pl.isList (λw hw=>QQ rx fx r fs w (by simpa using hw)) ⟨.bl _,H,I,rfl,?_⟩;rw[show its.toArray.any (Mi x)=its.any (Mi x) by simp,Q5 r fs];exact q
 · obtain⟨its,r,pl,hz⟩:=I.tuple hq;refine SeqAt.notIn_tupleAt (Mi x) pl (λw hw=>QQ rx fx r fs w (by simpa using hw)) ⟨.bl _,H,I,rfl,?_⟩;rw[show its.toArray.any (Mi x)=its.any (Mi x) by simp,Q5 r fs];exact q
theorem zgy:J2 X (BF .NotIn) (λx y H Q=>∃i j,x= .str i∧y= .str j∧Q (.bl (!(!(Ec j i 0 j.length 1).isEmpty))) H):=by intro pins s σ H x y v u Q I rx ry h;obtain⟨i,j,rfl,rfl,q⟩:=h;obtain⟨t,rfl⟩:=rx;obtain⟨t',rfl⟩:=ry;exact notIn_str ⟨.bl _,H,I,rfl,q⟩
theorem Kw:KH X (.builtin "len") (λxs H Q=>∃p ys,xs=[.ref p]∧(SqL X.K H p ys∨SqT X.K H p ys)∧Q (.int ys.length) H):=by
 intro pins s σ H xs us Q I r h;obtain⟨p,ys,rfl,hq,q⟩:=h;obtain⟨u,rfl,rx⟩:=KA r;cases rx;have hn:=ML;rcases hq with hq | hq
 · obtain⟨its,r',pl,hz⟩:=I.list hq;have hlen:=r'.length;exact Calls.call_len_list pl.isList (by simp only[Av]<;>omega) ⟨.int ys.length,H,I.tok _,⟨s.toks+1,by rw[Av,hlen]⟩,q⟩
 · obtain⟨its,r',pl,hz⟩:=I.tuple hq;have hlen:=r'.length;exact len_tuple pl (by simp only[Av]<;>omega) ⟨.int ys.length,H,I.tok _,⟨s.toks+1,by rw[Av,hlen]⟩,q⟩
theorem R9:KH X (.builtin "len") (λxs H Q=>∃z,xs=[.str z]∧z.length≤Ay∧Q (.int z.length) H):=by intro pins s σ H xs us Q I r h;obtain⟨z,rfl,hz,q⟩:=h;obtain⟨u,rfl,t,rfl⟩:=KA r;have hn:=ML;exact len_str (by omega) ⟨.int z.length,H,I.tok _,⟨_,rfl⟩,q⟩
theorem Wo:KH X (.type "list") (λxs H Q=>∃p ys,xs=[.ref p]∧(SqL X.K H p ys∨SqT X.K H p ys)∧∀l,H l=none→Q (.ref l) (IC H l (.lst ys))):=by
 intro pins s σ H xs us Q I r h;obtain⟨p,ys,rfl,hq,q⟩:=h;obtain⟨u,rfl,rx⟩:=KA r;cases rx;have fin:∀(its:List Value),Vals ys its→ys.length≤Ay→∀(h':Heap)(c':Nat),(∀b o',s.heap.get? b=some o'→h'.get? b=some o')→
  h'.get? s.heap.objs.size=some {cls:= .type "list",dict:=none,data:= .seq its.toArray c',slots:=#[]}→EP X pins σ Q (.ref s.heap.objs.size) {s with heap:=h'}:=λits r' hz h' c' kp e=>
  ⟨.ref s.heap.objs.size,_,I.laid (t':=s.toks) kp (Ah _) (show ObjOk X.prog X.w _ h' _ (.lst ys) from⟨hz,its,c',r',e⟩),rfl,q _ (I.hok.fresh (Ah _))⟩
 rcases hq with hq | hq
 · obtain⟨its,r',pl,hz⟩:=I.list hq;have hlen:=r'.length;obtain⟨o,ho,hc,n,hd⟩:=pl.isList;exact call_list_seq p (.inl rfl) ho hc hd (λh' c' kp e=>fin its r' hz h' c' kp e) (by simp only[Av]<;>omega)
 · obtain⟨its,r',pl,hz⟩:=I.tuple hq;have hlen:=r'.length;obtain⟨o,ho,hc,n,hd⟩:=pl;exact call_list_seq p (.inr rfl) ho hc hd (λh' c' kp e=>fin its r' hz h' c' kp e) (by simp only[Av]<;>omega)
theorem PY:KH X (.type "tuple") (λxs H Q=>∃p ys,xs=[.ref p]∧((SqL X.K H p ys∧∀l,H l=none→Q (.ref l) (IC H l (.tup ys)))∨(SqT X.K H p ys∧Q (.ref p) H))):=by
 intro pins s σ H xs us Q I r h;obtain⟨p,ys,rfl,h⟩:=h;obtain⟨u,rfl,rx⟩:=KA r;cases rx;rcases h with⟨hq,q⟩ | ⟨hq,q⟩
 · obtain⟨its,r',pl,hz⟩:=I.list hq;have hlen:=r'.length;refine call_tuple_list pl.isList (λh' kp=>?_) (by simp only[Av]<;>omega);have I1:Inv X pins σ H {s with heap:=h'}:=I.kept (t':=s.toks) kp;have I2:Inv X pins σ (IC H h'.objs.size (.tup ys)) {s with heap:=h'.push {cls:= .type "tuple",data:= .seq its.toArray}}:=
    I1.laid (t':=s.toks) (λb o e=>Ad _ e) (Ah _) (show ObjOk X.prog X.w _ _ _ (.tup ys) from⟨hz,its,r',IsTupP.new _ _⟩)
   exact⟨.ref h'.objs.size,_,I2,rfl,q _ (I1.hok.fresh (Ah _))⟩
 · obtain⟨its,r',pl,hz⟩:=I.tuple hq;exact call_tuple_same pl ⟨.ref p,H,I,rfl,q⟩
noncomputable def WD(K:Ae)(T:String)(x:V)(H:Hp):Prop:=match x with
 | .str _=>T="str"
 | .int _=>T="int"
 | .ref p=>(T="list"∧∃xs,SqL K H p xs)∨(T="tuple"∧∃o,K.lookup p=some o∧o.cls= .type "tuple"∧o.dict=none)∨
  (T="dict"∧((∃kvs,H p=some (.dK kvs))∨∃kvs,H p=some (.dT kvs)))∨(T="set"∧∃S n,H p=some (.set S n))
 | _=>False
theorem Xu{T:String}{x:V}{v:Value}(I:Inv X pins σ H s)(r:RelV x v)(ty:WD X.K T x H):
 s.TypeIs v T∧∀a,v= .ref a→∃ob,s.heap.get? a=some ob∧ob.dict=none:=by
 cases x with
 | str z=> obtain⟨t,rfl⟩:=r;cases(show T="str" from ty);exact⟨typeIs_str s z t,λ_ e=>nomatch e⟩
 | int i=> obtain⟨t,rfl⟩:=r;cases(show T="int" from ty);exact⟨typeIs_int s i t,λ_ e=>nomatch e⟩
 | ref p=>
  cases r;rcases ty with⟨rfl,xs,hq⟩ | ⟨rfl,o,hk,hc,hd⟩ | ⟨rfl,hk⟩ | ⟨rfl,S,n,hk⟩
  · obtain⟨its,_,pl,_⟩:=I.list hq;refine⟨pl.isList.typeIs,λa e=>?_⟩;cases e;obtain⟨o,n,e,c,hd,_⟩:=pl;exact⟨o,e,hd⟩
  · refine⟨⟨o,I.kIn p o hk,hc⟩,λa e=>?_⟩;cases e;exact⟨o,I.kIn _ o hk,hd⟩
  · have z:∃o,s.heap.get? p=some o∧o.ExactDict:=by
     rcases hk with⟨kvs,hk⟩ | ⟨kvs,hk⟩
     · obtain⟨_,_,_,_,o,_,_,e,ex,_⟩:=I.hok p _ hk;exact⟨o,e,ex⟩
     · obtain⟨_,_,_,_,o,_,_,e,ex,_⟩:=I.hok p _ hk;exact⟨o,e,ex⟩
    obtain⟨o,e,ex⟩:=z;refine⟨⟨o,e,ex.1⟩,λa e2=>?_⟩;cases e2;exact⟨o,e,ex.2.1⟩
  · obtain⟨o,_,_,_,e,ex,_⟩:=I.hok p _ hk;refine⟨⟨o,e,ex.1⟩,λa e2=>?_⟩;cases e2;exact⟨o,e,ex.2.1⟩
 | _=>exact Dg ty
noncomputable def tBM(K:Ae)(T:String)(r:V→List V→Hp→VK→Prop)(to:TE)(t:TA):TE:=λσ H Q=>to σ H λx H1=>WD K T x H1∧t σ H1 λxs H2=>r x xs H2 Q
variable{o:Expr}{es:List Expr}{to:TE}{t:TA}{name:Str}{apos cpos:Pos}{T id:String}{r:V→List V→Hp→VK→Prop}
theorem LS(pa:PlainAttrs T)(slot:Slot T name id)(hty:typeOf (.builtin id)=pure (.type "method_descriptor"))(hm:MtR X id r)(ho:PE X o to)(ha:PA X (e::es) t)
 (hbase:attributeBase o name X.env (eval o X.env)=eval o X.env:=by rfl)
 (hfew:((backTo cpos (AL (e::es) X.env)).all (λx=>!x.1) && (backToKw cpos (keywordEach [] X.env)).all (λx=>x.1.isSome)
  && decide ((e::es).length+([]:List Keyword).length+(if([]:List Keyword).isEmpty then 0 else 1)<30))=true:=by rfl)
 (hline:(apos.endLine==cpos.line)=true:=by rfl) (hs:AL (e::es) X.env=(false,eval e X.env)::AL es X.env:=by rfl) (hplain:(backTo cpos (AL es X.env)).any (·.1)=false:=by rfl):
 PE X (.Call (.Attribute o name apos) (e::es) [] cpos) (tBM X.K T r to t):=by
 intro pins s σ H Q I h;refine wpAny_Call_method_late hbase hfew hline rfl (IG (ho pins s σ H _ I h) λv s1 ⟨x,H1,I1,r1,ty,q1⟩=>?_);obtain⟨h1,h2⟩:=Xu I1 r1 ty;refine⟨T,id,pa,slot,hty,h1,h2,?_⟩;have hA:=ha cpos pins s1 σ H1 _ I1 q1;rw[hs] at hA ⊢;refine Gm (by show(false || (backTo cpos (AL es X.env)).any (·.1))=false;rw[hplain]<;>rfl) (GE ?_);exact IG hA λus s2 ⟨vs,H2,I2,r2,q2⟩=>hm pins s2 σ H2 x vs v us Q I2 r1 r2 q2
end
noncomputable def SE(X:Cx)(id:String)(r:V→List V→Hp→VK→Prop):Prop:=
 ∀(pins:List (Addr×Obj))(s:Shared)(σ:St)(H:Hp)(x:V)(xs:List V)(v:Value)(us:List Value)(Q:VK),Inv X pins σ H s→RelV x v→Vals xs us→r x xs H Q→
  wpAny (model X.prog X.w) X.A (call (.builtin id) (v::us)) (EP X pins σ Q) X.xe s
theorem Vals.one:∀{x:V}{us:List Value},Vals [x] us→∃u,us=[u]∧RelV x u
 | _,_,.cons r .nil=>⟨_,rfl,r⟩
theorem Vals.eraseIdx:∀{xs:List V}{us:List Value}(i:Nat),Vals xs us→Vals (xs.eraseIdx i) (us.eraseIdx i)
 | _,_,_,.nil=> .nil
 | _,_,0,.cons _ t=>t
 | _,_,i+1,.cons r t=> .cons r (Vals.eraseIdx i t)
theorem VN{α:Type}:∀(l:List α)(i:Nat),(l.eraseIdx i).length≤l.length
 | [],_=>Ah _
 | _::_,0=>CS _
 | _::r,i+1=>Nat.succ_le_succ (VN r i)
section
variable{l:Addr}{ys zs:List V}
theorem Inv.lset{its its':List Value}{n:Nat}{f:Array Value→Array Value}{t':Nat}(I:Inv X pins σ H s)(hH:H l=some (.lst xs))
 (e:s.heap.get? l=some {cls:= .type "list",data:= .seq its.toArray n}) (hf:f its.toArray=its'.toArray) (hv:Vals ys its') (hz:ys.length≤Ay):
 Inv X pins σ (IC H l (.lst ys)) {s with heap:=s.heap.update l (AI f),toks:=t'}:=by
 have q:=PySem.IsL.update e f;rw[hf] at q;refine I.write (x:=l) (e:=l) (by rw[hH];exact trivial) (.inl rfl) (λb' u hb hu=>(AT s.heap (AI f) (BI hb)).trans hu) ⟨_,q⟩ ?_;exact⟨hz,its',_,hv,q⟩
theorem Inv.lnew{its:List Value}{t':Nat}(I:Inv X pins σ H s)(hv:Vals ys its)(hz:ys.length≤Ay):
 Inv X pins σ (IC H s.heap.objs.size (.lst ys)) {s with heap:=s.heap.push {cls:= .type "list",data:= .seq its.toArray},toks:=t'}:=
 I.laid (λ_ _ q=>Ad _ q) (Ah _) ⟨hz,its,0,hv,Ak _ rfl⟩
theorem Inv.fresh(I:Inv X pins σ H s):H s.heap.objs.size=none:=I.hok.fresh (Ah _)
theorem Inv.lstM(I:Inv X pins σ H s)(hH:H l=some (.lst xs)):xs.length≤Ay∧∃(its:List Value)(n:Nat),Vals xs its∧xs.length=its.length∧s.heap.get? l=some {cls:= .type "list",data:= .seq its.toArray n}:=by obtain⟨z,its,n,r,e⟩:=I.hok l _ hH;exact⟨z,its,n,r,r.length,e⟩
theorem Ve(h:n≤Ay):FL n=false:=by unfold FL;exact decide_eq_false (by omega)
end
noncomputable def Uj:V→List V→Hp→VK→Prop:=λx vs H Q=>∃l xs y,x= .ref l∧vs=[y]∧H l=some (.lst xs)∧xs.length<Ay∧Q .non (IC H l (.lst (xs++[y])))
theorem LY:SE X "list.append" Uj:=by intro pins s σ H x vs v us Q I rx rv h;obtain⟨l,xs,y,rfl,rfl,hH,hz,q⟩:=h;cases rx;obtain⟨u,rfl,ru⟩:=rv.one;obtain⟨z,its,n,r,hl,e⟩:=I.lstM hH;refine call_meets F.slot_list_append ⟨_,e,rfl⟩ F.entry_list_append (F.args_list_append_2 _ _) (PySem.list_append l its.toArray n u (by rw[Av];omega)) ⟨e,?_⟩;refine⟨.non,_,I.lset (its':=its++[u]) hH e (by simp) (r.append (.cons ru .nil)) ?_,rfl,q⟩;rw[A6,E1];omega
noncomputable def XS:V→List V→Hp→VK→Prop:=λx vs H Q=>∃l xs i k y,x= .ref l∧vs=[.int i]∧H l=some (.lst xs)∧ -(2^63)≤i∧i<2^63∧seqIndex? i xs.length=some k∧xs[k]?=some y∧Q y (IC H l (.lst (xs.eraseIdx k)))
theorem Ze:SE X "list.pop" XS:=by
 intro pins s σ H x vs v us Q I rx rv h;obtain⟨l,xs,i,k,y,rfl,rfl,hH,h1,h2,hk,hy,q⟩:=h;cases rx;obtain⟨u,rfl,ru⟩:=rv.one;obtain⟨t,rfl⟩:=ru;obtain⟨z,its,n,r,hl,e⟩:=I.lstM hH;obtain⟨w,hw,rw'⟩:=r.get hy;refine call_meets F.slot_list_pop ⟨_,e,rfl⟩ F.entry_list_pop (F.args_list_pop_2 _ _)
  (MeetsSeq.list_pop_at l its.toArray n i t k w (fitsIndex_both h1 h2) (by rw[Av,←hl];exact hk) (by rw[←Cq];exact hw) (by rw[Av];omega)) ⟨e,?_⟩
 refine⟨y,_,I.lset (its':=its.eraseIdx k) hH e ?_ (r.eraseIdx k) ?_,rw',q⟩
 · show its.toArray.eraseIdxIfInBounds k=(its.eraseIdx k).toArray;rw[List.eraseIdxIfInBounds_toArray]
 · have:=VN xs k;omega
noncomputable def Si:R2:=λx y H Q=>∃l b xs zs,x= .ref l∧y= .ref b∧H l=some (.lst xs)∧H b=some (.lst zs)∧xs.length+zs.length≤Ay∧∀p,H p=none→Q (.ref p) (IC H p (.lst (xs++zs)))
theorem Tn:J2 X (binaryOp .Add) Si:=by
 intro pins s σ H x y v u Q I rx ry h;obtain⟨l,b,xs,zs,rfl,rfl,hH,hB,hz,q⟩:=h;cases rx;cases ry;obtain⟨z,its,n,r,hl,e⟩:=I.lstM hH;obtain⟨z2,its2,n2,r2,hl2,e2⟩:=I.lstM hB;refine PySem.P.add_list e e2 ?_ (by rw[Av,Av];omega);have ea:its.toArray++its2.toArray=(its++its2).toArray:=by simp
 rw[ea];exact⟨.ref _,_,I.lnew (t':=s.toks) (r.append r2) (by rw[A6];omega),rfl,q _ I.fresh⟩
theorem zjR{a c:Nat}(hac:a≤c)(hc:c≤n):sliceBounds (some (a:Int)) (some (c:Int)) none n=((a:Int),(c:Int),1):=by
 simp only[sliceBounds,FJ];have h1:¬((a:Int)<0):=by omega
 have h2:¬((c:Int)<0):=by omega
 simp only[h1,h2,if_false,show(1:Int)>0 by decide,if_true];congr 1
 · omega
 · congr 1;omega
set_option maxRecDepth 100000 in
theorem LL{l b sl:Addr}{items new:Array Value}{n n2:Nat}{vl vu:Value}{a c:Nat}{Q:Unit→Shared→Prop}
 (e:s.heap.get? l=some {cls:= .type "list",data:= .seq items n}) (e2:s.heap.get? b=some {cls:= .type "list",data:= .seq new n2}) (hne:l≠b)
 (hs:s.heap.IsSliceOf sl vl vu .none) (pl:IsPart vl (some (a:Int))) (pu:IsPart vu (some (c:Int))) (hac:a≤c) (hc:c≤items.size)
 (hsz:items.size+new.size≤Ay) (h:Q () {s with heap:=s.heap.update l (AI λxs=>xs.extract 0 a++new++xs.extract c xs.size)}):
 wpAny (model prog w) A (setItem (.ref l) (.ref sl) (.ref b)) Q E s:=by
 have hl:s.heap.IsList l items:=PySem.IsL.isList e;have hb:s.heap.IsList b new:=PySem.IsL.isList e2;obtain⟨os,hos,hcs,hds⟩:=id hs;have hTs:s.TypeIs (.ref sl) "slice":=⟨os,hos,hcs⟩;have hstep:¬((rawPart none==rawInt 0)=true):=Au;have hsame:Cs (.ref l) (.ref b)=false:=by unfold Cs;exact beq_eq_false_iff_ne.mpr hne
 have hmax:(max (a:Int) (c:Int)).toNat=c:=by omega
 have hz':((λxs:Array Value=>xs.extract 0 a++new++xs.extract c xs.size) items).size≤Ay+1:=by simp only[Fx,Array.size_extract];omega
 unfold setItem
 try with_reducible refine AN ?_
 first | refine Aa (Ac ?_) | skip
 refine Aa (Fv hl.typeIs (by decide) ?_);refine Aa (AU (name:=BG "__setitem__") hl.typeIs slot_list_setitem
  (AH slot_list_setitem hl.typeIs entry_list_setitem ?_ (args_list_setitem _ _ _)))
 show wpAny _ _ (E_ (.ref sl)>>=_) _ _ s;refine Aa ?_;unfold E_;refine Aa (Cn hTs slice_no_index ?_);simp only[Option.isNone_none,if_true];refine Ac ?_;show wpAny _ _ (typeOf (.ref sl)>>=_) _ _ s;refine Aa (C3 hTs ?_)
 first
  | rw[if_neg (by decide)]
  | refine Fb (by decide) ?_
 rw[listSliceParts_eq];refine Aa (Aa (AY hos hds (x:= .none) rfl (Aa (G0 .none ?_))));rw[if_neg hstep];refine Aa (AY hos hds (x:=vl) rfl (Aa (G0 pl ?_)));refine Aa (AY hos hds (x:=vu) rfl (Aa (G0 pu (Ac ?_))))
 first
  | simp only[hsame,AR,if_false]
  | refine Fb hsame ?_
  | (dsimp only
     rw[if_neg (by rw[hsame];exact Au)])
 refine Aa (m:=FD (.ref b) "must assign iterable to extended slice") ?_;unfold FD;refine Aa (C3 hb.typeIs ?_)
 first
  | refine PySem.W.KFB.if_so (by decide) ?_
  | rw[if_pos (by decide)]
  | simp only[beq_self_eq_true,Bool.true_or,if_true]
 unfold Builtin.List.listItems;refine Aa (AW e2 rfl (Ac ?_));refine Aa (Aa (AW e rfl (Ac ?_)));refine Aa (Dv ((sliceIndices_raw (some (a:Int)) (some (c:Int)) none items.size (by simp)).trans (congrArg (pure:Int×Int×Int→Sem (Int×Int×Int)) (zjR hac hc))) ?_);show wpAny _ _ (if((1:Int)==1)=true then _ else _) _ _ s
 rw[if_pos (by decide)];refine Aa (BA ?_)
 first
  | simp only[Ve hsz,AR,if_false]
  | refine Fb (Ve hsz) ?_
 first | refine Aa (Ac ?_) | skip
 show wpAny _ _ (updateSeq l (λxs=>xs.extract 0 ((a:Int)).toNat++new++xs.extract (max (a:Int) (c:Int)).toNat xs.size)>>=_) _ _ s;rw[hmax,AZ];refine Aa (Cb (hz:=AD (D7 _ _) hsz) (_hz':=hz') e rfl ?_);refine Aa (Ch ?_)
 first
  | exact Aa (Ac (Ac ⟨.none,rfl,Ac h⟩))
  | exact Ac ⟨.none,rfl,Ac h⟩
section
variable{κ:Type}[DecidableEq κ]
noncomputable def Jb(kvs:List (κ×V))(k:κ):Option V:=(kvs.find? λkv=>decide (kv.1=k)).map (·.2)
noncomputable def Ja(kvs:List (κ×V))(k:κ)(v:V):List (κ×V):=
 if(kvs.any λkv=>decide (kv.1=k))=true then kvs.map (λkv=>if kv.1=k then(kv.1,v) else kv) else kvs++[(k,v)]
theorem Lz{p:κ×V}{r:List (κ×V)}{k:κ}(e:p.1=k):Jb (p::r) k=some p.2:=by simp[Jb,Cz,e]
theorem Ly{p:κ×V}{r:List (κ×V)}{k:κ}(e:¬p.1=k):Jb (p::r) k=Jb r k:=by simp[Jb,Cz,e]
theorem Pu(k:κ):∀kvs:List (κ×V),(kvs.any λkv=>decide (kv.1=k))=(Jb kvs k).isSome
 | []=>rfl
 | p::r=>by
  rw[CG];by_cases e:p.1=k
  · simp only[Lz e,decide_eq_true e,Bool.true_or,Option.isSome_some]
  · rw[Ly e,decide_eq_false e,Bool.false_or];exact Pu k r
theorem UQ(k j:κ)(y:V):∀kvs:List (κ×V),Jb (kvs.map λkv=>if kv.1=k then(kv.1,y) else kv) j=(Jb kvs j).map λx=>if j=k then y else x
 | []=>rfl
 | p::r=>by
  have ih:=UQ k j y r;rw[Ax];by_cases h:p.1=k
  · rw[if_pos h];by_cases e:p.1=j
    · rw[Lz (p:=(p.1,y)) e,Lz e,EA,if_pos (e.symm.trans h)]
    · rw[Ly (p:=(p.1,y)) e,Ly e,ih]
  · rw[if_neg h];by_cases e:p.1=j
    · rw[Lz (p:=p) e,Lz e,EA,if_neg (λz=>h (e.trans z))]
    · rw[Ly (p:=p) e,Ly e,ih]
theorem VC(k j:κ)(y:V):∀kvs:List (κ×V),Jb kvs k=none→Jb (kvs++[(k,y)]) j=if j=k then some y else Jb kvs j
 | [],_=>by
  by_cases e:k=j
  · rw[if_pos e.symm];exact Lz (p:=(k,y)) e
  · rw[if_neg (λz=>e z.symm)];exact Ly (p:=(k,y)) e
 | p::r,hn=>by
  rw[List.cons_append];have hk:¬p.1=k:=λz=>by rw[Lz z] at hn;cases hn
  rw[Ly hk] at hn;have ih:=VC k j y r hn;by_cases e:p.1=j
  · rw[Lz e,Lz e,if_neg (λz=>hk (e.trans z))]
  · rw[Ly e,Ly e,ih]
theorem QO(kvs:List (κ×V))(k j:κ)(y:V):Jb (Ja kvs k y) j=if j=k then some y else Jb kvs j:=by
 unfold Ja;by_cases a:(kvs.any λkv=>decide (kv.1=k))=true
 · rw[if_pos a,UQ];rw[Pu] at a;by_cases e:j=k
   · obtain⟨x,hx⟩:=FI.mp a;rw[if_pos e,e,hx,EA,if_pos rfl]
   · rw[if_neg e];cases Jb kvs j with
     | none=>rfl
     | some x=>rw[EA,if_neg e]
 · rw[if_neg a];refine VC k j y kvs ?_;rw[Pu] at a;cases q:Jb kvs k with
   | none=>rfl
   | some x=>rw[q] at a;exact(a rfl).elim
theorem Os(kvs:List (κ×V))(k:κ)(v:V):(Ja kvs k v).length≤kvs.length+1:=by
 unfold Ja
 split
 · rw[Ab];omega
 · rw[A6,AA,List.length_nil];omega
theorem RelO.isSome_eq{o:Option V}{u:Option Value}(r:RelO o u):o.isSome=u.isSome:=by
 cases o with
 | none=>cases u with
  | none=>rfl
  | some _=>exact(show False from r).elim
 | some _=>cases u with
  | none=>exact(show False from r).elim
  | some _=>rfl
theorem RelO.getD{o:Option V}{u:Option Value}{d:V}{d':Value}(r:RelO o u)(rd:RelV d d'):RelV (o.getD d) (u.getD d'):=by
 cases o with
 | none=>cases u with
  | none=>exact rd
  | some _=>exact(show False from r).elim
 | some _=>cases u with
  | none=>exact(show False from r).elim
  | some _=>exact r
theorem KV.val{kvs:List (κ×V)}{vs:List (κ×Value)}(r:KV kvs vs)(k:κ):RelO (Jb kvs k) (valueAt vs k):=by
 unfold KV at r
 induction r with
 | nil=>exact True.intro
 | @cons p q ps qs h t ih=>
  obtain⟨h1,h2⟩:=h;by_cases e:p.1=k
  · have e':q.1=k:=h1.symm.trans e;have b:valueAt (q::qs) k=some q.2:=by simp[valueAt,Cz,e']
    rw[Lz e,b];exact h2
  · have e':¬q.1=k:=λz=>e (h1.trans z);have b:valueAt (q::qs) k=valueAt qs k:=by simp[valueAt,Cz,e']
    rw[Ly e,b];exact ih
theorem KV.any{kvs:List (κ×V)}{vs:List (κ×Value)}(r:KV kvs vs)(k:κ):(kvs.any λkv=>decide (kv.1=k))=vs.any λkv=>decide (kv.1=k):=by
 unfold KV at r
 induction r with
 | nil=>rfl
 | cons h t ih=>rw[CG,CG,ih,h.1]
theorem KV.repl{kvs:List (κ×V)}{vs:List (κ×Value)}(r:KV kvs vs)(k:κ){y:V}(ry:RelV y u):
 KV (kvs.map λkv=>if kv.1=k then(kv.1,y) else kv) (vs.map λkv=>if kv.1=k then(kv.1,u) else kv):=by
 unfold KV at r ⊢
 induction r with
 | nil=>exact .nil
 | @cons p q ps qs h t ih=>
  rw[Ax,Ax];refine .cons ?_ ih;obtain⟨h1,h2⟩:=h;by_cases e:p.1=k
  · rw[if_pos e,if_pos (h1.symm.trans e)];exact⟨h1,ry⟩
  · rw[if_neg e,if_neg (λz=>e (h1.trans z))];exact⟨h1,h2⟩
theorem KV.put{kvs:List (κ×V)}{vs:List (κ×Value)}(r:KV kvs vs)(k:κ){y:V}(ry:RelV y u):KV (Ja kvs k y) (stored vs k u):=by
 unfold Ja stored;rw[r.any k];by_cases e:(vs.any λkv=>decide (kv.1=k))=true
 · rw[if_pos e,if_pos e];exact r.repl k ry
 · rw[if_neg e,if_neg e];exact Paired.snoc r ⟨rfl,ry⟩
theorem KV.length{kvs:List (κ×V)}{vs:List (κ×Value)}(r:KV kvs vs):kvs.length=vs.length:=Eu r
end
theorem MJ{k:IV}(r:RelV (kV k) u):(JW P w).is k u=true:=by
 cases k with
 | inl i=>obtain⟨t,e⟩:=(show ∃t,u=Value.int i t from r);subst e;exact zhT P w i t
 | inr x=>obtain⟨t,e⟩:=(show ∃t,u=Value.str x t from r);subst e;exact zhS P w x t
theorem VH:∀{ks:List IV}{us:List Value},Vals (ks.map kV) us→ItemsAre (JW P w) ks us
 | [],_,r=>by rw[BH] at r;cases r;exact .nil
 | k::ks,_,r=>by
  rw[Ax] at r;cases r with
  | cons h t=>exact .cons (MJ h) (VH t)
noncomputable abbrev KT(H:Hp):List (List IV×V)→List (List IV×Addr×Value)→Prop:=Paired λp q=>p.1=q.1∧H q.2.1=some (.tup (p.1.map kV))∧RelV p.2 q.2.2
theorem KT.val{kvs:List (List IV×V)}{xs:List (List IV×Addr×Value)}(r:KT H kvs xs)(k:List IV):RelO (Jb kvs k) ((atKey xs k).map (·.2)):=by
 induction r with
 | nil=>exact True.intro
 | @cons p q ps qs h t ih=>
  obtain⟨h1,_,h2⟩:=h;by_cases e:p.1=k
  · have e':q.1=k:=h1.symm.trans e;have b:atKey (q::qs) k=some q.2:=by simp[atKey,Cz,e']
    rw[Lz e,b];exact h2
  · have e':¬q.1=k:=λz=>e (h1.trans z);have b:atKey (q::qs) k=atKey qs k:=by simp[atKey,Cz,e']
    rw[Ly e,b];exact ih
theorem KT.repl{kvs:List (List IV×V)}{xs:List (List IV×Addr×Value)}(r:KT H kvs xs)(k:List IV){y:V}(ry:RelV y u):
 KT H (kvs.map λkv=>if kv.1=k then(kv.1,y) else kv) (xs.map (putAt k u)):=by
 induction r with
 | nil=>exact .nil
 | @cons p q ps qs h t ih=>
  rw[Ax,Ax];refine .cons ?_ ih;obtain⟨h1,h2,h3⟩:=h;unfold putAt;by_cases e:p.1=k
  · rw[if_pos e,if_pos (h1.symm.trans e)];exact⟨h1,h2,ry⟩
  · rw[if_neg e,if_neg (λz=>e (h1.trans z))];exact⟨h1,h2,h3⟩
theorem KT.put{kvs:List (List IV×V)}{xs:List (List IV×Addr×Value)}(r:KT H kvs xs)(k:List IV){y:V}(hb:H b=some (.tup (k.map kV)))(ry:RelV y u):
 KT H (Ja kvs k y) (storedH xs k b u):=by
 have e:(kvs.any λkv=>decide (kv.1=k))=(atKey xs k).isSome:=by rw[Pu,(r.val k).isSome_eq,Fy]
 unfold Ja storedH;rw[e];by_cases q:(atKey xs k).isSome=true
 · rw[if_pos q,if_pos q];exact r.repl k ry
 · rw[if_neg q,if_neg q];exact Paired.snoc r ⟨rfl,hb,ry⟩
theorem KT.keeps{H':Hp}{kvs:List (List IV×V)}{xs:List (List IV×Addr×Value)}(r:KT H kvs xs)(ht:∀b ys,H b=some (.tup ys)→H' b=some (.tup ys)):KT H' kvs xs:=
 Paired.mapP r λ_ _ z=>⟨z.1,ht _ _ z.2.1,z.2.2⟩
theorem SY{u:HO}(ok:HOk P w H h)(e:Rd H a u):ObjOk P w H h a u:=e.ok ok
theorem Np{kvs:List (IV×V)}(ok:HOk P w H h)(e:Rd H a (.dK kvs)):kvs.length≤Ay∧(a==BC)=false∧∃vs,KV kvs vs∧h.DictOf (JW P w) a vs:=
 show ObjOk P w H h a (.dK kvs) from SY ok e
theorem Lq{kvs:List (IV×V)}(ok:HOk P w H h)(e:H a=some (.dK kvs)):kvs.length≤Ay∧(a==BC)=false∧∃vs,KV kvs vs∧h.DictOf (JW P w) a vs:=Np ok (.inl e)
theorem NS{ks:List IV}(ok:HOk P w H h)(e:H a=some (.tup (ks.map kV))):(tupleKind (JW P w)).is h ks a:=by obtain⟨_,its,r,o,h1,h2,_,n,h3⟩:=(show ObjOk P w H h a (.tup (ks.map kV)) from ok a _ e);exact⟨o,its.toArray,n,h1,h2,h3,by simpa using VH r⟩
theorem Nq{kvs:List (List IV×V)}(ok:HOk P w H h)(e:Rd H a (.dT kvs)):kvs.length≤Ay∧(a==BC)=false∧
 ∃xs,KT H kvs xs∧h.DictOfH (tupleKind (JW P w)) a xs:=by
 obtain⟨z,y,xs,r,o,es,ep,h1,h2,h3,h4,h5⟩:=(show ObjOk P w H h a (.dT kvs) from SY ok e);refine⟨z,y,xs,r,o,es,ep,h1,h2,h3,h4,λx hx=>?_,h5⟩;have all:∀{l:List (List IV×V)}{m:List (List IV×Addr×Value)},KT H l m→∀x∈m,(tupleKind (JW P w)).is h x.1 x.2.1:=by
  intro l m q
  induction q with
  | nil=>intro x hx;exact nomatch hx
  | @cons p q ps qs hq t ih=>
   intro x hx;rcases Aw.mp hx with e | hx
   · subst e;exact NS ok (by rw[←hq.1];exact hq.2.1)
   · exact ih x hx
 exact all r x hx
theorem Xn{kvs:List (List IV×V)}(ok:HOk P w H h)(e:H a=some (.dT kvs)):kvs.length≤Ay∧(a==BC)=false∧
 ∃xs,KT H kvs xs∧h.DictOfH (tupleKind (JW P w)) a xs:=Nq ok (.inl e)
noncomputable def DGet(H:Hp)(a:Addr)(y:V)(r:Option V):Prop:=
 (∃kvs k,Rd H a (.dK kvs)∧y=kV k∧r=Jb kvs k)∨∃kvs k b,Rd H a (.dT kvs)∧y= .ref b∧H b=some (.tup (k.map kV))∧r=Jb kvs k
noncomputable def DPut(H:Hp)(a:Addr)(y v:V)(H':Hp):Prop:=
 (∃kvs k,H a=some (.dK kvs)∧y=kV k∧kvs.length<Ay∧H'=IC H a (.dK (Ja kvs k v)))∨
 ∃kvs k b,H a=some (.dT kvs)∧y= .ref b∧H b=some (.tup (k.map kV))∧kvs.length<Ay∧H'=IC H a (.dT (Ja kvs k v))
theorem DGet.k{kvs:List (IV×V)}{k:IV}(e:H a=some (.dK kvs)):DGet H a (kV k) (Jb kvs k):= .inl ⟨kvs,k,.inl e,rfl,rfl⟩
theorem DPut.k{kvs:List (IV×V)}{k:IV}{v:V}(e:H a=some (.dK kvs))(hl:kvs.length<Ay):DPut H a (kV k) v (IC H a (.dK (Ja kvs k v))):= .inl ⟨kvs,k,e,rfl,hl,rfl⟩
section
variable{y v:V}{r:Value}{o:Option V}
theorem Inv.big(I:Inv X pins σ H s):BC<s.heap.objs.size:=by have h:AJ<s.heap.objs.size:=(I.mod.glob.keeps I.bk).lt;exact BY (by decide) h
theorem Zz{Q:Value→Shared→Prop}(hu:A.units+1<cLine)(I:Inv X pins σ H s)(g:DGet H a y (some v))(ry:RelV y u)(h:∀w' s',Inv X pins σ H s'→RelV v w'→Q w' s'):
 wpAny (model X.prog X.w) A (getItem (.ref a) u) Q E s:=by
 rcases g with⟨kvs,k,e,ey,l⟩ | ⟨kvs,k,b,e,ey,eb,l⟩
 · subst ey;obtain⟨z,hd,vs,rel,dd⟩:=Np I.hok e;obtain⟨w',hw,rw'⟩:=RelO.some_of (v:=v) (o:=valueAt vs k) (by rw[l];exact rel.val k);exact wpAny_getItem_of (MJ ry) dd.mapOf hw (h w' _ (I.tok _) rw')
 · subst ey;cases(show u=Value.ref b from ry);obtain⟨z,hd,xs,rel,dd⟩:=Nq I.hok e;obtain⟨w',hw,rw'⟩:=RelO.some_of (v:=v) (o:=(atKey xs k).map (·.2)) (by rw[l];exact rel.val k);obtain⟨p,hp,hp2⟩:=Option.map_eq_some_iff.mp hw;refine wpAny_getItem_heap (tupleKind_room_in1 hu) (NS I.hok eb) dd hp ?_;rw[hp2];exact h w' _ (I.tok _) rw'
theorem X6{Q:Value→Shared→Prop}(hu:A.units+1<cLine)(I:Inv X pins σ H s)(g:DGet H a y o)(ry:RelV y u)(h:∀s',Inv X pins σ H s'→Q (.bool (!o.isSome)) s'):
 wpAny (model X.prog X.w) A (BF .NotIn u (.ref a)) Q E s:=by
 rcases g with⟨kvs,k,e,ey,l⟩ | ⟨kvs,k,b,e,ey,eb,l⟩
 · subst ey;obtain⟨z,hd,vs,rel,dd⟩:=Np I.hok e;refine wpAny_notIn_of (MJ ry) hd dd.mapOf ?_;rw[←(rel.val k).isSome_eq,←l];exact h _ (I.tok _)
 · subst ey;cases(show u=Value.ref b from ry);obtain⟨z,hd,xs,rel,dd⟩:=Nq I.hok e;refine wpAny_notIn_heap (tupleKind_room_in1 hu) (NS I.hok eb) hd dd ?_;have q:=(rel.val k).isSome_eq;rw[Fy] at q;rw[←q,←l];exact h _ (I.tok _)
theorem Pi{h':Heap}{t':Nat}{ob:HO}(I:Inv X pins σ H s)(mu:OQ (H a))(hs:Bt a s.heap h')(he:∃q,h'.get? a=some q)(new:ObjOk X.prog X.w (IC H a ob) h' a ob):
 Inv X pins σ (IC H a ob) {s with heap:=h',toks:=t'}:=
 I.write (x:=a) (e:=a) mu (.inl rfl) (λb q hb z=>(hs.2 b hb).trans z) he new
theorem Qr{H':Hp}{h':Heap}{kvs:List (IV×V)}{vs:List (IV×Value)}(z:kvs.length≤Ay)(hd:(a==BC)=false)(rel:KV kvs vs)(dd:h'.DictOf (JW P w) a vs):
 ObjOk P w H' h' a (.dK kvs):=⟨z,hd,vs,rel,dd⟩
theorem Z0{H':Hp}{Q:Unit→Shared→Prop}(hu:A.units+1<cLine)(I:Inv X pins σ H s)(g:DPut H a y v H')(ry:RelV y u)(rv:RelV v r)(h:∀s',Inv X pins σ H' s'→Q () s'):
 wpAny (model X.prog X.w) A (setItem (.ref a) u r) Q E s:=by
 rcases g with⟨kvs,k,e,ey,l,eH⟩ | ⟨kvs,k,b,e,ey,eb,l,eH⟩
 · subst ey eH;obtain⟨z,hd,vs,rel,dd⟩:=Lq I.hok e;have hz:vs.length≤Ay:=by rw[←rel.length];exact z
   have hl:(Ja kvs k v).length≤Ay:=by have:=Os kvs k v;omega
   refine wpAny_setItem_pairs (hsz:=hz) (MJ ry) dd λh' dd' hs=>h _ ?_;have he:∃q,h'.get? a=some q:=let⟨q,_,_,hq,_⟩:=dd';⟨q,hq⟩;exact Pi I (by rw[e];exact True.intro) hs he (Qr hl hd (rel.put k rv) dd')
 · subst ey eH;cases(show u=Value.ref b from ry);obtain⟨z,hd,xs,rel,dd⟩:=Xn I.hok e;have hz:xs.length≤Ay:=by rw[←Eu rel];exact z
   have hl:(Ja kvs k v).length≤Ay:=by have:=Os kvs k v;omega
   refine wpAny_setItem_heap (hsz:=hz) (tupleKind_room_in1 hu) (NS I.hok eb) dd λh' dd' hs=>h _ ?_;obtain⟨q,es,ep,hq,h2,h3,h4,_,h5⟩:=dd';refine Pi I (by rw[e];exact True.intro) hs ⟨q,hq⟩ ⟨hl,hd,_,(rel.put k eb rv).keeps λc ys ec=>?_,q,es,ep,hq,h2,h3,h4,h5⟩;rw[IZ (LD ec e (λz=>nomatch z))];exact ec
end
section
variable{kvs:List (IV×V)}{k:IV}
end
noncomputable def OP(i:Expr):Prop:=∀ov iv,subscripted i false ov iv=operate [ov,iv] (getItem ov iv)
theorem Yg{prog:Bp}{w:World}{A:BE}{E:Value→Shared→Prop}{s:Shared}{env:Env}{value slice:Expr}{pos:Pos}{T id:String}{Q:Value→Shared→Prop}
 (hl:typeLookup (.type T) "__getitem__"=pure (some (.builtin id))) (hs:OP slice)
 (h:wpAny (model prog w) A (eval value env) (λo s₁=>wpAny (model prog w) A (eval slice env) (λi s₂=>s₂.TypeIs o T∧wpAny (model prog w) A (getItem o i) Q E s₂) E s₁) E s):
 wpAny (model prog w) A (eval (.Subscript value slice pos) env) Q E s:=by
 refine Subscript_ (A5 h (λo s₁ h₁=>A5 h₁ (λi s₂ h₂=>?_) λ_ _ x=>x) λ_ _ x=>x);obtain⟨hT,h₂⟩:=h₂;unfold subscriptTail;refine Aa ?_;rw[getitemInPython_of_ne hT.not_modules];refine Aa (Cn hT hl ?_);have fin:wpAny (model prog w) A (subscripted slice false o i) (λr s₃=>wpAny (model prog w) A (letTemporaryGo value o r>>=λ_=>pure r) Q E s₃) E s₂:=by rw[hs o i];exact wpAny_operating (A5 h₂ (λr s₃ h₃=>Aa (wpAny_letTemporaryGo (Ac h₃))) λ_ _ x=>x)
 first
  | exact Ac (Aa fin)
  | exact Aa (Ac (Aa fin))
  | exact Aa fin
theorem zh9{y:V}{o:Option V}(I:Inv X pins σ H s)(g:DGet H a y o):s.TypeIs (.ref a) "dict":=by
 rcases g with⟨kvs,k,e,_,_⟩ | ⟨kvs,k,b,e,_,_,_⟩
 · obtain⟨_,_,vs,_,dd⟩:=Np I.hok e;exact dd.typeIs
 · obtain⟨_,_,xs,_,dd⟩:=Nq I.hok e;exact dd.typeIs
noncomputable def WZ(td ty:TE):TE:=λσ H Q=>td σ H λx H1=>ty σ H1 λy H2=>∃a v,x= .ref a∧DGet H2 a y (some v)∧Q v H2
noncomputable def Yh(ty td:TE):TE:=λσ H Q=>ty σ H λy H1=>td σ H1 λx H2=>∃a o,x= .ref a∧DGet H2 a y o∧Q (.bl (!o.isSome)) H2
noncomputable def WW(td ty tv:TE):TS:=λD σ H=>tv σ H λv H1=>td σ H1 λx H2=>ty σ H2 λy H3=>∃a H4,x= .ref a∧DPut H3 a y v H4∧D.nx σ H4
section
variable{o i value:Expr}{pos' tpos:Pos}{td ty tv:TE}
theorem NY(hu:X.A.units+1<cLine)(ho:PE X o td)(hi:PE X i ty)(hs:OP i):PE X (.Subscript o i pos) (WZ td ty):=by intro pins s σ H Q I h;refine Yg PySem.F.slot_dict_getitem.lookup hs (IG (ho pins s σ H _ I h) λu s1 ⟨x,H1,I1,rx,q1⟩=>IG (hi pins s1 σ H1 _ I1 q1) λiv s2 ⟨y,H2,I2,ry,a,v,ex,g,q2⟩=>?_);subst ex;obtain rfl:u=Value.ref a:=rx;exact⟨zh9 I2 g,Zz hu I2 g ry λw' s3 I3 rw'=>⟨v,H2,I3,rw',q2⟩⟩
theorem Vy(hu:X.A.units+1<cLine)(hi:PE X i ty)(ho:PE X o td):PC X .NotIn i o (Yh ty td):=by intro pins s σ H Q I h;refine IG (hi pins s σ H _ I h) λiv s1 ⟨y,H1,I1,ry,q1⟩=>IG (ho pins s1 σ H1 _ I1 q1) λu s2 ⟨x,H2,I2,rx,a,ov,ex,g,q2⟩=>?_;subst ex;obtain rfl:u=Value.ref a:=rx;exact X6 hu I2 g ry λs3 I3=>⟨.bl (!ov.isSome),H2,I3,rfl,q2⟩
theorem Yv(hu:X.A.units+1<cLine)(ho:PE X o td)(hi:PE X i ty)(hv:PE X value tv)(hs:swapsWith value (some (.Subscript o i pos')) pos.line X.env=pure false):
 PS X (.Assign [.Subscript o i pos'] value pos) (WW td ty tv):=by
 intro pins s σ H D I h;refine wpAny_Assign_Subscript (IG (hv pins s σ H _ I h) λr s1 ⟨v,H1,I1,rv,q1⟩=>IG (ho pins s1 σ H1 _ I1 q1) λu s2 ⟨x,H2,I2,rx,q2⟩=>IG (hi pins s2 σ H2 _ I2 q2) λiv s3 ⟨y,H3,I3,ry,a,H4,ex,g,q3⟩=>?_) hs;subst ex;obtain rfl:u=Value.ref a:=rx;exact Z0 hu I3 g ry rv λs4 I4=>⟨σ,H4,I4,q3⟩
end
theorem UX(h:Heap)(hb:BC<h.objs.size):ObjOk P w H (h.push {cls:= .type "dict",data:= .dict #[]}) h.objs.size (.dK []):=
 ⟨AK _,beq_eq_false_iff_ne.mpr (BI (Ar hb)),[],.nil,Heap.DictOf.new h⟩
structure M1(X:Cx)(o:Expr)(m:Str)(apos:Pos)(e:Expr)(cpos:Pos):Prop where
 base:attributeBase o m X.env (eval o X.env)=eval o X.env
 few:((backTo cpos (AL [e] X.env)).all (λx=>!x.1) && (backToKw cpos (keywordEach [] X.env)).all (λx=>x.1.isSome)
  && decide (([e]:List Expr).length+([]:List Keyword).length+(if([]:List Keyword).isEmpty then 0 else 1)<30))=true
 line:(apos.endLine==cpos.line)=true
 trees:backTo cpos (AL [e] X.env)=[(false,eval e X.env)]
structure M2(X:Cx)(o:Expr)(m:Str)(apos:Pos)(e f:Expr)(cpos:Pos):Prop where
 base:attributeBase o m X.env (eval o X.env)=eval o X.env
 few:((backTo cpos (AL [e,f] X.env)).all (λx=>!x.1) && (backToKw cpos (keywordEach [] X.env)).all (λx=>x.1.isSome)
  && decide (([e,f]:List Expr).length+([]:List Keyword).length+(if([]:List Keyword).isEmpty then 0 else 1)<30))=true
 line:(apos.endLine==cpos.line)=true
 trees:backTo cpos (AL [e,f] X.env)=[(false,eval e X.env),(false,eval f X.env)]
noncomputable def WK(H:Hp)(a:Addr):Prop:=(∃kvs,Rd H a (.dK kvs))∨∃kvs,Rd H a (.dT kvs)
theorem Ya(I:Inv X pins σ H s)(d:WK H a):
 s.TypeIs (.ref a) "dict"∧(∀b,Value.ref a= .ref b→∃ob,s.heap.get? b=some ob∧ob.dict=none)∧(a==BC)=false:=by
 rcases d with⟨kvs,e⟩ | ⟨kvs,e⟩
 · obtain⟨_,hd,vs,_,dd⟩:=Np I.hok e;refine⟨dd.typeIs,λb q=>?_,hd⟩;cases q;obtain⟨ob,_,_,h1,h2,_⟩:=dd;exact⟨ob,h1,h2.2.1⟩
 · obtain⟨_,hd,xs,_,dd⟩:=Nq I.hok e;refine⟨dd.typeIs,λb q=>?_,hd⟩;cases q;obtain⟨ob,_,_,h1,h2,_⟩:=dd;exact⟨ob,h1,h2.2.1⟩
section
variable{y d:V}{r:Value}{o:Option V}
theorem Xh{Q:Value→Shared→Prop}(hu:A.units+1<cLine)(I:Inv X pins σ H s)(g:DGet H a y o)(ry:RelV y u)(rd:RelV d r)(h:∀w' s',Inv X pins σ H s'→RelV (o.getD d) w'→Q w' s'):
 wpAny (model X.prog X.w) A (call (.builtin "dict.get") [.ref a,u,r]) Q E s:=by
 rcases g with⟨kvs,k,e,ey,l⟩ | ⟨kvs,k,b,e,ey,eb,l⟩
 · subst ey;obtain⟨z,hd,vs,rel,dd⟩:=Np I.hok e;refine call_meetsIn E2 dd.typeIs Gn (FX _ _ _) (meets_dict_get_default (JW X.prog X.w) a (MJ ry) hd r) ⟨_,dd.mapOf,h _ _ (I.tok _) ?_⟩;rw[l];exact(rel.val k).getD rd
 · subst ey;cases(show u=Value.ref b from ry);obtain⟨z,hd,xs,rel,dd⟩:=Nq I.hok e;refine call_meetsIn E2 dd.typeIs Gn (FX _ _ _) (meetsH_dict_get_default (tupleKind (JW X.prog X.w)) a b hd r) ⟨tupleKind_room_in1 hu,k,xs,NS I.hok eb,dd,h _ _ (I.tok _) ?_⟩;rw[l];exact(rel.val k).getD rd
end
noncomputable def Xq(td ty tx:TE):TE:=λσ H Q=>td σ H λx H1=>∃a,x= .ref a∧WK H1 a∧ty σ H1 λy H2=>tx σ H2 λz H3=>∃o,DGet H3 a y o∧Q (o.getD z) H3
section
variable{o f:Expr}{apos cpos:Pos}{td ty tx:TE}
theorem Zj(hu:X.A.units+1<cLine)(ho:PE X o td)(he:PE X e ty)(hf:PE X f tx)(m:M2 X o "get" apos e f cpos):PE X (.Call (.Attribute o "get" apos) [e,f] [] cpos) (Xq td ty tx):=by intro pins s σ H Q I h;refine wpAny_Call_method m.base m.few m.line PySem.F.plainAttrs_dict E2 PySem.F.type_dict_get (IG (ho pins s σ H _ I h) λu s1 ⟨x,H1,I1,rx,a,ex,d,q1⟩=>?_);subst ex;obtain rfl:u=Value.ref a:=rx;obtain⟨t1,t2,_⟩:=Ya I1 d;refine⟨t1,t2,?_⟩;rw[m.trees];refine Gm rfl (GE (DR (IG (he pins s1 σ H1 _ I1 q1) λiv s2 ⟨y,H2,I2,ry,q2⟩=> DR (IG (hf pins s2 σ H2 _ I2 q2) λfv s3 ⟨z,H3,I3,rz,ov,g,q3⟩=>Fu ?_))));exact Xh hu I3 g ry rz λw' s4 I4 rw'=>⟨_,H3,I4,rw',q3⟩
end
section
variable{kvs:List (IV×V)}
end
section
variable{y:V}
end
end L2
namespace Att
open PySem PySem.W PySem.Calls PyProof.Rows
theorem zeQ{P:Params}:∀(ns:List Int)(vs:List Value),WellAll P h vs (ns.map WData.int)→IntsAre vs ns:=by
 intro ns
 induction ns with
 | nil=> intro vs w;rw[BH] at w;cases w;exact .nil
 | cons n ns ih=>
  intro vs w;rw[Ax] at w;cases w with
  | cons a b=> cases a;exact .cons _ _ (ih _ b)
theorem zki{l:OpenLaw}(hn:l.most=some n){P:Params}{h:Heap}{args:List WData}{vals:List Value}
 (hpre:l.row.toRowW.claim.pre args=true) (hwl:WellAll P h vals args):
 ∃a vs ns,vals=[Value.ref a]∧args=[WData.list (ns.map WData.int)]∧h.get? a=some {cls:= .type "list",data:= .seq vs.toArray}∧IntsAre vs ns∧ns.length≤n:=by
 have hsh:WShape.hasAll [] args [.list .int]=true:=(pre_splitW hpre).1;have hc:l.pre.holds [] {args:=args}=true:=(pre_splitW hpre).2;obtain⟨d,r,rfl,h1,h2⟩:=hasAllW_cons hsh;obtain rfl:=hasAllW_nil h2;obtain⟨xs,rfl,h3⟩:=hasW_list h1;obtain⟨ns,rfl⟩:=items_int h3;have hlen:ns.length≤n:=by
  unfold OpenLaw.pre at hc;have h4:(WTm.not (.lt (.lit (.int (n:Int))) (.len (.arg 0)))).holds [] {args:=[.list (ns.map .int)]}=true:=by have h4:=(holds_andW hc).1;rw[hn] at h4;exact h4
  have h5:=condW_of h4 (w_not (w_lt w_lit (w_len_list (w_arg rfl))));rw[Ab] at h5;refine Nat.le_of_not_lt λq=>?_;have q':(n:Int)<((ns.length:Nat):Int):=by omega
  first
   | (rw[decide_eq_true q'] at h5;exact absurd h5 (by decide))
   | (simp at h5;omega)
 cases hwl with
 | cons w1 w2=>
  cases w2;cases w1 with
  | list ho hall=>exact⟨_,_,ns,rfl,rfl,ho,zeQ ns _ hall,hlen⟩
theorem zkz(l:OpenLaw)(args:List WData):l.row.toRowW.claim.post args (.bool true) args=true:=
 postW_of (r:=l.row.toRowW) (X:=(true==true))
  (show WShape.has [] (.bool true) .bool=true by first | rfl | decide | simp[WShape.has,WShape.arms,WShape.armsAll])
  (show(WTm.eq .res (.lit (.bool true))).value [] {args:=args,res:=some (.bool true),after:=args}=some (.bool (true==true)) from w_eq_bool (w_res rfl) w_lit) rfl
theorem attach_call{l:OpenLaw}{n:Nat}{q:Bp}{loose:List Str}{XP:(Str→Option Value)→Heap→Prop}{YP:World→Heap→Prop}{d:DefRec}
 (hn:l.most=some n) (hdf:d.params.defaults=[])
 (call:∀(w:World)(s₀ s₁:Shared)(mg mb:Str→Option Value)(fa:Addr)(o:Obj)(pm cd doc:Value)(a:Addr)(vs:List Value)(ns:List Int),
  Ground q loose [] XP w s₀ mg mb s₁.heap→YP w s₁.heap→
  s₁.heap.get? fa=some o→o.data= .func (docDef d.name d.params d.body d.scope pm cd doc)→s₁.heap.CodeRec cd d.name→mg d.name=some (.ref fa)→
  s₁.heap.get? a=some {cls:= .type "list",data:= .seq vs.toArray}→IntsAre vs ns→ns.length≤n→s₁.gens=#[]→
  codeAny (model l.prog w) callerA (.call (.ref fa) ⟨[.ref a],[]⟩) (λr s'=>r= .ok (.ret (.bool true))∧OldK s₁.heap s'.heap∧s'.os=s₁.os∧AllBare s'.gens) s₁):
 WalkO q loose XP YP l.row.toRowW d [] (λf vs=>PySem.call f vs):=by
 intro w s₀ s₁ mg mb G Y fa o pm cd doc dV kV ho hd hcd hD hmg hg args vals as hpre hlay hrd hwl hlo;obtain rfl:dV= .none:=Dflts.none hD hdf;obtain rfl:kV= .none:=Dflts.noKw hD;obtain⟨a,vs,ns,rfl,rfl,hobj,hints,hlen⟩:=zki hn hpre hwl;refine enter_call (Cg (call w s₀ s₁ mg mb fa o pm cd doc a vs ns G Y ho (fd_plain hd) hcd hmg hobj hints hlen hg) λr s' hq=>?_);obtain⟨rfl,h2,h3,h4⟩:=hq;exact⟨.inl ⟨.bool true,.bool true,[],rfl,λ_=>rfl,.bool true,zkz l _,λ_=>⟨List.Pairwise.nil,λ_ hm=>(nomatch hm)⟩⟩,h2,h3,h4⟩
section
variable{K:Frag}
end
end Att
namespace L2
theorem We:∀{vs:List Value}{ns:List Int},IntsAre vs ns→Vals (ns.map V.int) vs
 | _,_,.nil=> .nil
 | _,_,.cons n t h=> .cons ⟨t,rfl⟩ (We h)
noncomputable def Nk(H:Hp):Prop:=∀b,H b=none∨∃o xs,H b=some (.frz o (.lst xs))
theorem YY{P:Bp}{w:World}{K:Ae}{mg mb:Str→Option Value}{CX:L9}{k:Nat}{fa a:Addr}{fd:BP}{x:Str}{sp:Sp}{s₁:Shared}{vs:List Value}{ns:List Int}
 (KX:K.In s₁.heap) (hns:s₁.heap.Ns AJ mg) (hb:s₁.heap.Ns builtinsNs mb) (hbb:∀x:Str,x≠"__name__"→mb x=Bh x) (hlim:s₁.heap.NoLimit) (hg:s₁.gens=#[])
 (ha:s₁.heap.get? a=some {cls:= .type "list",data:= .seq vs.toArray}) (hi:IntsAre vs ns) (hl:ns.length≤Ay) (hr:Room k callerA)
 (F:∀base:Heap,K.In base→base.Ns AJ mg→FnOk P w K mg base CX k fa fd [x] sp) (hbind:∀(s:Shared)(u:Value),BindsTo s fd ⟨[u],[]⟩ [(x,u)])
 (hsp:∀H:Hp,Nk H→SqL K H a (ns.map V.int)→sp [.ref a] H (λv _=>v= .bl true) λ_ _ _=>False)
 (hCX:∀H e s',CX [] H s₁ (λ_ _ _=>False) e s'→False):
 codeAny (model P w) callerA (.call (.ref fa) ⟨[.ref a],[]⟩) (λr s'=>r= .ok (.ret (.bool true))∧OldK s₁.heap s'.heap∧s'.os=s₁.os∧AllBare s'.gens) s₁:=by
 have rv:=We hi;have lenV:=hi.length;have core:∀H:Hp,Nk H→SqL K H a (ns.map V.int)→HOk P w H s₁.heap→(∀b,H b≠none→b=a)→(H a≠none→K.lookup a=none)→
  codeAny (model P w) callerA (.call (.ref fa) ⟨[.ref a],[]⟩) (λr s'=>r= .ok (.ret (.bool true))∧OldK s₁.heap s'.heap∧s'.os=s₁.os∧AllBare s'.gens) s₁:=by
  intro H hO hS hok hA hK;have base_of:∀{b:Addr}{o:Obj},s₁.heap.get? b=some o→H b=none→(K3 s₁.heap H).get? b=some o:=λe n=>YT e n;have noA:∀{b:Addr}{o:Obj}{es:Array DictEntry}{ep:Nat},s₁.heap.get? b=some o→o.data= .dict es ep→H b=none:=λ{b o es ep}e d=>by
   cases q:H b with
   | none=>rfl
   | some u=> have e':b=a:=hA b (by rw[q];simp);subst e';rw[ha] at e;cases e;have d':Data.seq vs.toArray _=Data.dict es ep:=d;cases d'
  have nsK:∀{b:Addr}{m:Str→Option Value},s₁.heap.Ns b m→(K3 s₁.heap H).Ns b m:=λ{b m} ⟨o,es,ep,e,d,r⟩=>⟨o,es,ep,base_of e (noA e d),d,r⟩;have hKb:K.In (K3 s₁.heap H):=λb o e=>base_of (KX b o e) (by
   cases q:H b with
   | none=>rfl
   | some u=> have e':b=a:=hA b (by rw[q];simp);subst e';rw[hK (by rw[q];simp)] at e;cases e)
  have hM:Mod K mg (K3 s₁.heap H):=⟨hKb,nsK hns,⟨mb,nsK hb,hbb⟩,let⟨mc,h1,h2⟩:=hlim;⟨mc,nsK h1,h2⟩⟩;have e0:Env0 P w K mg (K3 s₁.heap H) callerA [] s₁ H:=⟨rfl,hM,λb o e=>Yq e,Nat.le_of_eq (ZC _ _),trivial,λb hb=>absurd (show b∈([]:List Addr) from hb) (by simp),hok,.of_eq hg⟩;refine Cg ((F _ hKb (nsK hns)).run callerA [] s₁ H ⟨[.ref a],[]⟩ [.ref a] [.ref a] _ _ hr e0 (hbind s₁ (.ref a)) (.cons rfl .nil) (hsp H hO hS)) λr s' h=>?_;cases r with
  | error e=>exact(hCX H e s' h).elim
  | ok fl=>
   cases fl with
   | next=>exact Dg h
   | brk=>exact Dg h
   | cont=>exact Dg h
   | ret u=>
    obtain⟨v,H',os,bare,un,hok',r',q⟩:=h;have q':v= .bl true:=q;subst q';obtain rfl:u=Value.bool true:=r';refine⟨rfl,OldK.of_keep λb o e=>?_,os,bare⟩;cases q:H b with
    | none=>exact un.keep b o e q (by intro z;exact absurd (show b∈([]:List Addr) from z) (by simp)) (by simp)
    | some u=>
     rcases hO b with z | ⟨ob,xs,z⟩
     · rw[q] at z;cases z
     · have z2:=un.frzs b ob _ z;obtain⟨e1,_⟩:=hok b _ z;obtain⟨e2,_⟩:=hok' b _ z2;rw[e] at e1;cases e1;exact e2
 cases hk:K.lookup a with
 | some o=> have e:=KX a o hk;rw[ha] at e;cases e;refine core (λ_=>none) (λ_=> .inl rfl) (.inr ⟨_,vs.toArray,_,hk,rfl,rfl,rfl,by rw[Av,lenV];exact hl,by simpa using rv⟩) (λb u z=>by have z':(none:Option HO)=some u:=z;cases z') (λb z=>absurd rfl z) λz=>absurd rfl z
 | none=>
  refine core (λb=>if b=a then some (.frz {cls:= .type "list",data:= .seq vs.toArray} (.lst (ns.map V.int))) else none) (λb=>?_) (.inl (.inr ⟨{cls:= .type "list",data:= .seq vs.toArray},if_pos rfl⟩)) (λb u z=>?_) (λb z=>?_) λ_=>hk
  · by_cases hb:b=a
    · exact .inr ⟨_,_,if_pos hb⟩
    · exact .inl (if_neg hb)
  · by_cases hb:b=a
    · have z':=(if_pos hb).symm.trans z;cases z';subst hb;exact⟨ha,by rw[Ab];exact hl,vs,_,rv,ha⟩
    · have z':=(if_neg hb).symm.trans z;cases z'
  · by_cases hb:b=a
    · exact hb
    · exact absurd (if_neg hb) z
noncomputable abbrev KOf{K:Ae}{h:Heap}(_:K.In h):Ae:=K
theorem walk_of{l:Gd}{n k:Nat}{q:Bp}{loose:List Str}{XP:(Str→Option Value)→Heap→Prop}{YP:World→Heap→Prop}{d:DefRec}{K:Params→Ae}{CX:World→L9}{sp:World→Sp}{x:Str}
 (hn:l.most=some n) (hn2:n≤Ay) (hdf:d.params.defaults=[]) (hr:Room k callerA)
 (hY:∀(w:World)(h:Heap),YP w h→(K w.params).In h)
 (F:∀(w:World)(mg:Str→Option Value)(fa:Addr)(h:Heap),(K w.params).In h→h.Ns AJ mg→mg d.name=some (.ref fa)→
  ∃fd:BP,(∀(s:Shared)(u:Value),BindsTo s fd ⟨[u],[]⟩ [(x,u)])∧
   ∀base:Heap,(K w.params).In base→base.Ns AJ mg→FnOk l.prog w (K w.params) mg base (CX w) k fa fd [x] (sp w))
 (hsp:∀(w:World)(H:Hp)(a:Addr)(ns:List Int),ns.length≤n→Nk H→SqL (K w.params) H a (ns.map V.int)→sp w [.ref a] H (λv _=>v= .bl true) λ_ _ _=>False)
 (hCX:∀(w:World)(H:Hp)(s:Shared)(e:Value)(s':Shared),CX w [] H s (λ_ _ _=>False) e s'→False):
 PySem.W.WalkO q loose XP YP l.row.toRowW d [] (λf vs=>PySem.call f vs):=by
 refine Att.attach_call hn hdf λw s₀ s₁ mg mb fa o pm cd doc a vs ns G Y ho hd hcd hmg hobj hints hlen hg=>?_;have KX:=hY w _ Y;obtain⟨fd,hb,hF⟩:=F w mg fa _ KX G.T.g hmg;exact YY KX G.T.g G.T.b G.T.builtins G.T.nolimit hg hobj hints (AD hlen hn2) hr hF hb (λH hO hS=>hsp w H a ns hlen hO hS) λH e s'=>hCX w H s₁ e s'
noncomputable def L1(s:Stmt):Arguments:=match s with
 | .FunctionDef _ a _ _ _ _ _ _ _ _=>a
 | _=>{posonlyargs:=[],args:=[],vararg:=none,kwonlyargs:=[],kw_defaults:=[],kwarg:=none,defaults:=[]}
noncomputable def Lh(s:Stmt):List Stmt:=match s with
 | .FunctionDef _ _ b _ _ _ _ _ _ _=>b
 | _=>[]
noncomputable def IQ(s:Stmt):Scope:=match s with
 | .FunctionDef _ _ _ _ _ _ sc _ _ _=>sc
 | _=>{kind:= .function,names:=[],isGenerator:=false,isCoroutine:=false}
noncomputable abbrev Jc:L9:=λ_ _ _ _ _ _=>False
noncomputable abbrev E0:XK:=λ_ _ _=>False
theorem SW:Qt Jc X E0:=λ_ _ _ _ _ _ _ h=>h.elim
structure Fun(K:Ae)(x qual:Str)(st:Stmt)(f:Addr)(fd:BP):Prop where
 ex:∃(oc:Value)(od:Option Addr)(kV doc pm:Value)(an:Option Addr)(cdv ct:Value)(osl:Array (Option Value)),
  fd=D0 x qual (L1 st) (Lh st) (IQ st) .none kV doc pm an cdv ct∧K.lookup f=some ⟨oc,od,.func fd,osl⟩∧Gz K cdv qual=true
 kp:ER K (.ref f)=true
section
variable{K:Ae}{mg:Str→Option Value}{base:Heap}
theorem Fun.ok{qual:Str}{st:Stmt}{f:Addr}{fd:BP}{N ps:List Str}{k:Nat}{sp:Sp}(F:Fun K x qual st f fd)(S:FnScope N ps (IQ st))(len:∀vs H Q E,sp vs H Q E→vs.length=ps.length)
 (hbody:∀(cdv:Value)(A:BE)(outer:List Env)(s:Shared)(H:Hp)(vs:List V)(Q:VK)(E:XK),Room k (A.deeper (envOfC qual (IQ st) s.heap.objs.size f cdv))→sp vs H Q E→
  ∃t,PSs (Lc Jc P w K mg base N qual (IQ st) f cdv A outer s H E).nox (Lh st) t∧t {nx:=λ_ H'=>Q .non H',rt:=Q} (Mq N vs) H):FnOk P w K mg base Jc (k+1) f fd ps sp:=by
 obtain⟨oc,od,kV,doc,pm,an,cdv,ct,osl,rfl,lk,hcd⟩:=F.ex;refine Xo lk hcd S len λA outer s H vs Q E hr hsp=>?_;obtain⟨t,h,q⟩:=hbody cdv A outer s H vs Q E hr hsp;exact⟨t,h.nox,q⟩
theorem Fun.binds{qual:Str}{st:Stmt}{f:Addr}{fd:BP}{ps:List Str}(F:Fun K x qual st f fd)
 (h:∀(kV doc pm:Value)(an:Option Addr)(cdv ct:Value)(us:List Value),us.length=ps.length→bindArgs (D0 x qual (L1 st) (Lh st) (IQ st) .none kV doc pm an cdv ct) ⟨us,[]⟩=pure (ps.zip us)):Binds K fd ps []:=by
 obtain⟨oc,od,kV,doc,pm,an,cdv,ct,osl,rfl,lk,hcd⟩:=F.ex;exact .all (h kV doc pm an cdv ct)
theorem fun_mk{qual:Str}{st:Stmt}{f:Addr}{oc:Value}{od an:Option Addr}{osl:Array (Option Value)}{kV doc pm cdv ct:Value}(l:K.lookup f=some ⟨oc,od,.func (D0 x qual (L1 st) (Lh st) (IQ st) .none kV doc pm an cdv ct),osl⟩)
 (c:Gz K cdv qual=true) (k:ER K (.ref f)=true):Fun K x qual st f (D0 x qual (L1 st) (Lh st) (IQ st) .none kV doc pm an cdv ct):=⟨⟨oc,od,kV,doc,pm,an,cdv,ct,osl,rfl,l,c⟩,k⟩
end
theorem LR{k:Nat}(hr:Room k A):A.units+1<cLine:=Bn (GO (by decide:1≤64) _) hr.units
theorem J7(h:n≤1000):n<Ay:=Bn h (by decide)
theorem pv(i:Nat){pos:Pos}(hN:X.N[i]?=some x:=by rfl)(hv:Qk X.env.scope x:=by first | exact Or.inl rfl | exact Or.inr (Or.inl rfl) | exact Or.inr (Or.inr rfl))(hd:(x==("__debug__":Str))=false:=by decide)
 (hcd:(x==("__classdict__":Str))=false:=by decide):PE X (.Name x pos) (Ot i):=XN hN hv hd hcd
theorem IA{A B:Prop}(h:B):if false=true then A else B:=by rw[if_neg Au];exact h
theorem ID{A B:Prop}(h:A):if true=true then A else B:=by rw[if_pos rfl];exact h
theorem Je{c A B:Prop}[Decidable c](h1:c→A)(h2:¬c→B):if c then A else B:=by
 by_cases h:c
 · rw[if_pos h];exact h1 h
 · rw[if_neg h];exact h2 h
theorem Ta{c A B:Prop}[Decidable c](hc:c)(h:B):if(!decide c)=true then A else B:=by rw[decide_eq_true hc];exact IA h
noncomputable def Same(H H':Hp):Prop:=∀b o,H b=some o→H' b=some o
theorem Same.refl(H:Hp):Same H H:=λ_ _ h=>h
theorem Same.trans{H1 H2:Hp}(a:Same H H1)(b:Same H1 H2):Same H H2:=λc o h=>b c o (a c o h)
theorem Same.free{H':Hp}(e:Same H H'){l:Addr}(h:H' l=Option.none):H l=Option.none:=by
 cases q:H l with
 | none=>rfl
 | some o=> rw[e l o q] at h;cases h
theorem Same.seq{K:Ae}{H':Hp}(e:Same H H')(h:SqL K H a xs):SqL K H' a xs:=by
 rcases h with(h | ⟨o,h⟩) | h
 · exact .inl (.inl (e _ _ h))
 · exact .inl (.inr ⟨o,e _ _ h⟩)
 · exact .inr h
section
variable{κ:Type}[DecidableEq κ]
theorem U0:∀{l:List κ}{k:κ},l.Nodup→¬k∈l→(l++[k]).Nodup
 | [],k,_,_=>by simp
 | a::r,k,h,hk=>by
  obtain⟨h1,h2⟩:=Cm.mp h;show(a::(r++[k])).Nodup;refine List.nodup_cons.mpr ⟨λm=>?_,U0 h2 λm=>hk (List.mem_cons.mpr (Or.inr m))⟩;rcases A3.mp m with q | q
  · exact h1 q
  · exact hk (List.mem_cons.mpr (Or.inl (Aj.mp q).symm))
end
noncomputable def Jh(X:Cx)(N':List Str)(scope:Scope)(cl:List (Str×Addr))(C:Addr)(s₀:Shared)(H₀:Hp)(ex:List Addr):Cx:=
 {prog:=X.prog,w:=X.w,K:=X.K,mg:=X.mg,base:=X.base,A:=X.A,N:=N',s₀:=s₀,H₀:=H₀,env:=compEnvC scope cl C X.env,outer:=X.stack,stack:=X.stack,ex:=ex,fn:=λx=>scope.names.lookup x==some .cell,calm:=X.calm,pn:=[],xe:=λ_ _=>False}
noncomputable abbrev J5:=List (Option Nat)
noncomputable def Kf(js:J5)(σ:St):St:=js.map λo=>o.bind λj=>(σ[j]?).join
theorem X5{env:Env}(has:∀x,(env.kindOf x=some .cell∨env.kindOf x=some .free)→∃c,env.cells.lookup x=some c):
 ∀(names:List (Str×NameKind))(acc:List (Str×Addr)),(∀p∈names,p.2= .free→env.kindOf p.1=some .cell∨env.kindOf p.1=some .free)→(∀x c,acc.lookup x=some c→env.cells.lookup x=some c)→
  ∃cl,(forIn names acc (λ(p:Str×NameKind)(cs:List (Str×Addr))=>(do
   if p.2==NameKind.free then
    let c ←cellOf env p.1
    pure (ForInStep.yield ((p.1,c)::cs))
   else pure (ForInStep.yield cs):Sem (ForInStep (List (Str×Addr))))))=pure cl∧(∀x c,cl.lookup x=some c→env.cells.lookup x=some c)∧
   (∀x,(acc.lookup x).isSome=true→(cl.lookup x).isSome=true)∧∀p∈names,p.2= .free→(cl.lookup p.1).isSome=true:=by
 intro names
 induction names with
 | nil=>intro acc _ ha;exact⟨acc,rfl,ha,λ_ h=>h,λ_ h=>nomatch h⟩
 | cons p r ih=>
  intro acc hn ha;obtain⟨n,k⟩:=p;rw[Ge];by_cases hk:k= .free
  · subst hk;obtain⟨c,hc⟩:=has n (hn (n,.free) Ao rfl);have e:cellOf env n=(pure c:Sem Addr):=by
     unfold cellOf;rw[hc]
    obtain⟨cl,h1,h2,h3,h4⟩:=ih ((n,c)::acc) (λq hq=>hn q (As _ hq)) (λx c' hx=>by
     rw[Ct] at hx;cases hb:x==n with
     | true=> rw[hb] at hx;cases hx;rw[show x=n from eq_of_beq hb];exact hc
     | false=> rw[hb] at hx;exact ha x c' hx)
    refine⟨cl,?_,h2,λx hx=>h3 x ?_,λq hq hf=>?_⟩
    · simp only[beq_self_eq_true,if_true,e];exact h1
    · rw[Ct];cases hb:x==n with
      | true=>rfl
      | false=>exact hx
    · rcases Aw.mp hq with rfl | hq
      · exact h3 _ (by simp[Ct])
      · exact h4 q hq hf
  · have hb:(k==NameKind.free)=false:=by simpa using hk
    obtain⟨cl,h1,h2,h3,h4⟩:=ih acc (λq hq=>hn q (As _ hq)) ha;refine⟨cl,?_,h2,h3,λq hq hf=>?_⟩
    · simp only[hb,AR,if_false];exact h1
    · rcases Aw.mp hq with rfl | hq
      · exact absurd hf hk
      · exact h4 q hq hf
theorem N8{env:Env}{scope:Scope}(has:∀x,(env.kindOf x=some .cell∨env.kindOf x=some .free)→∃c,env.cells.lookup x=some c)
 (hn:∀p∈scope.names,p.2= .free→env.kindOf p.1=some .cell∨env.kindOf p.1=some .free):
 ∃cl,closureFor scope env=pure cl∧(∀x c,cl.lookup x=some c→env.cells.lookup x=some c)∧∀p∈scope.names,p.2= .free→(cl.lookup p.1).isSome=true:=by
 obtain⟨cl,h1,h2,_,h4⟩:=X5 has scope.names [] hn (λ_ _ h=>nomatch h);refine⟨cl,?_,h2,h4⟩;unfold closureFor;show(do let cs ←forIn scope.names [] _;pure cs)=_
 refine Eq.trans ?_ h1;simp only[bind_pure]
section
variable{R:Result→Shared→Prop}
theorem zia{elt target iter:Expr}{ifs:List Expr}{scope:Scope}{pos:Pos}{it acc:Value}{env:Env}(I:Nat→Shared→Prop)
 (turn:∀n s,I n s→wpAny (model prog w) A (pyNext it) (λr s₁=>match r with
  | none=>R (.ok .next) s₁
  | some v=>wpAny (model prog w) A (BO target it v) (λ_ s₁'=>wpAny (model prog w) A (assign target env v) (λ_ s₂=>
   wpAny (model prog w) A (forIn ifs true λc r=>if r=true then do let ok ←isTrue c env (eval c env);pure (ForInStep.yield ok) else pure (ForInStep.yield r)) (λok s₃=>
    if ok=true then wpAny (model prog w) A (eval elt env) (λx s₄=> wpAny (model prog w) A (call (.builtin "list.append") [acc,x]) (λ_ s₅=>∃m,m<n∧I m s₅) (λ_ _=>False) s₄) (λ_ _=>False) s₃
    else ∃m,m<n∧I m s₃) (λ_ _=>False) s₂) (λ_ _=>False) s₁') (λ_ _=>False) s₁) (λ_ _=>False) s)
 (n:Nat) (h:I n s):
 codeAny (model prog w) A (.compLoop (.ListComp elt [⟨target,iter,ifs,0⟩] scope pos) 0 it acc env) R s:=by
 refine DT rfl I (λn s hI=>?_) n h;show wpAny _ A ((compTurn (.ListComp elt [⟨target,iter,ifs,0⟩] scope pos) 0 it acc env).onRaise (λx=>do noteFrame x env;theTreesLotGoes x)) _ _ s
 refine Em ?_;rw[compTurn_list];refine Aa (Bz (Aa (A5 (turn n s hI) (λr s₁ h₁=>?_) λ_ _ h'=>h'.elim)));cases r with
 | none=>exact Ac h₁
 | some v=>
  refine Aa (A5 h₁ (λ_ s₁' h₁'=>?_) λ_ _ h'=>h'.elim);refine Aa (A5 h₁' (λ_ s₂ h₂=>Aa (A5 h₂ (λok s₃ h₃=>?_) λ_ _ h'=>h'.elim)) λ_ _ h'=>h'.elim);cases ok with
  | false=>exact Ac ⟨rfl,h₃⟩
  | true=> exact Aa (Aa (A5 h₃ (λx s₄ h₄=>Aa (A5 h₄ (λ_ s₅ h₅=>Ac (Ac ⟨rfl,h₅⟩)) λ_ _ h'=>h'.elim)) λ_ _ h'=>h'.elim))
end
noncomputable def Jj(X:Cx)(ifs:List Expr)(t:TT):Prop:=
 ∀(pins:List (Addr×Obj))(s:Shared)(σ:St)(H:Hp)(Q:Bool→Hp→Prop),Inv X pins σ H s→t σ H Q→
  wpAny (model X.prog X.w) X.A (forIn ifs true λc r=>if r=true then do let ok ←isTrue c X.env (eval c X.env);pure (ForInStep.yield ok) else pure (ForInStep.yield r)) (TP X pins σ Q) X.xe s
noncomputable def Ky:TT:=λ_ H Q=>Q true H
theorem K8:Jj X [] Ky:=λ_ _ _ H _ I h=>wpAny_tests_nil ⟨H,I,h⟩
theorem K_{c:Expr}{t:TT}(h:PT X c t):Jj X [c] t:=λpins s σ H Q I hw=>wpAny_tests_one (h pins s σ H Q I hw)
noncomputable def Lf(J:It)(p:Addr)(js:J5)(g:TG)(tc:TT)(te:TE)(σ:St)(H:Hp)(Q:VK):Prop:=
 ∃W:Nat→Nat→St→List V→Hp→Prop,(∃m,W 0 m (Kf js σ) [] (IC H p (.lst [])))∧∀i m σ' ys H,W i m σ' ys H→H p=some (.lst ys)∧
  ((J.stop i H∧Q (.ref p) H)∨(J.go i H∧ys.length<Ay∧∀x H',J.yld i H x H'→g x σ' H' λσ2 H2=>tc σ2 H2 λb H3=>
    if b=true then te σ2 H3 λy H4=>H4 p=some (.lst ys)∧∃m',m'<m∧W (i+1) m' σ2 (ys++[y]) (IC H4 p (.lst (ys++[y])))
    else ∃m',m'<m∧W (i+1) m' σ2 ys H3))
noncomputable def WE(wi:TI)(js:J5)(g:TG)(tc:TT)(te:TE):TE:=λσ H Q=>wi σ H λJ H1=>∀p,H1 p=none→Lf J p js g tc te σ H1 Q
structure CapOk(X:Cx)(N':List Str)(js:J5)(scope:Scope):Prop where
 len:js.length=N'.length
 kind:scope.kind= .function
 cells:∀p∈scope.names,p.2= .cell→scope.names.lookup p.1=some .cell
 names:∀p∈scope.names,p.2= .local→scope.names.lookup p.1=some .local
 free:∀p∈scope.names,p.2= .free→X.env.kindOf p.1=some .cell∨X.env.kindOf p.1=some .free
 cap:∀(i j:Nat),js[i]?=some (some j)→∃x,N'[i]?=some x∧X.N[j]?=some x∧scope.names.lookup x=some .free
theorem Rn{names:List (Str×NameKind)}{k:NameKind}(h:names.lookup x=some k):(x,k)∈names:=by
 induction names with
 | nil=>cases h
 | cons p r ih=>
  obtain⟨n,k'⟩:=p;rw[Ct] at h;cases hb:x==n with
  | true=> rw[hb] at h;cases h;rw[show x=n from eq_of_beq hb];exact Ao
  | false=> rw[hb] at h;exact As _ (ih h)
theorem W0{env:Env}{k:NameKind}(h:(relabel scope env).names.lookup x=some k):∃k0,scope.names.lookup x=some k0∧(k=k0∨(k0= .free∧k= .cell)):=by
 have go:∀(names:List (Str×NameKind)),(names.map λ(p:Str×NameKind)=>if(p.2==NameKind.free && env.scope.kind== .function && env.kindOf p.1==some .cell) then(p.1,NameKind.cell) else(p.1,p.2)).lookup x=some k→
  ∃k0,names.lookup x=some k0∧(k=k0∨(k0= .free∧k= .cell)):=by
  intro names
  induction names with
  | nil=>intro h;cases h
  | cons p r ih=>
   obtain⟨n,k'⟩:=p;intro h;rw[Ax] at h;by_cases hc:(k'==NameKind.free && env.scope.kind== .function && env.kindOf n==some .cell)=true
   · rw[if_pos hc] at h;rw[Ct] at h ⊢;cases hb:x==n with
     | true=>
      rw[hb] at h;cases h;have:k'= .free:=by cases k'<;>first | rfl | (simp at hc)
      exact⟨k',rfl,.inr ⟨this,rfl⟩⟩
     | false=> rw[hb] at h;exact ih h
   · rw[if_neg hc] at h;rw[Ct] at h ⊢;cases hb:x==n with
     | true=> rw[hb] at h;cases h;exact⟨k',rfl,.inl rfl⟩
     | false=> rw[hb] at h;exact ih h
 exact go scope.names h
theorem zgs{env:Env}(h:scope.names.lookup x=some .free):(relabel scope env).names.lookup x=some .cell∨(relabel scope env).names.lookup x=some .free:=by
 have go:∀(names:List (Str×NameKind)),names.lookup x=some .free→(names.map λ(p:Str×NameKind)=>if(p.2==NameKind.free && env.scope.kind== .function && env.kindOf p.1==some .cell) then(p.1,NameKind.cell) else(p.1,p.2)).lookup x=some .cell∨
  (names.map λ(p:Str×NameKind)=>if(p.2==NameKind.free && env.scope.kind== .function && env.kindOf p.1==some .cell) then(p.1,NameKind.cell) else(p.1,p.2)).lookup x=some .free:=by
  intro names
  induction names with
  | nil=>intro h;cases h
  | cons p r ih=>
   obtain⟨n,k'⟩:=p;intro h;rw[Ax];rw[Ct] at h;by_cases hc:(k'==NameKind.free && env.scope.kind== .function && env.kindOf n==some .cell)=true
   · rw[if_pos hc,Ct];cases hb:x==n with
     | true=>exact .inl rfl
     | false=> rw[hb] at h;exact ih h
   · rw[if_neg hc,Ct];cases hb:x==n with
     | true=> rw[hb] at h;exact .inr h
     | false=> rw[hb] at h;exact ih h
 exact go scope.names h
theorem PZ:∀(names:List (Str×NameKind))(n:Nat)(acc:List (Str×Addr)),Cd n names acc=Cd n names []++acc
 | [],_,_=>rfl
 | (x,k)::r,n,acc=>by
  unfold Cd
  split
  · rw[PZ r _ ((x,n)::acc),PZ r _ [(x,n)],Dc];rfl
  · exact PZ r n acc
theorem R0{c:Addr}:∀(names:List (Str×NameKind))(n:Nat)(acc:List (Str×Addr)),(x,c)∈Cd n names acc→(x,NameKind.cell)∈names∨(x,c)∈acc
 | [],_,_,h=> .inr h
 | (y,k)::r,n,acc,h=>by
  unfold Cd at h
  split at h
  · rename_i hk;rcases R0 r _ _ h with z | z
    · exact .inl (As _ z)
    · rcases Aw.mp z with z | z
      · cases z;rw[show k= .cell from eq_of_beq hk];exact .inl Ao
      · exact .inr z
  · rcases R0 r _ _ h with z | z
    · exact .inl (As _ z)
    · exact .inr z
structure OwnCells(scope:Scope)(cl0 cl:List (Str×Addr))(lo:Nat)(h₁:Heap):Prop where
 own:∀x c,cl.lookup x=some c→(scope.names.lookup x=some .cell→lo<c∧h₁.IsCell c none)∧(scope.names.lookup x≠some .cell→cl0.lookup x=some c)
 has:∀x,scope.names.lookup x=some .cell∨(cl0.lookup x).isSome=true→(cl.lookup x).isSome=true
 inj:∀x y c,scope.names.lookup x=some .cell→scope.names.lookup y=some .cell→cl.lookup x=some c→cl.lookup y=some c→x=y
theorem Oo{M:Model}{A:BE}{E:Value→Shared→Prop}{s:Shared}{globals:Addr}{cl0:List (Str×Addr)}{qual:Str}{env:Env}{Q:Env→Shared→Prop}(ok:∀p∈scope.names,p.2= .cell→scope.names.lookup p.1=some .cell)
 (hQ:∀(cl:List (Str×Addr))(h₁:Heap),(∃m,h₁.Ns s.heap.objs.size m)→(∀b u,s.heap.get? b=some u→h₁.get? b=some u)→OwnCells scope cl0 cl s.heap.objs.size h₁→
  Q (newEnv scope s.heap.objs.size globals cl qual none .none (some env) builtinsNs) {s with heap:=h₁,toks:=s.toks+([]:List (Str×Value)).length}):
 wpAny M A (newFunctionEnv scope globals cl0 [] qual none .none (some env)) Q E s:=by
 simp only[newFunctionEnv,Option.isSome_some,if_true];refine Aa (wpAny_alloc ?_);refine Aa (wpAny_layCells _ (λname kind cells=>by cases hkc:kind==NameKind.cell<;>simp[hkc]) _ _ _ _ ?_);have ck:=cellsFrom_ok scope.names (s.heap.push {cls:= .type "dict",data:= .dict #[]}) (s.heap.objs.size+1) [] ⟨λ_ _ hm=>(nomatch hm),List.Pairwise.nil⟩ (by rw[BB];exact Ah _);rw[BB] at ck;rw[show({s with heap:=s.heap.push {cls:= .type "dict",data:= .dict #[]}}:Shared).heap.objs.size=s.heap.objs.size+1 from BB ..]
 rw[G1];refine Aa (Ac (Ac ?_));rw[PZ];refine hQ _ _ ⟨_,(Heap.Ns.new s.heap (.type "dict")).keeps (pushCells_keeps _ _)⟩ (λb o e=>pushCells_keeps _ _ b o (Ad _ e)) ?_;have lk:∀x,(Cd (s.heap.objs.size+1) scope.names []++cl0).lookup x=((Cd (s.heap.objs.size+1) scope.names []).lookup x).or (cl0.lookup x):=λx=>List.lookup_append;have cn:∀x c,(Cd (s.heap.objs.size+1) scope.names []).lookup x=some c→scope.names.lookup x=some .cell:=λx c e=>by
  rcases R0 _ _ _ (mem_of_lookup e) with z | z
  · exact ok _ z rfl
  · cases z
 refine⟨λx c e=>⟨λhx=>?_,λhx=>?_⟩,λx hx=>?_,λx y c hx hy e1 e2=>?_⟩
 · rw[lk] at e;have q:=CQ scope.names (s.heap.objs.size+1) [] (.inl hx);cases z:(Cd (s.heap.objs.size+1) scope.names []).lookup x with
   | none=>rw[z] at q;cases q
   | some c'=> rw[z] at e;cases e;have:=ck.empty _ _ (mem_of_lookup z);exact⟨this.2,this.1⟩
 · rw[lk] at e;cases z:(Cd (s.heap.objs.size+1) scope.names []).lookup x with
   | none=>rw[z] at e;exact e
   | some c'=>exact absurd (cn x c' z) hx
 · rw[lk];rcases hx with hx | hx
   · have q:=CQ scope.names (s.heap.objs.size+1) [] (.inl hx);cases z:(Cd (s.heap.objs.size+1) scope.names []).lookup x with
     | none=>rw[z] at q;cases q
     | some c'=>rfl
   · cases z:(Cd (s.heap.objs.size+1) scope.names []).lookup x with
     | none=>exact hx
     | some c'=>rfl
 · rw[lk] at e1 e2;have go:∀x,scope.names.lookup x=some .cell→((Cd (s.heap.objs.size+1) scope.names []).lookup x).or (cl0.lookup x)=some c→(x,c)∈Cd (s.heap.objs.size+1) scope.names []:=λx hx e=>by
    have q:=CQ scope.names (s.heap.objs.size+1) [] (.inl hx);cases z:(Cd (s.heap.objs.size+1) scope.names []).lookup x with
    | none=>rw[z] at q;cases q
    | some c'=>rw[z] at e;cases e;exact mem_of_lookup z
   exact name_of_addr ck.apart (go x hx e1) (go y hy e2)
theorem Oh{N':List Str}{js:J5}{cl0 cl:List (Str×Addr)}{fp:List Addr}{h₁:Heap}{t':Nat}(ok:CapOk X N' js scope)(I:Inv X pins σ H s)
 (h2':∀x c,cl0.lookup x=some c→X.env.cells.lookup x=some c) (h3':∀p∈scope.names,p.2= .free→(cl0.lookup p.1).isSome=true)
 (hf:∀b∈fp,IJ X pins H b) (hlt:∀b∈fp,b<s.heap.objs.size)
 (k:∀b u,s.heap.get? b=some u→h₁.get? b=some u) (hn:∃m,h₁.Ns s.heap.objs.size m) (oc:OwnCells scope cl0 cl s.heap.objs.size h₁):
 Inv (Jh X N' scope cl s.heap.objs.size s H fp) [] (Kf js σ) H {s with heap:=h₁,toks:=t'}:=by
 have fresh:H s.heap.objs.size=none:=I.hok.fresh (Ah _);have h2:∀x c,cl.lookup x=some c→(scope.names.lookup x=some .cell∧s.heap.objs.size<c∧h₁.IsCell c none)∨X.env.cells.lookup x=some c:=λx c e=>by
  by_cases hx:scope.names.lookup x=some .cell
  · exact .inl ⟨hx,(oc.own x c e).1 hx⟩
  · exact .inr (h2' x c ((oc.own x c e).2 hx))
 have h3:∀p∈scope.names,p.2= .free→(cl.lookup p.1).isSome=true:=λp hp e=>oc.has _ (.inr (h3' p hp e));have kind_of:∀x,((relabel scope X.env).names.lookup x=some .cell∨(relabel scope X.env).names.lookup x=some .free)→scope.names.lookup x=some .cell∨scope.names.lookup x=some .free:=λx hx=>by
  rcases hx with hx | hx
  · obtain⟨k0,e,z⟩:=W0 hx;rcases z with z | ⟨z,_⟩
    · subst z;exact .inl e
    · subst z;exact .inr e
  · obtain⟨k0,e,z⟩:=W0 hx;rcases z with z | ⟨z,z'⟩
    · subst z;exact .inr e
    · cases z'
 have clt:∀x c,X.env.cells.lookup x=some c→c<s.heap.objs.size:=λx c e=>let⟨v,hv⟩:=I.cell x c e;hv.lt;have okc:(Jh X N' scope cl s.heap.objs.size s H fp).Ok:=by
  refine⟨I.ok.mod,ok.kind,I.ok.glob,I.ok.blt,Ah _,λx y c e1 e2=>?_,λx hx=>?_,λx c hx e=>?_,I.ok.hd,I.ok.frames,.inl rfl,λb hb=>⟨Ar (hlt b hb),λx c e=>?_⟩,I.bs,AD I.ok.bsz I.sz,λb o e hb=>?_,λb hb hb'=>?_,I.stack,I.stkFree⟩
  · rcases h2 x c e1 with⟨k1,l1,_⟩ | l1
    · rcases h2 y c e2 with⟨k2,l2,_⟩ | l2
      · exact oc.inj x y c k1 k2 e1 e2
      · exact absurd l1 (Nat.lt_asymm (clt y c l2))
    · rcases h2 y c e2 with⟨k2,l2,_⟩ | l2
      · exact absurd l2 (Nat.lt_asymm (clt x c l1))
      · exact I.ok.inj x y c l1 l2
  · have z:(cl.lookup x).isSome=true:=by
     rcases kind_of x hx with e | e
     · exact oc.has x (.inl e)
     · exact h3 _ (Rn e) rfl
    cases q:cl.lookup x with
    | none=>rw[q] at z;cases z
    | some c=>exact⟨c,q⟩
  · exact Bv ((oc.own x c e).1 (eq_of_beq hx)).1
  · rcases h2 x c e with⟨_,l,_⟩ | l
    · exact λz=>Nat.lt_asymm (hlt b hb) (z ▸ l)
    · exact(hf b hb).2.2.2.2.1 x c l
  · rcases(hf b hb).2.2.2.1 with z | z
    · exact I.ok.noex b o e z
    · exact absurd (AG (Am e) (AD I.ok.bsz z)) (Ds _)
  · rcases Aw.mp (I.stkSub b hb') with z | z
    · exact(hf b hb).2.1 z
    · exact(hf b hb).2.2.1 z
 obtain⟨m,hn⟩:=hn;refine⟨okc,rfl,I.bare,Un.kept k,⟨m,hn,λi x v e1 e2 e3=>?_⟩,λx c e=>?_,fresh,λx c e=>?_,(λp hp=>nomatch hp),I.hok.kept k,by show(Kf js σ).length=N'.length;unfold Kf;rw[Ab];exact ok.len⟩
 · have e2:(Kf js σ)[i]?=some (some v):=e2;unfold Kf at e2;rw[Af] at e2;cases q:js[i]? with
   | none=>rw[q] at e2;cases e2
   | some o=>
    rw[q] at e2;cases o with
    | none=>cases e2
    | some j=>
     obtain⟨x',n1,n2,n3⟩:=ok.cap i j q;have e1:N'[i]?=some x:=e1;rw[n1] at e1;cases e1;have e2:(σ[j]?).join=some v:=A4 e2;have e2':σ[j]?=some (some v):=by
      cases q2:σ[j]? with
      | none=>rw[q2] at e2;cases e2
      | some o2=>rw[q2] at e2;exact congrArg some e2
     obtain⟨mo,hno,hlo⟩:=I.loc;have kx:=ok.free _ (Rn n3) rfl;have vis:Qk X.env.scope x:=by
      rcases kx with z | z
      · exact .inr (.inl z)
      · exact .inr (.inr z)
     obtain⟨u,r,l⟩:=hlo j x v n2 e2' vis;refine⟨u,r,.inr ⟨zgs n3,?_⟩⟩;rcases l with⟨z,_⟩ | ⟨_,c,hc,hcell⟩
     · rcases kx with y | y<;>(rw[z] at y;cases y)
     · have z:=h3 _ (Rn n3) rfl;cases q3:cl.lookup x with
       | none=>rw[q3] at z;cases z
       | some c'=> have:=h2' x c' ((oc.own x c' q3).2 (by rw[n3];decide));rw[hc] at this;cases this;exact⟨c,q3,hcell.keeps k⟩
 · rcases h2 x c e with⟨_,_,l⟩ | l
   · exact⟨_,l⟩
   · obtain⟨v,hv⟩:=I.cell x c l;exact⟨v,hv.keeps k⟩
 · rcases h2 x c e with⟨_,l,_⟩ | l
   · exact I.hok.fresh (Bv l)
   · exact I.freeC x c l
section
variable{tg iter elt:Expr}{ifs:List Expr}{wi:TI}{js:J5}{g:TG}{tc:TT}{te:TE}{N':List Str}
theorem UZ{pins:List (Addr×Obj)}{σ:St}{H:Hp}{s:Shared}{E:Value→Shared→Prop}{Q:VK}{J:It}{it:Addr}{fp:List Addr}{tn:Nat→Heap→Prop}{cl:List (Str×Addr)}
 (hc:X.calm=true) (ok:CapOk X N' js scope)
 (h2:∀x c,cl.lookup x=some c→X.env.cells.lookup x=some c) (h3:∀p∈scope.names,p.2= .free→(cl.lookup p.1).isSome=true)
 (hg:∀cl C s₀ H₀ ex,PG (Jh X N' scope cl C s₀ H₀ ex) tg g) (ht:∀cl C s₀ H₀ ex,Jj (Jh X N' scope cl C s₀ H₀ ex) ifs tc) (he:∀cl C s₀ H₀ ex,PE (Jh X N' scope cl C s₀ H₀ ex) elt te)
 (I:Inv X pins σ H s) (T:Turn X.prog X.w X.K tg J fp it tn) (st:tn 0 s.heap) (hf:∀b∈fp,IJ X pins H b)
 (hw:∀p,H p=none→Lf J p js g tc te σ H Q):
 wpAny (model X.prog X.w) X.A (newList []) (λacc s₃=>wpAny (model X.prog X.w) X.A (newFunctionEnv scope X.env.globals cl [] X.env.qual none .none (some X.env)) (λcenv s₄=>
  codeAny (model X.prog X.w) X.A (.compStart (.ListComp elt [⟨tg,iter,ifs,0⟩] scope pos) 0 (.ref it) acc {cenv with scope:=relabel scope X.env})
   (λr s'=>r= .ok .next∧(∃m,s'.heap.Ns cenv.locals m)∧∃v H',RelV v acc∧Inv X pins σ H' s'∧IJ X pins H' cenv.locals∧Q v H') s₄) E s₃) E s:=by
 have objs:=T.obj _ _ st;refine AM ?_ (by show 0≤Ay;decide);obtain⟨W,⟨m0,w0⟩,turn⟩:=hw s.heap.objs.size (I.hok.fresh (Ah _));generalize hp:s.heap.objs.size=p at*;have kp:∀b u,s.heap.get? b=some u→(s.heap.push {cls:= .type "list",dict:=none,data:= .seq ([]:List Value).toArray}).get? b=some u:=λb u e=>Ad _ e;have I3:Inv X pins σ (IC H p (.lst [])) {s with heap:=s.heap.push {cls:= .type "list",dict:=none,data:= .seq ([]:List Value).toArray}}:=by refine I.laid (t':=s.toks) kp (by rw[hp];exact Ah _) ⟨AK _,[],0,.nil,?_⟩;have:=Ak s.heap (o:={cls:= .type "list",dict:=none,data:= .seq ([]:List Value).toArray}) rfl;rw[hp] at this;exact this
 have fne:∀b∈fp,b≠p:=λb hb=>by obtain⟨o,e,_⟩:=objs b hb;have:=Am e;rw[←hp];exact Ar this
 have hf3:∀b∈fp,IJ X pins (IC H p (.lst [])) b:=λb hb=>⟨by rw[IZ (fne b hb)];exact(hf b hb).1,(hf b hb).2⟩;have st3:tn 0 (s.heap.push {cls:= .type "list",dict:=none,data:= .seq ([]:List Value).toArray}):=T.keep _ _ _ st λb _ o e=>kp b o e;have lt3:∀b∈fp,b<(s.heap.push {cls:= .type "list",dict:=none,data:= .seq ([]:List Value).toArray}).objs.size:=λb hb=>by obtain⟨o,e,_⟩:=objs b hb;exact Am (kp b o e)
 generalize hs3:({s with heap:=s.heap.push {cls:= .type "list",dict:=none,data:= .seq ([]:List Value).toArray}}:Shared)=s3 at*
 have eh:s.heap.push {cls:= .type "list",dict:=none,data:= .seq ([]:List Value).toArray}=s3.heap:=by rw[←hs3]
 rw[eh] at st3 lt3;refine Oo ok.cells λcl h₁ hns₁ k4 oc=>?_;have I4:=Oh (cl:=cl) (h₁:=h₁) (t':=s3.toks+([]:List (Str×Value)).length) ok I3 h2 h3 hf3 lt3 k4 hns₁ oc;have st4:tn 0 h₁:=T.keep _ _ _ st3 λb _ o e=>k4 b o e;generalize hX:Jh X N' scope cl s3.heap.objs.size s3 (IC H p (.lst [])) fp=X' at I4;have hg':PG X' tg g:=by rw[←hX];exact hg _ _ _ _ _
 have ht':Jj X' ifs tc:=by rw[←hX];exact ht _ _ _ _ _
 have he':PE X' elt te:=by rw[←hX];exact he _ _ _ _ _
 have eP:X'.prog=X.prog:=by rw[←hX];rfl
 have ew:X'.w=X.w:=by rw[←hX];rfl
 have eK:X'.K=X.K:=by rw[←hX];rfl
 have ec:X'.calm=true:=by rw[←hX];exact hc
 have eA:X'.A=X.A:=by rw[←hX];rfl
 have ex:X'.xe=λ_ _=>False:=by rw[←hX];rfl
 have eE:X'.env=compEnvC scope cl s3.heap.objs.size X.env:=by rw[←hX];rfl
 have eEx:X'.ex=fp:=by rw[←hX];rfl
 have eN:X'.pn=[]:=by rw[←hX];rfl
 have stat:∀{H':Hp},(∀b∈fp,H' b=none)→∀b∈fp,IJ X' [] H' b:=λ{H'}hn b hb=>by have okc:=I4.ok;refine⟨hn b hb,(okc.exf b (by rw[eEx];exact hb)).1,okc.exfs b (by rw[eEx];exact hb),.inl (by rw[eEx];exact hb),(okc.exf b (by rw[eEx];exact hb)).2,λq hq=>?_⟩;rw[eN] at hq;cases hq
 have loop:∀s₄:Shared,s₄={s3 with heap:=h₁,toks:=s3.toks+([]:List (Str×Value)).length}→
  codeAny (model X.prog X.w) X.A (.compLoop (.ListComp elt [⟨tg,iter,ifs,0⟩] scope pos) 0 (.ref it) (.ref p) (compEnvC scope cl s3.heap.objs.size X.env))
   (λr s'=>r= .ok .next∧(∃m,s'.heap.Ns s3.heap.objs.size m)∧∃v H',RelV v (.ref p)∧Inv X pins σ H' s'∧IJ X pins H' s3.heap.objs.size∧Q v H') s₄:=by
  rintro s₄ rfl;refine zia (λn s'=>∃i σ' ys H',Inv X' [] σ' H' s'∧tn i s'.heap∧(∀b∈fp,H' b=none)∧W i n σ' ys H') ?_ m0 ⟨0,_,[],_,I4,st4,λb hb=>(hf3 b hb).1,w0⟩;rintro n s5 ⟨i,σ5,ys,H5,I5,st5,fr5,w5⟩;obtain⟨hp5,tu⟩:=turn i n σ5 ys H5 w5;rcases tu with⟨stop,qn⟩ | ⟨go,hz,step⟩
  · have D:=T.done X' eP ew eK ec i [] s5 σ5 H5 (λ_ _=>False) I5 (stat fr5) st5 stop;rw[eA] at D;refine IG D λr s6 ⟨hr,I6⟩=>?_;subst hr;refine⟨rfl,?_,.ref p,H5,rfl,?_,?_,qn⟩
    · obtain⟨m,hm,_⟩:=I6.loc;rw[eE] at hm;exact⟨m,hm⟩
    · have b6:=I6.base;have ho:=I6.os;have hk:=I6.hok;have hb:=I6.bare;subst hX;exact I3.call' (ch:=fp) ho b6 hk hb λb hb'=>⟨(hf b hb').2.2.2.1,(hf b hb').2.1,(hf b hb').2.2.2.2.1,(hf b hb').2.2.2.2.2⟩
    · have fr:=I6.free;rw[eE] at fr;exact I3.fpOk (Ah _) fr
  · have D:=T.item X' eP ew eK ec i [] s5 σ5 H5 (λ_ _=>False) I5 (stat fr5) st5 go;rw[eA] at D;refine IG D λr s6 ⟨u,hr,h6⟩=>?_;subst hr;refine IG h6 λ_ s7 ⟨x,H7,I7,r7,y7,st7,fr7⟩=>?_;have I7':=I7.pinned (stat fr7) (T.obj _ _ st7);have G:=hg' _ s7 σ5 H7 x u _ I7' r7 (step x H7 y7);rw[eP,ew,eA,ex,eE] at G;refine IG G λ_ s8 ⟨σ8,H8,I8,q8⟩=>?_;have Tt:=ht' _ s8 σ8 H8 _ I8 q8;rw[eP,ew,eA,ex,eE] at Tt;refine IG Tt λb s9 ⟨H9,I9,q9⟩=>?_;have again:∀{s':Shared}{ys':List V}{H':Hp},Inv X' ([]++Ki fp s7.heap) σ8 H' s'→(∃m',m'<n∧W (i+1) m' σ8 ys' H')→
     ∃m,m<n∧∃i σ' ys H',Inv X' [] σ' H' s'∧tn i s'.heap∧(∀b∈fp,H' b=none)∧W i m σ' ys H':=λ{s' ys' H'}I' ⟨m',hm,w'⟩=>by
     refine⟨m',hm,i+1,σ8,ys',H',I'.unpinned,T.keep _ _ _ st7 λb hb o e=>(I'.pin (b,o) (Ai _ (Ai _ (K9 hb e)))).1,λb hb=>?_,w'⟩;obtain⟨o,e,d⟩:=T.obj _ _ st7 b hb;exact(I'.pin (b,o) (Ai _ (Ai _ (K9 hb e)))).2.1
    cases b with
    | false=>exact again I9 q9
    | true=> have Ee:=he' _ s9 σ8 H9 _ I9 q9;rw[eP,ew,eA,ex,eE] at Ee;show wpAny _ _ _ _ _ _;refine IG Ee λxv s10 ⟨y,H10,I10,r10,hp10,q10⟩=>?_;have Ap:=LY (X:=X') _ s10 σ8 H10 (.ref p) [y] (.ref p) [xv] (λ_ H'=>H'=IC H10 p (.lst (ys++[y]))) I10 rfl (.cons r10 .nil) ⟨p,ys,y,rfl,rfl,hp10,hz,rfl⟩;rw[eP,ew,eA,ex] at Ap;refine IG Ap λ_ s11 ⟨_,H11,I11,_,e11⟩=>?_;subst e11;exact again I11 q10
 exact Go (loop _ rfl) (T.self _ 0 _ _ _ st4 (loop _ rfl))
theorem K5(hc:X.calm=true)(ok:CapOk X N' js scope)(hi:PI X tg iter wi)
 (hg:∀cl C s₀ H₀ ex,PG (Jh X N' scope cl C s₀ H₀ ex) tg g) (ht:∀cl C s₀ H₀ ex,Jj (Jh X N' scope cl C s₀ H₀ ex) ifs tc) (he:∀cl C s₀ H₀ ex,PE (Jh X N' scope cl C s₀ H₀ ex) elt te)
 (hs:∀x,Bc iter X.env x=pure x:=by intro _;rfl):PE X (.ListComp elt [⟨tg,iter,ifs,0⟩] scope pos) (WE wi js g tc te):=by
 intro pins s σ H Q I h;obtain⟨cl,c1,c2,c3⟩:=N8 (scope:=scope) I.ok.has ok.free;rw[eval_ListComp];refine Cu (use:=none) rfl hs c1 ok.kind ok.names (IG (hi pins s σ H _ I h) λv s1 h1=>IG h1 λitv s2 h2=>?_);obtain⟨it,fp,tn,J,H2,e,I2,T,st2,f2,hw⟩:=h2;subst e;refine A5 (UZ (iter:=iter) (pos:=pos) hc ok c2 c3 hg ht he I2 T st2 f2 hw) (λacc s3 h3=>A5 h3 (λcenv s4 h4=>?_) λ_ _ z=>z) λ_ _ z=>z;refine Cg h4 λr s5 h5=>?_;obtain⟨rfl,⟨m,hm⟩,v,H5,rv,I5,f5,q5⟩:=h5;refine⟨m,hm,λh' sb=>?_⟩;obtain⟨f0,f1,_,f3,f4,f6⟩:=f5;exact⟨v,H5,I5.turned (t':=s5.toks) (λb o hb e=>(sb.2 b hb).trans e) f0 f1 f3 f4 f6,rv,q5⟩
theorem MR{px:Pos}{spos:Pos}(hN:X.N.Nodup)(hi':X.N[i]?=some x)(hx:NM X.env.scope x)(hc:X.calm=true)(ok:CapOk X N' js scope)(hi:PI X tg iter wi)
 (hg:∀cl C s₀ H₀ ex,PG (Jh X N' scope cl C s₀ H₀ ex) tg g) (ht:∀cl C s₀ H₀ ex,Jj (Jh X N' scope cl C s₀ H₀ ex) ifs tc) (he:∀cl C s₀ H₀ ex,PE (Jh X N' scope cl C s₀ H₀ ex) elt te)
 (hsw:swapsWith (.ListComp elt [⟨tg,iter,ifs,0⟩] scope pos) (some (.Name x px)) spos.line X.env=pure true:=by rfl)
 (hs:∀x,Bc iter X.env x=pure x:=by intro _;rfl) (hf:X.fn x=true∨X.env.scope.names.lookup x=some .local:=by first | exact .inl rfl | exact .inr rfl | assumption):
 PS X (.Assign [.Name x px] (.ListComp elt [⟨tg,iter,ifs,0⟩] scope pos) spos) (L3 (WE wi js g tc te) (KI i)):=by
 intro pins s σ H D I h;obtain⟨cl,c1,c2,c3⟩:=N8 (scope:=scope) I.ok.has ok.free;rw[exec_Assign_Name_used _ _ _ _ hsw];refine Aa (Bz (Aa ?_));show wpAny _ X.A (do let _ ←comprehension (.ListComp elt [⟨tg,iter,ifs,0⟩] scope pos) scope X.env _ (newList []) false (eval iter X.env) (some (assign (.Name x px) X.env))) _ _ s
 refine Aa (A5 (Cu (use:=some (assign (.Name x px) X.env)) (Q:=λ_ s'=>SP X pins D .next s') rfl hs c1 ok.kind ok.names
  (IG (hi pins s σ H _ I h) λv s1 h1=>IG h1 λitv s2 h2=>?_)) (λ_ s' hq=>Ac (Ac hq)) λ_ _ e=>e)
 obtain⟨it,fp,tn,J,H2,e,I2,T,st2,f2,hw⟩:=h2;subst e;refine A5 (UZ (Q:=λx H1=>KI i x σ H1 D.nx) (iter:=iter) (pos:=pos) hc ok c2 c3 hg ht he I2 T st2 f2 hw) (λacc s3 h3=>A5 h3 (λcenv s4 h4=>?_) λ_ _ z=>z) λ_ _ z=>z;refine Cg h4 λr s5 h5=>?_;obtain⟨rfl,⟨m,hm⟩,v,H5,rv,I5,f5,q5⟩:=h5;obtain⟨f0,f1,f2',f3,f4,f6⟩:=f5;show wpAny _ X.A (assign (.Name x px) X.env acc) _ _ _;refine Ft (QZ I5 hN hi' hx rv (λs6 I6 ch=>?_) hf);obtain⟨a,sb,ha⟩:=ch;have na:cenv.locals≠a:=by
  rcases ha with z | z
  · rw[z];exact f1
  · exact λy=>f4 x a z y.symm
 refine⟨m,hm.sameBut sb na,λh' sb'=>⟨_,H5,I6.turned (t':=s6.toks) (λb o hb e=>(sb'.2 b hb).trans e) f0 f1 f3 f4 f6,q5⟩⟩
end
end L2
set_option exponentiation.threshold 2000
namespace L2
noncomputable def SJ(i j:Int):Prop:=0≤j∧j≤1000∧i.natAbs<2^1000
noncomputable def Xi(i j:Int):Prop:=0<j∧j<2^1000
theorem LF:J2 X (binaryOp .Pow) (rI SJ λi j=> .int (i^j.toNat)):=O0 λi j _ _ _ _ _ hc q=>by
 obtain⟨h0,h1,h2⟩:=hc;refine pow_int h0 ?_ q;have hb:EL i≤1000:=intBits_le h2;have e1:((EL i:Nat):Int)*j≤1000*1000:=by have a1:((EL i:Nat):Int)*j≤1000*j:=Int.mul_le_mul_of_nonneg_right (by omega) h0;have a2:1000*j≤1000*1000:=Int.mul_le_mul_of_nonneg_left h1 (by decide);exact Int.le_trans a1 a2
 exact Int.le_trans e1 (by decide)
theorem Vh:J2 X (binaryOp .FloorDiv) (rI Xi λi j=> .int (i / j)):=O0 λi j _ _ _ _ _ hc q=>by
 obtain⟨h0,h1⟩:=hc;refine floordiv_int (by omega) ?_ (.inl (PyProof.noPylong_of_log2 ?_))
 · rw[Int.fdiv_eq_ediv_of_nonneg _ (by omega)];exact q
 · have h2:j.natAbs<2^1000:=by
    have e:((j.natAbs:Nat):Int)=j:=by omega
    have h3:((j.natAbs:Nat):Int)<((2^1000:Nat):Int):=by rw[e,Int.natCast_pow];exact h1
    exact Int.ofNat_lt.mp h3
   have h4:j.natAbs≠0:=by omega
   have h5:=(Nat.log2_lt h4).mpr h2;omega
inductive PD where
 | non | bl (b:Bool) | int (i:Int) | str (x:Str) | lst (ds:List PD) | tup (ds:List PD)
mutual
noncomputable def Rep(K:Ae)(H:Hp):PD→V→Prop
 | .non,v=>v= .non
 | .bl b,v=>v= .bl b
 | .int i,v=>v= .int i
 | .str x,v=>v= .str x
 | .lst ds,v=>∃a xs,v= .ref a∧SqL K H a xs∧Reps K H ds xs
 | .tup ds,v=>∃a xs,v= .ref a∧SqT K H a xs∧Reps K H ds xs
noncomputable def Reps(K:Ae)(H:Hp):List PD→List V→Prop
 | [],xs=>xs=[]
 | d::ds,xs=>∃x r,xs=x::r∧Rep K H d x∧Reps K H ds r
end
mutual
noncomputable def IK:PD→PD→Bool
 | .non,.non=>true
 | .bl a,.bl b=>a==b
 | .bl a,.int b=>(if a then 1 else 0)==b
 | .int a,.bl b=>a==(if b then 1 else 0)
 | .int a,.int b=>a==b
 | .str a,.str b=>a==b
 | .lst xs,.lst ys=>Jy xs ys
 | .tup xs,.tup ys=>Jy xs ys
 | _,_=>false
noncomputable def Jy:List PD→List PD→Bool
 | [],[]=>true
 | x::xs,y::ys=>IK x y && Jy xs ys
 | _,_=>false
end
mutual
noncomputable def Jv:PD→Nat
 | .lst ds=>JF ds+1
 | .tup ds=>JF ds+1
 | _=>0
noncomputable def JF:List PD→Nat
 | []=>0
 | d::ds=>max (Jv d) (JF ds)
end
mutual
theorem LZ:∀d:PD,IK d d=true
 | .non=>rfl
 | .bl b=>by simp[IK]
 | .int i=>by simp[IK]
 | .str x=>by simp[IK]
 | .lst ds=>by rw[IK];exact PF ds
 | .tup ds=>by rw[IK];exact PF ds
theorem PF:∀ds:List PD,Jy ds ds=true
 | []=>by rw[Jy]
 | d::ds=>by rw[Jy,LZ d,PF ds];rfl
end
theorem Reps.length{K:Ae}:∀{ds:List PD}{xs:List V},Reps K H ds xs→xs.length=ds.length
 | [],xs,h=>by rw[Reps] at h;rw[h];rfl
 | d::ds,xs,h=>by rw[Reps] at h;obtain⟨x,r,rfl,_,h⟩:=h;rw[AA,AA,Reps.length h]
theorem M4:∀{xs ys:List PD},xs.length≠ys.length→Jy xs ys=false
 | [],[],h=>absurd rfl h
 | [],_::_,_=>by rw[Jy];all_goals simp
 | _::_,[],_=>by rw[Jy];all_goals simp
 | x::xs,y::ys,h=>by rw[Jy,M4 (xs:=xs) (ys:=ys) (by simpa using h)];simp
noncomputable def M9(xs ys:List PD)(j:Nat):Bool:=match xs[j]?,ys[j]? with
 | some a,some b=>IK a b
 | _,_=>false
theorem MU:∀(xs ys:List PD),xs.length=ys.length→(BU xs.length).all (M9 xs ys)=Jy xs ys
 | [],[],_=>by rw[Jy];rfl
 | x::xs,y::ys,h=>by rw[Jy,AA,Gp,C5,List.all_map];rw[←MU xs ys (by simpa using h)];rfl
theorem SqT.notL{K:Ae}{ys:List V}(I:Inv X pins σ H s)(h:SqT X.K H a xs)(h':SqL X.K H a ys):False:=by obtain⟨its,_,p,_⟩:=I.tuple h;obtain⟨its',_,p',_⟩:=I.list h';exact SeqAt.ne_of_list_tuple p'.isList (show s.heap.IsTuple a its.toArray from p) rfl
mutual
theorem Po(I:Inv X pins σ H s):∀(d e:PD)(v:V),Rep X.K H d v→Rep X.K H e v→d=e
 | .non,e,v,h,h'=>by rw[Rep] at h;subst h;cases e<;>rw[Rep] at h'<;>first | rfl | (obtain⟨_,_,z,_⟩:=h';cases z;done) | (cases h';done)
 | .bl b,e,v,h,h'=>by rw[Rep] at h;subst h;cases e<;>rw[Rep] at h'<;>first | (obtain⟨_,_,z,_⟩:=h';cases z;done) | (cases h';done) | (cases h';rfl)
 | .int i,e,v,h,h'=>by rw[Rep] at h;subst h;cases e<;>rw[Rep] at h'<;>first | (obtain⟨_,_,z,_⟩:=h';cases z;done) | (cases h';done) | (cases h';rfl)
 | .str x,e,v,h,h'=>by rw[Rep] at h;subst h;cases e<;>rw[Rep] at h'<;>first | (obtain⟨_,_,z,_⟩:=h';cases z;done) | (cases h';done) | (cases h';rfl)
 | .lst ds,e,v,h,h'=>by
  rw[Rep] at h;obtain⟨a,xs,rfl,q,r⟩:=h;cases e with
  | lst es=> rw[Rep] at h';obtain⟨a',ys,z,q',r'⟩:=h';cases z;have:=I.list_inj q q';subst this;rw[QJ I ds es xs r r']
  | tup es=> rw[Rep] at h';obtain⟨a',ys,z,q',r'⟩:=h';cases z;exact(SqT.notL (K:=X.K) I q' q).elim
  | _=>rw[Rep] at h';cases h'
 | .tup ds,e,v,h,h'=>by
  rw[Rep] at h;obtain⟨a,xs,rfl,q,r⟩:=h;cases e with
  | tup es=> rw[Rep] at h';obtain⟨a',ys,z,q',r'⟩:=h';cases z;have:=I.tuple_inj q q';subst this;rw[QJ I ds es xs r r']
  | lst es=> rw[Rep] at h';obtain⟨a',ys,z,q',r'⟩:=h';cases z;exact(SqT.notL (K:=X.K) I q q').elim
  | _=>rw[Rep] at h';cases h'
theorem QJ(I:Inv X pins σ H s):∀(ds es:List PD)(vs:List V),Reps X.K H ds vs→Reps X.K H es vs→ds=es
 | [],es,vs,h,h'=>by
  rw[Reps] at h;subst h;cases es with
  | nil=>rfl
  | cons e es=>rw[Reps] at h';obtain⟨_,_,z,_⟩:=h';cases z
 | d::ds,es,vs,h,h'=>by
  rw[Reps] at h;obtain⟨x,r,rfl,h1,h2⟩:=h;cases es with
  | nil=>rw[Reps] at h';cases h'
  | cons e es=> rw[Reps] at h';obtain⟨x',r',z,h1',h2'⟩:=h';cases z;rw[Po I d e x h1 h1',QJ I ds es r h2 h2']
end
mutual
theorem MQ(I:Inv X pins σ H s):∀(A:BE)(d e:PD)(v w:V)(u y:Value),Rep X.K H d v→Rep X.K H e w→RelV v u→RelV w y→A.units+Jv d<cLine→DZ A s u y (IK d e)
 | A,.non,e,v,w,u,y,h,h',r,r',z=>by
  rw[Rep] at h;subst h;cases r;cases e with
  | non=>rw[Rep] at h';subst h';cases r';rw[IK];exact DJ _
  | bl b=>rw[Rep] at h';subst h';cases r';exact GB b
  | int b=>rw[Rep] at h';subst h';obtain⟨t,rfl⟩:=r';exact EH b t
  | str b=>rw[Rep] at h';subst h';obtain⟨t,rfl⟩:=r';exact EI b t
  | lst es=>rw[Rep] at h';obtain⟨a,xs,rfl,q,_⟩:=h';cases r';obtain⟨its,_,p,_⟩:=I.list q;exact SeqAt.EqAt.none_list p.isList (by omega)
  | tup es=>rw[Rep] at h';obtain⟨a,xs,rfl,q,_⟩:=h';cases r';obtain⟨its,_,p,_⟩:=I.tuple q;exact SeqAt.EqAt.none_tuple p (by omega)
 | A,.bl c,e,v,w,u,y,h,h',r,r',z=>by
  rw[Rep] at h;subst h;cases r;cases e with
  | non=>rw[Rep] at h';subst h';cases r';exact GC c
  | bl b=>rw[Rep] at h';subst h';cases r';exact GD c b
  | int b=>rw[Rep] at h';subst h';obtain⟨t,rfl⟩:=r';exact GK c b t
  | str b=>rw[Rep] at h';subst h';obtain⟨t,rfl⟩:=r';exact GL c b t
  | lst es=>rw[Rep] at h';obtain⟨a,xs,rfl,q,_⟩:=h';cases r';obtain⟨its,_,p,_⟩:=I.list q;exact SeqAt.EqAt.bool_list c p.isList (by omega)
  | tup es=>rw[Rep] at h';obtain⟨a,xs,rfl,q,_⟩:=h';cases r';obtain⟨its,_,p,_⟩:=I.tuple q;exact SeqAt.EqAt.bool_tuple c p (by omega)
 | A,.int c,e,v,w,u,y,h,h',r,r',z=>by
  rw[Rep] at h;subst h;obtain⟨tc,rfl⟩:=r;cases e with
  | non=>rw[Rep] at h';subst h';cases r';exact EJ c tc
  | bl b=>rw[Rep] at h';subst h';cases r';exact GM c tc b
  | int b=>rw[Rep] at h';subst h';obtain⟨t,rfl⟩:=r';exact SeqAt.EqAt.int_int c tc b t
  | str b=>rw[Rep] at h';subst h';obtain⟨t,rfl⟩:=r';exact DO c tc b t
  | lst es=>rw[Rep] at h';obtain⟨a,xs,rfl,q,_⟩:=h';cases r';obtain⟨its,_,p,_⟩:=I.list q;exact SeqAt.EqAt.int_list c tc p.isList (by omega)
  | tup es=>rw[Rep] at h';obtain⟨a,xs,rfl,q,_⟩:=h';cases r';obtain⟨its,_,p,_⟩:=I.tuple q;exact SeqAt.EqAt.int_tuple c tc p (by omega)
 | A,.str c,e,v,w,u,y,h,h',r,r',z=>by
  rw[Rep] at h;subst h;obtain⟨tc,rfl⟩:=r;cases e with
  | non=>rw[Rep] at h';subst h';cases r';exact EK c tc
  | bl b=>rw[Rep] at h';subst h';cases r';exact GN c tc b
  | int b=>rw[Rep] at h';subst h';obtain⟨t,rfl⟩:=r';exact DP c tc b t
  | str b=>rw[Rep] at h';subst h';obtain⟨t,rfl⟩:=r';exact SeqAt.EqAt.str_str c tc b t
  | lst es=>rw[Rep] at h';obtain⟨a,xs,rfl,q,_⟩:=h';cases r';obtain⟨its,_,p,_⟩:=I.list q;exact SeqAt.EqAt.str_list c tc p.isList (by omega)
  | tup es=>rw[Rep] at h';obtain⟨a,xs,rfl,q,_⟩:=h';cases r';obtain⟨its,_,p,_⟩:=I.tuple q;exact SeqAt.EqAt.str_tuple c tc p (by omega)
 | A,.lst ds,e,v,w,u,y,h,h',r,r',z=>by
  have h0:=h;rw[Rep] at h;obtain⟨a,xs,rfl,q,qs⟩:=h;cases r;obtain⟨its,rv,p,_⟩:=I.list q;cases e with
  | non=>rw[Rep] at h';subst h';cases r';exact SeqAt.EqAt.list_none p.isList (by omega)
  | bl b=>rw[Rep] at h';subst h';cases r';exact SeqAt.EqAt.list_bool b p.isList (by omega)
  | int b=>rw[Rep] at h';subst h';obtain⟨t,rfl⟩:=r';exact SeqAt.EqAt.list_int b t p.isList (by omega)
  | str b=>rw[Rep] at h';subst h';obtain⟨t,rfl⟩:=r';exact SeqAt.EqAt.list_str b t p.isList (by omega)
  | tup es=>rw[Rep] at h';obtain⟨b,ys,rfl,q',_⟩:=h';cases r';obtain⟨its',_,p',_⟩:=I.tuple q';exact SeqAt.EqAt.list_tuple p.isList p' (by omega)
  | lst es=>
   have h0':=h';rw[Rep] at h';obtain⟨b,ys,rfl,q',qs'⟩:=h';cases r';obtain⟨its',rv',p',_⟩:=I.list q';by_cases hab:a=b
   · subst hab;rw[Po I _ _ _ h0 h0',LZ];exact DJ _
   · refine SeqAt.EqAt.of_refs hab ?_;rw[IK];rw[Jv] at z;have l1:=qs.length;have l2:=qs'.length;have l3:=rv.length;have l4:=rv'.length;by_cases hl:ds.length=es.length
     · rw[←MU ds es hl];have:=SeqAt.RcAt.lists (e:=M9 ds es) p.isList p'.isList (by simp;omega) (by omega) (λj h1 h2=>?_) (A:=A)
       · simp only[Av] at this;rw[show ds.length=its.length by omega];exact this
       · have:=MW I A.in1 ds es xs ys its its' qs qs' rv rv' (by rw[Bq];omega) j (by simpa using h1) (by simpa using h2);simpa using this
     · rw[M4 hl];exact DU p.isList p'.isList (by simp;omega) (by omega)
 | A,.tup ds,e,v,w,u,y,h,h',r,r',z=>by
  have h0:=h;rw[Rep] at h;obtain⟨a,xs,rfl,q,qs⟩:=h;cases r;obtain⟨its,rv,p,_⟩:=I.tuple q;cases e with
  | non=>rw[Rep] at h';subst h';cases r';exact SeqAt.EqAt.tuple_none p (by omega)
  | bl b=>rw[Rep] at h';subst h';cases r';exact SeqAt.EqAt.tuple_bool b p (by omega)
  | int b=>rw[Rep] at h';subst h';obtain⟨t,rfl⟩:=r';exact SeqAt.EqAt.tuple_int b t p (by omega)
  | str b=>rw[Rep] at h';subst h';obtain⟨t,rfl⟩:=r';exact SeqAt.EqAt.tuple_str b t p (by omega)
  | lst es=>rw[Rep] at h';obtain⟨b,ys,rfl,q',_⟩:=h';cases r';obtain⟨its',_,p',_⟩:=I.list q';exact SeqAt.EqAt.tuple_list p p'.isList (by omega)
  | tup es=>
   have h0':=h';rw[Rep] at h';obtain⟨b,ys,rfl,q',qs'⟩:=h';cases r';obtain⟨its',rv',p',_⟩:=I.tuple q';by_cases hab:a=b
   · subst hab;rw[Po I _ _ _ h0 h0',LZ];exact DJ _
   · refine SeqAt.EqAt.of_refs hab ?_;rw[IK];rw[Jv] at z;have l1:=qs.length;have l2:=qs'.length;have l3:=rv.length;have l4:=rv'.length;have:=SeqAt.RcAt.tuples (e:=M9 ds es) p p' (by omega) (λj h1 h2=>?_) (A:=A)
     · simp only[Av] at this;by_cases hl:ds.length=es.length
       · rw[←MU ds es hl];rw[show min its.length its'.length=ds.length by omega,show(its.length==its'.length)=true by simp;omega,Ew] at this;exact this
       · rw[M4 hl];rw[show(its.length==its'.length)=false by simp;omega,ES] at this;exact this
     · have:=MW I A.in1 ds es xs ys its its' qs qs' rv rv' (by rw[Bq];omega) j (by simpa using h1) (by simpa using h2);simpa using this
theorem MW(I:Inv X pins σ H s):∀(A:BE)(ds es:List PD)(vs ws:List V)(us ys:List Value),Reps X.K H ds vs→Reps X.K H es ws→Vals vs us→Vals ws ys→A.units+JF ds<cLine→
 ∀(j:Nat)(h1:j<us.length)(h2:j<ys.length),DZ A s us[j] ys[j] (M9 ds es j)
 | A,[],es,vs,ws,us,ys,h,h',r,r',z=>by rw[Reps] at h;subst h;cases r;intro j h1;exact absurd h1 (DK _)
 | A,d::ds,es,vs,ws,us,ys,h,h',r,r',z=>by
  rw[Reps] at h;obtain⟨x,vr,rfl,g1,g2⟩:=h;cases es with
  | nil=> rw[Reps] at h';subst h';cases r';intro j h1 h2;exact absurd h2 (DK _)
  | cons e es=>
   rw[Reps] at h';obtain⟨x',vr',rfl,g1',g2'⟩:=h';cases r with
   | cons ra rb=>
    cases r' with
    | cons ra' rb'=>
     rw[JF] at z;intro j h1 h2;cases j with
     | zero=>exact MQ I A d e x x' _ _ g1 g1' ra ra' (by omega)
     | succ j=>exact MW I A ds es vr vr' _ _ g2 g2' rb rb' (by omega) j (by simpa using h1) (by simpa using h2)
end
section
variable{R:Result→Shared→Prop}{J:Addr}{fo wo:List Addr}{len:Nat}{At:Nat→Value→Prop}{Sx:Nat→Heap→Prop}
theorem zkQ(kw:List (Str×Value))(Z:Walks prog w A.in1 J fo wo len At Sx)(bt:Nat→Nat→Bool)(cm:CmpOf prog w A.in1 .Gt At bt)(B:Addr)(nB:B ∉ fo):
 ∀(k j:Nat)(s:Shared)(best:Value)(c:Nat),len - (j+1)=k→j+1≤len→Sx (j+1) s.heap→At (argBest bt j) best→
 s.heap.get? B=some {cls:= .type "list",dict:=none,data:= .seq #[best,best] c,slots:=#[]}→
 (∀v g t',At (argBest bt (len - 1)) v→(∀b o,b ∉ wo→b≠B→s.heap.get? b=some o→g.get? b=some o)→R (.ok (.ret v)) {s with heap:=g,toks:=t'})→
 codeAny (model prog w) A (.builtin "max.loop" ⟨[.ref J,.none,.ref B],kw⟩) R s:=by
 have nW:B ∉ wo:=λz=>nB (Z.sub _ z);have nm:(toString "max"++toString ".loop":String)="max.loop":=by decide
 intro k
 induction k with
 | zero=>
  intro j s best c e0 e1 sx ab eB fin;have last:j+1=len:=by omega
  refine Bf FM ?_;rw[AO CL _];show wpAny _ _ (seqItems? (.ref B)>>=_) _ _ _;refine Aa (AW eB rfl ?_);show wpAny _ _ (tryCatch (pyNext (.ref J)) _>>=_) _ _ _;refine Aa (Ci (Z.done s _ _ (last ▸ sx) λg t' kp=>?_));have eB':=kp B _ nW eB;show wpAny _ _ (updateSeq B (λ_=>#[])>>=_) _ _ _;refine Aa ?_;refine Cb eB' rfl (Aa (Ch (Ac ?_)));exact fin best _ t' (by rw[←last];exact ab) λb o h1 h2 e=>(AT _ _ (BI h2)).trans (kp b o h1 e)
 | succ k ih=>
  intro j s best c e0 e1 sx ab eB fin;have more:j+1<len:=by omega
  refine Bf FM ?_;rw[AO CL _];show wpAny _ _ (seqItems? (.ref B)>>=_) _ _ _;refine Aa (AW eB rfl ?_);show wpAny _ _ (tryCatch (pyNext (.ref J)) _>>=_) _ _ _;refine Aa (Ci (Z.item (j+1) s _ _ more sx λv g t' av sx' kp=>?_));have eB':=kp B _ nW eB;show wpAny _ _ (tryCatch (holding [v,v] (richCompare .Gt v best>>=_)) _>>=_) _ _ _;refine Aa (Ci (AN (Aa (cm (j+1) (argBest bt j) v best _ _ _ av ab ?_))));refine Aa (AN (Bk ?_));refine Aa (Ch (Ac ?_));cases hb:bt (j+1) (argBest bt j) with
  | true=>
   simp only[if_true];refine Aa ?_;refine Cb eB' rfl (Aa (Ch ?_));rw[nm];refine Ac ⟨Bj CL _,ih (j+1) _ v _ (by omega) more (Z.frame _ _ _ sx' λb h1 o e=>?_) (by simp only[argBest,hb,if_true];exact av) (Bb _ eB' rfl)
    λv' g' t'' av' kp'=>?_⟩
   · exact(AT _ _ (λz:B=b=>nB (by rw[z];exact h1))).trans e
   · exact fin v' g' t'' av' λb o h1 h2 e=>kp' b o h1 h2 ((AT _ _ (BI h2)).trans (kp b o h1 e))
  | false=> simp only[AR,if_false];refine Aa (Ch ?_);rw[nm];refine Ac ⟨Bj CL _,ih (j+1) _ best c (by omega) more sx' (by simp only[argBest,hb,AR,if_false];exact ab) eB' λv' g' t'' av' kp'=>?_⟩;exact fin v' g' t'' av' λb o h1 h2 e=>kp' b o h1 h2 (kp b o h1 e)
theorem zjC(d:Value)(Z:Walks prog w A.in1 J fo wo len At Sx)(bt:Nat→Nat→Bool)(cm:CmpOf prog w A.in1 .Gt At bt)(B:Addr)(nB:B ∉ fo){c:Nat}(sx:Sx 0 s.heap)
 (eB:s.heap.get? B=some {cls:= .type "list",dict:=none,data:= .seq #[] c,slots:=#[]})
 (fin:∀v g t',(len=0→v=d)→(0<len→At (argBest bt (len - 1)) v)→(∀b o,b ∉ wo→b≠B→s.heap.get? b=some o→g.get? b=some o)→R (.ok (.ret v)) {s with heap:=g,toks:=t'}):
 codeAny (model prog w) A (.builtin "max.loop" ⟨[.ref J,.none,.ref B],[("default",d)]⟩) R s:=by
 have nW:B ∉ wo:=λz=>nB (Z.sub _ z);have nm:(toString "max"++toString ".loop":String)="max.loop":=by decide
 refine Bf FM ?_;rw[AO CL _];show wpAny _ _ (seqItems? (.ref B)>>=_) _ _ _;refine Aa (AW eB rfl ?_);show wpAny _ _ (tryCatch (pyNext (.ref J)) _>>=_) _ _ _;by_cases hl:len=0
 · refine Aa (Ci (Z.done s _ _ (hl ▸ sx) λg t' kp=>?_));refine Aa (BA (Ac ?_));exact fin d g t' (λ_=>rfl) (λz=>by omega) λb o h1 _ e=>kp b o h1 e
 · refine Aa (Ci (Z.item 0 s _ _ (by omega) sx λv g t' av sx' kp=>?_));have eB':=kp B _ nW eB;show wpAny _ _ (updateSeq B (λ_=>#[v,v])>>=_) _ _ _;refine Aa ?_;refine Cb eB' rfl ?_;rw[nm];refine Ac ⟨Bj CL _,zkQ [("default",d)] Z bt cm B nB _ 0 _ v _ rfl (by omega) (Z.frame _ _ _ sx' λb h1 o e=>?_) av (Bb _ eB' rfl) λv' g' t'' av' kp'=>?_⟩
   · exact(AT _ _ (λz:B=b=>nB (by rw[z];exact h1))).trans e
   · exact fin v' g' t'' (λz=>by omega) (λ_=>av') λb o h1 h2 e=>kp' b o h1 h2 ((AT _ _ (BI h2)).trans (kp b o h1 e))
theorem zjD(a d:Value):argsOk "max" ⟨[a],[("default",d)]⟩:=by unfold argsOk;kernel_rfl
theorem zhV{E:Value→Shared→Prop}{its:Array Value}{d:Value}{Q:Value→Shared→Prop}(hh:A.handled=none)(hl:s.heap.IsList a its)(bt:Nat→Nat→Bool)
 (cm:CmpOf prog w A.in1 .Gt (λi v=>its[i]?=some v) bt)
 (fin:∀v g t',(its.size=0→v=d)→(0<its.size→its[argBest bt (its.size - 1)]?=some v)→(∀b o,s.heap.get? b=some o→g.get? b=some o)→Q v {s with heap:=g,toks:=t'}):
 wpAny (model prog w) A (call (.builtin "max") [.ref a] [("default",d)]) Q E s:=by
 have nm:(toString "max"++toString ".loop":String)="max.loop":=by decide
 refine E7 (Di F.plain_max F.entry_max ?_);have body:wpAny (model prog w) A.in1 (Builtin.«max» ⟨[.ref a],[("default",d)]⟩) (λfin s'=>match fin with
  | .done f=>(match(Except.ok f:Result) with | .ok (.ret v)=>Q v s' | .ok _=>False | .error e=>E e s')
  | .again c'=>c'.quiet=true∧codeAny (model prog w) A c' (λr s'=>match r with | .ok (.ret v)=>Q v s' | .ok _=>False | .error e=>E e s') s') E s:=by
  show wpAny _ A.in1 (CT "max" ["key","default"] 0 ⟨[],[("default",d)]⟩>>=_) _ _ s;refine Aa (Dv (show CT "max" ["key","default"] 0 ⟨[],[("default",d)]⟩=pure [none,some d] from rfl) ?_);refine Aa (Ac ?_);refine Aa (Ed hl ?_);refine Aa (AM ?_);rw[nm];obtain⟨o,ho,_⟩:=id hl;have lt:=Am ho;have sz:(s.heap.push {cls:= .type "list_iterator",data:= .fields #[.ref a,.int 0 0]}).objs.size=s.heap.objs.size+1:=BB _ _;have kp:∀b o',s.heap.get? b=some o'→((s.heap.push {cls:= .type "list_iterator",data:= .fields #[.ref a,.int 0 0]}).push {cls:= .type "list",dict:=none,data:= .seq ([]:List Value).toArray}).get? b=some o':=
   λb o' e=>Ad _ (Ad _ e)
  refine Ac ⟨Bj CL _,zjC d (Walks.list (A:=A.in1) hh s.heap.objs.size a (Ar lt) its) bt cm _ ?_
   ⟨⟨_,Ad _ (Ak _ rfl),rfl,rfl⟩,hl.at λo' e=>kp a o' e⟩ (Ak _ rfl) λv g t' h1 h2 h3=>?_⟩
  · show(s.heap.push _).objs.size ∉ [s.heap.objs.size,a];rw[sz];intro z;rcases Aw.mp z with z | z
    · exact Nat.succ_ne_self _ z
    · have z':=Aj.mp z;rw[←z'] at lt;exact absurd lt (Nat.not_lt.mpr (CS _))
  · refine fin v g t' h1 h2 λb o' e=>h3 b o' ?_ ?_ (kp b o' e)
    · intro z;exact absurd (Aj.mp z) (Ar (Am e))
    · have:=Am e;show b≠(s.heap.push _).objs.size;rw[sz];exact Ar (De this)
 simp only[checkBuiltinCall,F.kind_max];cases hsig:GP "max" with
 | none=>exact Ac body
 | some sig=>
  have ha':Bind.checkArgs "max" sig ⟨[.ref a],[("default",d)]⟩=pure ():=by have:=zjD (.ref a) d;simpa only[argsOk,hsig] using this
  simp only[ha'];exact Ac body
end
section
variable{R:Result→Shared→Prop}{J:Addr}{fo wo:List Addr}{len:Nat}{At:Nat→Value→Prop}{Sx:Nat→Heap→Prop}
theorem zkP(kw:List (Str×Value))(Z:Walks prog w A.in1 J fo wo len At Sx)(bt:Nat→Nat→Bool)(cm:CmpOf prog w A.in1 .Lt At bt)(B:Addr)(nB:B ∉ fo):
 ∀(k j:Nat)(s:Shared)(best:Value)(c:Nat),len - (j+1)=k→j+1≤len→Sx (j+1) s.heap→At (argBest bt j) best→
 s.heap.get? B=some {cls:= .type "list",dict:=none,data:= .seq #[best,best] c,slots:=#[]}→
 (∀v g t',At (argBest bt (len - 1)) v→(∀b o,b ∉ wo→b≠B→s.heap.get? b=some o→g.get? b=some o)→R (.ok (.ret v)) {s with heap:=g,toks:=t'})→
 codeAny (model prog w) A (.builtin "min.loop" ⟨[.ref J,.none,.ref B],kw⟩) R s:=by
 have nW:B ∉ wo:=λz=>nB (Z.sub _ z);have nm:(toString "min"++toString ".loop":String)="min.loop":=by decide
 intro k
 induction k with
 | zero=>
  intro j s best c e0 e1 sx ab eB fin;have last:j+1=len:=by omega
  refine Bf FN ?_;rw[AO CM _];show wpAny _ _ (seqItems? (.ref B)>>=_) _ _ _;refine Aa (AW eB rfl ?_);show wpAny _ _ (tryCatch (pyNext (.ref J)) _>>=_) _ _ _;refine Aa (Ci (Z.done s _ _ (last ▸ sx) λg t' kp=>?_));have eB':=kp B _ nW eB;show wpAny _ _ (updateSeq B (λ_=>#[])>>=_) _ _ _;refine Aa ?_;refine Cb eB' rfl (Aa (Ch (Ac ?_)));exact fin best _ t' (by rw[←last];exact ab) λb o h1 h2 e=>(AT _ _ (BI h2)).trans (kp b o h1 e)
 | succ k ih=>
  intro j s best c e0 e1 sx ab eB fin;have more:j+1<len:=by omega
  refine Bf FN ?_;rw[AO CM _];show wpAny _ _ (seqItems? (.ref B)>>=_) _ _ _;refine Aa (AW eB rfl ?_);show wpAny _ _ (tryCatch (pyNext (.ref J)) _>>=_) _ _ _;refine Aa (Ci (Z.item (j+1) s _ _ more sx λv g t' av sx' kp=>?_));have eB':=kp B _ nW eB;show wpAny _ _ (tryCatch (holding [v,v] (richCompare .Lt v best>>=_)) _>>=_) _ _ _;refine Aa (Ci (AN (Aa (cm (j+1) (argBest bt j) v best _ _ _ av ab ?_))));refine Aa (AN (Bk ?_));refine Aa (Ch (Ac ?_));cases hb:bt (j+1) (argBest bt j) with
  | true=>
   simp only[if_true];refine Aa ?_;refine Cb eB' rfl (Aa (Ch ?_));rw[nm];refine Ac ⟨Bj CM _,ih (j+1) _ v _ (by omega) more (Z.frame _ _ _ sx' λb h1 o e=>?_) (by simp only[argBest,hb,if_true];exact av) (Bb _ eB' rfl)
    λv' g' t'' av' kp'=>?_⟩
   · exact(AT _ _ (λz:B=b=>nB (by rw[z];exact h1))).trans e
   · exact fin v' g' t'' av' λb o h1 h2 e=>kp' b o h1 h2 ((AT _ _ (BI h2)).trans (kp b o h1 e))
  | false=> simp only[AR,if_false];refine Aa (Ch ?_);rw[nm];refine Ac ⟨Bj CM _,ih (j+1) _ best c (by omega) more sx' (by simp only[argBest,hb,AR,if_false];exact ab) eB' λv' g' t'' av' kp'=>?_⟩;exact fin v' g' t'' av' λb o h1 h2 e=>kp' b o h1 h2 (kp b o h1 e)
theorem zjy(d:Value)(Z:Walks prog w A.in1 J fo wo len At Sx)(bt:Nat→Nat→Bool)(cm:CmpOf prog w A.in1 .Lt At bt)(B:Addr)(nB:B ∉ fo){c:Nat}(sx:Sx 0 s.heap)
 (eB:s.heap.get? B=some {cls:= .type "list",dict:=none,data:= .seq #[] c,slots:=#[]})
 (fin:∀v g t',(len=0→v=d)→(0<len→At (argBest bt (len - 1)) v)→(∀b o,b ∉ wo→b≠B→s.heap.get? b=some o→g.get? b=some o)→R (.ok (.ret v)) {s with heap:=g,toks:=t'}):
 codeAny (model prog w) A (.builtin "min.loop" ⟨[.ref J,.none,.ref B],[("default",d)]⟩) R s:=by
 have nW:B ∉ wo:=λz=>nB (Z.sub _ z);have nm:(toString "min"++toString ".loop":String)="min.loop":=by decide
 refine Bf FN ?_;rw[AO CM _];show wpAny _ _ (seqItems? (.ref B)>>=_) _ _ _;refine Aa (AW eB rfl ?_);show wpAny _ _ (tryCatch (pyNext (.ref J)) _>>=_) _ _ _;by_cases hl:len=0
 · refine Aa (Ci (Z.done s _ _ (hl ▸ sx) λg t' kp=>?_));refine Aa (BA (Ac ?_));exact fin d g t' (λ_=>rfl) (λz=>by omega) λb o h1 _ e=>kp b o h1 e
 · refine Aa (Ci (Z.item 0 s _ _ (by omega) sx λv g t' av sx' kp=>?_));have eB':=kp B _ nW eB;show wpAny _ _ (updateSeq B (λ_=>#[v,v])>>=_) _ _ _;refine Aa ?_;refine Cb eB' rfl ?_;rw[nm];refine Ac ⟨Bj CM _,zkP [("default",d)] Z bt cm B nB _ 0 _ v _ rfl (by omega) (Z.frame _ _ _ sx' λb h1 o e=>?_) av (Bb _ eB' rfl) λv' g' t'' av' kp'=>?_⟩
   · exact(AT _ _ (λz:B=b=>nB (by rw[z];exact h1))).trans e
   · exact fin v' g' t'' (λz=>by omega) (λ_=>av') λb o h1 h2 e=>kp' b o h1 h2 ((AT _ _ (BI h2)).trans (kp b o h1 e))
theorem zjz(a d:Value):argsOk "min" ⟨[a],[("default",d)]⟩:=by unfold argsOk;kernel_rfl
theorem zhU{E:Value→Shared→Prop}{its:Array Value}{d:Value}{Q:Value→Shared→Prop}(hh:A.handled=none)(hl:s.heap.IsList a its)(bt:Nat→Nat→Bool)
 (cm:CmpOf prog w A.in1 .Lt (λi v=>its[i]?=some v) bt)
 (fin:∀v g t',(its.size=0→v=d)→(0<its.size→its[argBest bt (its.size - 1)]?=some v)→(∀b o,s.heap.get? b=some o→g.get? b=some o)→Q v {s with heap:=g,toks:=t'}):
 wpAny (model prog w) A (call (.builtin "min") [.ref a] [("default",d)]) Q E s:=by
 have nm:(toString "min"++toString ".loop":String)="min.loop":=by decide
 refine E7 (Di F.plain_min F.entry_min ?_);have body:wpAny (model prog w) A.in1 (Builtin.«min» ⟨[.ref a],[("default",d)]⟩) (λfin s'=>match fin with
  | .done f=>(match(Except.ok f:Result) with | .ok (.ret v)=>Q v s' | .ok _=>False | .error e=>E e s')
  | .again c'=>c'.quiet=true∧codeAny (model prog w) A c' (λr s'=>match r with | .ok (.ret v)=>Q v s' | .ok _=>False | .error e=>E e s') s') E s:=by
  show wpAny _ A.in1 (CT "min" ["key","default"] 0 ⟨[],[("default",d)]⟩>>=_) _ _ s;refine Aa (Dv (show CT "min" ["key","default"] 0 ⟨[],[("default",d)]⟩=pure [none,some d] from rfl) ?_);refine Aa (Ac ?_);refine Aa (Ed hl ?_);refine Aa (AM ?_);rw[nm];obtain⟨o,ho,_⟩:=id hl;have lt:=Am ho;have sz:(s.heap.push {cls:= .type "list_iterator",data:= .fields #[.ref a,.int 0 0]}).objs.size=s.heap.objs.size+1:=BB _ _;have kp:∀b o',s.heap.get? b=some o'→((s.heap.push {cls:= .type "list_iterator",data:= .fields #[.ref a,.int 0 0]}).push {cls:= .type "list",dict:=none,data:= .seq ([]:List Value).toArray}).get? b=some o':=
   λb o' e=>Ad _ (Ad _ e)
  refine Ac ⟨Bj CM _,zjy d (Walks.list (A:=A.in1) hh s.heap.objs.size a (Ar lt) its) bt cm _ ?_
   ⟨⟨_,Ad _ (Ak _ rfl),rfl,rfl⟩,hl.at λo' e=>kp a o' e⟩ (Ak _ rfl) λv g t' h1 h2 h3=>?_⟩
  · show(s.heap.push _).objs.size ∉ [s.heap.objs.size,a];rw[sz];intro z;rcases Aw.mp z with z | z
    · exact Nat.succ_ne_self _ z
    · have z':=Aj.mp z;rw[←z'] at lt;exact absurd lt (Nat.not_lt.mpr (CS _))
  · refine fin v g t' h1 h2 λb o' e=>h3 b o' ?_ ?_ (kp b o' e)
    · intro z;exact absurd (Aj.mp z) (Ar (Am e))
    · have:=Am e;show b≠(s.heap.push _).objs.size;rw[sz];exact Ar (De this)
 simp only[checkBuiltinCall,F.kind_min];cases hsig:GP "min" with
 | none=>exact Ac body
 | some sig=>
  have ha':Bind.checkArgs "min" sig ⟨[.ref a],[("default",d)]⟩=pure ():=by have:=zjz (.ref a) d;simpa only[argsOk,hsig] using this
  simp only[ha'];exact Ac body
end
noncomputable def Nu(lt:Int→Int→Bool):Int→List Int→Int
 | b,[]=>b
 | b,x::r=>Nu lt (if lt x b then x else b) r
theorem WC(lt:Int→Int→Bool)(ns:List Int)(d0:Int):∀k,k<ns.length→
 ns.getD (argBest (λi j=>lt (ns.getD i d0) (ns.getD j d0)) k) d0=Nu lt (ns.getD 0 d0) ((ns.drop 1).take k)∧argBest (λi j=>lt (ns.getD i d0) (ns.getD j d0)) k<ns.length:=by
 have snoc:∀(l:List Int)(b x:Int),Nu lt b (l++[x])=if lt x (Nu lt b l) then x else Nu lt b l:=by
  intro l
  induction l with
  | nil=>intro b x;rfl
  | cons y r ih=>intro b x;exact ih _ x
 intro k
 induction k with
 | zero=>intro h;exact⟨rfl,h⟩
 | succ k ih=>
  intro h;obtain⟨i1,i2⟩:=ih (by omega);have e:(ns.drop 1).take (k+1)=(ns.drop 1).take k++[ns.getD (k+1) d0]:=by
   rw[List.take_succ,List.getElem?_drop,Al (by omega)];have:(1+k)=k+1:=by omega
   simp[this,AS,Al h]
  rw[e,snoc,←i1];show ns.getD (if lt (ns.getD (k+1) d0) (ns.getD (argBest _ k) d0)=true then k+1 else argBest _ k) d0=_∧(if lt (ns.getD (k+1) d0) (ns.getD (argBest _ k) d0)=true then k+1 else argBest _ k)<_
  by_cases hb:lt (ns.getD (k+1) d0) (ns.getD (argBest (λi j=>lt (ns.getD i d0) (ns.getD j d0)) k) d0)=true
  · rw[if_pos hb,if_pos hb];exact⟨rfl,h⟩
  · rw[if_neg hb,if_neg hb];exact⟨rfl,i2⟩
noncomputable def OU(lt:Int→Int→Bool)(ns:List Int)(d:V):V:=match ns with
 | []=>d
 | x::r=> .int (Nu lt x r)
theorem NC{ns:List Int}{its:List Value}(r:Vals (ns.map V.int) its){v:Value}(h:its.toArray[i]?=some v):∃t,v=Value.int (ns.getD i 0) t:=by
 have hi:its[i]?=some v:=by simpa using h
 have hl:i<its.length:=(An.mp hi).1;have ll:=r.length;rw[Ab] at ll;have e:(ns.map V.int)[i]?=some (.int (ns.getD i 0)):=by rw[Af,Al (by omega),AS,Al (by omega)];rfl
 obtain⟨u,h1,h2⟩:=Vals.get r e;rw[hi] at h1;cases h1;exact h2
noncomputable def Pc(X:Cx)(f:Value)(ks:List Str)(r:List V→List V→Hp→VK→Prop):Prop:=
 ∀(pins:List (Addr×Obj))(s:Shared)(σ:St)(H:Hp)(xs zs:List V)(us ws:List Value)(Q:VK),Inv X pins σ H s→Vals xs us→Vals zs ws→r xs zs H Q→wpAny (model X.prog X.w) X.A (call f us (ks.zip ws)) (EP X pins σ Q) X.xe s
noncomputable def RX(r:List V→List V→Hp→VK→Prop)(t tk:TA):TE:=λσ H Q=>t σ H λvs H1=>tk σ H1 λzs H2=>r vs zs H2 Q
theorem Rf{id:String}{ks:List Str}{r:List V→List V→Hp→VK→Prop}{es:List Expr}{kws:List Keyword}{t tk:TA}{p pos:Pos}(hc:Pc X (.builtin id) ks r)(hg:Gl X x)(hm:X.mg x=none)(hv:Bh x=some (.builtin id))(ha:PA X (e::es) t)(hkw:PK X kws tk)
 (hks:(backToKw pos (keywordEach kws X.env)).filterMap (·.1)=ks:=by rfl) (hn:x≠"__name__":=by decide) (hdb:(x==("__debug__":Str))=false:=by decide)
 (he:backTo pos (AL (e::es) X.env)=(false,eval e X.env)::backTo pos (AL es X.env):=by rfl) (hpl:(backTo pos (AL (e::es) X.env)).any (·.1)=false:=by rfl)
 (hall:(backToKw pos (keywordEach kws X.env)).all (·.1.isSome)=true:=by rfl) (hkn:(backToKw pos (keywordEach kws X.env)).any (·.1.isNone)=false:=by rfl):
 PE X (.Call (.Name x p) (e::es) kws pos) (RX r t tk):=by
 intro pins s σ H Q I h;refine Cr (LI I hg hm hv ?_ hn hdb);refine callWith_kw (IG (ha pos pins s σ H _ I h) λus s1 ⟨vs,H1,I1,r1,q1⟩=>?_) he hpl hall hkn;refine IG (hkw pos pins s1 σ H1 _ I1 q1) λws s2 ⟨zs,H2,I2,r2,q2⟩=>?_;rw[hks];exact hc pins s2 σ H2 vs zs us ws Q I2 r1 r2 q2
theorem ZV(hc:X.calm=true):Pc X (.builtin "max") ["default"] (λxs zs H Q=>∃a ns d,xs=[.ref a]∧zs=[d]∧SqL X.K H a (ns.map V.int)∧Q (OU (λi j=>decide (j<i)) ns d) H):=by
 intro pins s σ H xs zs us ws Q I r1 r2 h;obtain⟨a,ns,d,rfl,rfl,hq,q⟩:=h;obtain⟨u,rfl,ru⟩:=KA r1;obtain⟨z,rfl,rz⟩:=KA r2;cases ru;obtain⟨its,rv,p,_⟩:=I.list hq;have ll:=rv.length;rw[Ab] at ll;refine zhV (I.ok.hd hc) p.isList (λi j=>decide (ns.getD j 0<ns.getD i 0)) (λi j vi vj s' Q' E' hi hj q'=>?_) λv g t' h1 h2 h3=>?_
 · obtain⟨t1,rfl⟩:=NC rv hi;obtain⟨t2,rfl⟩:=NC rv hj;exact gt_int q'
 · refine⟨_,H,I.kept h3,?_,q⟩;cases ns with
   | nil=>
    have e:its.toArray.size=0:=by simp;simpa using ll.symm
    rw[h1 e];exact rz
   | cons x rr=>
    simp only[AA] at ll;have e:0<its.toArray.size:=by simp;omega
    have hv:=h2 e;obtain⟨t,rfl⟩:=NC rv hv;have ee:its.toArray.size - 1=rr.length:=by simp;omega
    rw[ee];have:=(WC (λi j=>decide (j<i)) (x::rr) 0 rr.length (by simp)).1;have e2:((x::rr).drop 1).take rr.length=rr:=by simp
    rw[e2] at this;refine⟨t,?_⟩;rw[this];rfl
theorem ZX(hc:X.calm=true):Pc X (.builtin "min") ["default"] (λxs zs H Q=>∃a ns d,xs=[.ref a]∧zs=[d]∧SqL X.K H a (ns.map V.int)∧Q (OU (λi j=>decide (i<j)) ns d) H):=by
 intro pins s σ H xs zs us ws Q I r1 r2 h;obtain⟨a,ns,d,rfl,rfl,hq,q⟩:=h;obtain⟨u,rfl,ru⟩:=KA r1;obtain⟨z,rfl,rz⟩:=KA r2;cases ru;obtain⟨its,rv,p,_⟩:=I.list hq;have ll:=rv.length;rw[Ab] at ll;refine zhU (I.ok.hd hc) p.isList (λi j=>decide (ns.getD i 0<ns.getD j 0)) (λi j vi vj s' Q' E' hi hj q'=>?_) λv g t' h1 h2 h3=>?_
 · obtain⟨t1,rfl⟩:=NC rv hi;obtain⟨t2,rfl⟩:=NC rv hj;exact lt_int q'
 · refine⟨_,H,I.kept h3,?_,q⟩;cases ns with
   | nil=>
    have e:its.toArray.size=0:=by simp;simpa using ll.symm
    rw[h1 e];exact rz
   | cons x rr=>
    simp only[AA] at ll;have e:0<its.toArray.size:=by simp;omega
    have hv:=h2 e;obtain⟨t,rfl⟩:=NC rv hv;have ee:its.toArray.size - 1=rr.length:=by simp;omega
    rw[ee];have:=(WC (λi j=>decide (i<j)) (x::rr) 0 rr.length (by simp)).1;have e2:((x::rr).drop 1).take rr.length=rr:=by simp
    rw[e2] at this;refine⟨t,?_⟩;rw[this];rfl
theorem zjj(I:Inv X pins σ H s)(A:BE)(d e:PD)(v w:V)(u y:Value)(h:Rep X.K H d v)(h':Rep X.K H e w)(r:RelV v u)(r':RelV w y)(z:A.units+Jv d<cLine):SeqAt.RcNeAt A s u y (!IK d e):=by
 cases d with
 | non=>
  rw[Rep] at h;subst h;cases r;cases e with
  | non=> rw[Rep] at h';subst h';cases r';rw[IK];exact SeqAt.RcNeAt.none_none
  | bl b=> rw[Rep] at h';subst h';cases r';exact SeqAt.RcNeAt.none_bool b
  | int b=> rw[Rep] at h';subst h';obtain⟨t,rfl⟩:=r';exact SeqAt.RcNeAt.none_int b t
  | str b=> rw[Rep] at h';subst h';obtain⟨t,rfl⟩:=r';exact SeqAt.RcNeAt.none_str b t
  | lst es=> rw[Rep] at h';obtain⟨b,ys,rfl,q',qs'⟩:=h';cases r';obtain⟨its',rv',p',_⟩:=I.list q';exact SeqAt.RcNeAt.none_list p'.isList (by omega)
  | tup es=> rw[Rep] at h';obtain⟨b,ys,rfl,q',qs'⟩:=h';cases r';obtain⟨its',rv',p',_⟩:=I.tuple q';exact SeqAt.RcNeAt.none_tuple p' (by omega)
 | bl c=>
  rw[Rep] at h;subst h;cases r;cases e with
  | non=> rw[Rep] at h';subst h';cases r';exact SeqAt.RcNeAt.bool_none c
  | bl b=> rw[Rep] at h';subst h';cases r';exact SeqAt.RcNeAt.bool_bool c b
  | int b=> rw[Rep] at h';subst h';obtain⟨t,rfl⟩:=r';exact SeqAt.RcNeAt.bool_int c b t
  | str b=> rw[Rep] at h';subst h';obtain⟨t,rfl⟩:=r';exact SeqAt.RcNeAt.bool_str c b t
  | lst es=> rw[Rep] at h';obtain⟨b,ys,rfl,q',qs'⟩:=h';cases r';obtain⟨its',rv',p',_⟩:=I.list q';exact SeqAt.RcNeAt.bool_list c p'.isList (by omega)
  | tup es=> rw[Rep] at h';obtain⟨b,ys,rfl,q',qs'⟩:=h';cases r';obtain⟨its',rv',p',_⟩:=I.tuple q';exact SeqAt.RcNeAt.bool_tuple c p' (by omega)
 | int c=>
  rw[Rep] at h;subst h;obtain⟨tc,rfl⟩:=r;cases e with
  | non=> rw[Rep] at h';subst h';cases r';exact SeqAt.RcNeAt.int_none c tc
  | bl b=> rw[Rep] at h';subst h';cases r';exact SeqAt.RcNeAt.int_bool c tc b
  | int b=> rw[Rep] at h';subst h';obtain⟨t,rfl⟩:=r';exact SeqAt.RcNeAt.int_int c tc b t
  | str b=> rw[Rep] at h';subst h';obtain⟨t,rfl⟩:=r';exact SeqAt.RcNeAt.int_str c tc b t
  | lst es=> rw[Rep] at h';obtain⟨b,ys,rfl,q',qs'⟩:=h';cases r';obtain⟨its',rv',p',_⟩:=I.list q';exact SeqAt.RcNeAt.int_list c tc p'.isList (by omega)
  | tup es=> rw[Rep] at h';obtain⟨b,ys,rfl,q',qs'⟩:=h';cases r';obtain⟨its',rv',p',_⟩:=I.tuple q';exact SeqAt.RcNeAt.int_tuple c tc p' (by omega)
 | str c=>
  rw[Rep] at h;subst h;obtain⟨tc,rfl⟩:=r;cases e with
  | non=> rw[Rep] at h';subst h';cases r';exact SeqAt.RcNeAt.str_none c tc
  | bl b=> rw[Rep] at h';subst h';cases r';exact SeqAt.RcNeAt.str_bool c tc b
  | int b=> rw[Rep] at h';subst h';obtain⟨t,rfl⟩:=r';exact SeqAt.RcNeAt.str_int c tc b t
  | str b=> rw[Rep] at h';subst h';obtain⟨t,rfl⟩:=r';exact SeqAt.RcNeAt.str_str c tc b t
  | lst es=> rw[Rep] at h';obtain⟨b,ys,rfl,q',qs'⟩:=h';cases r';obtain⟨its',rv',p',_⟩:=I.list q';exact SeqAt.RcNeAt.str_list c tc p'.isList (by omega)
  | tup es=> rw[Rep] at h';obtain⟨b,ys,rfl,q',qs'⟩:=h';cases r';obtain⟨its',rv',p',_⟩:=I.tuple q';exact SeqAt.RcNeAt.str_tuple c tc p' (by omega)
 | lst ds=>
  rw[Rep] at h;obtain⟨a,xs,rfl,q,qs⟩:=h;cases r;obtain⟨its,rv,p,_⟩:=I.list q;cases e with
  | non=> rw[Rep] at h';subst h';cases r';exact SeqAt.RcNeAt.list_none p.isList (by omega)
  | bl b=> rw[Rep] at h';subst h';cases r';exact SeqAt.RcNeAt.list_bool b p.isList (by omega)
  | int b=> rw[Rep] at h';subst h';obtain⟨t,rfl⟩:=r';exact SeqAt.RcNeAt.list_int b t p.isList (by omega)
  | str b=> rw[Rep] at h';subst h';obtain⟨t,rfl⟩:=r';exact SeqAt.RcNeAt.list_str b t p.isList (by omega)
  | lst es=>
   rw[Rep] at h';obtain⟨b,ys,rfl,q',qs'⟩:=h';cases r';obtain⟨its',rv',p',_⟩:=I.list q';rw[IK];rw[Jv] at z;have l1:=qs.length;have l2:=qs'.length;have l3:=rv.length;have l4:=rv'.length;by_cases hl:ds.length=es.length
   · rw[←MU ds es hl];have:=SeqAt.RcNeAt.lists (e:=M9 ds es) p.isList p'.isList (by simp;omega) (by omega) (λj h1 h2=>?_) (A:=A)
     · simp only[Av] at this;rw[show ds.length=its.length by omega];exact this
     · have:=MW I A.in1 ds es xs ys its its' qs qs' rv rv' (by rw[Bq];omega) j (by simpa using h1) (by simpa using h2);simpa using this
   · rw[M4 hl];exact Fm p.isList p'.isList (by simp;omega) (by omega)
  | tup es=> rw[Rep] at h';obtain⟨b,ys,rfl,q',qs'⟩:=h';cases r';obtain⟨its',rv',p',_⟩:=I.tuple q';exact SeqAt.RcNeAt.list_tuple p.isList p' (by omega)
 | tup ds=>
  rw[Rep] at h;obtain⟨a,xs,rfl,q,qs⟩:=h;cases r;obtain⟨its,rv,p,_⟩:=I.tuple q;cases e with
  | non=> rw[Rep] at h';subst h';cases r';exact SeqAt.RcNeAt.tuple_none p (by omega)
  | bl b=> rw[Rep] at h';subst h';cases r';exact SeqAt.RcNeAt.tuple_bool b p (by omega)
  | int b=> rw[Rep] at h';subst h';obtain⟨t,rfl⟩:=r';exact SeqAt.RcNeAt.tuple_int b t p (by omega)
  | str b=> rw[Rep] at h';subst h';obtain⟨t,rfl⟩:=r';exact SeqAt.RcNeAt.tuple_str b t p (by omega)
  | lst es=> rw[Rep] at h';obtain⟨b,ys,rfl,q',qs'⟩:=h';cases r';obtain⟨its',rv',p',_⟩:=I.list q';exact SeqAt.RcNeAt.tuple_list p p'.isList (by omega)
  | tup es=>
   rw[Rep] at h';obtain⟨b,ys,rfl,q',qs'⟩:=h';cases r';obtain⟨its',rv',p',_⟩:=I.tuple q';rw[IK];rw[Jv] at z;have l1:=qs.length;have l2:=qs'.length;have l3:=rv.length;have l4:=rv'.length;have:=SeqAt.RcNeAt.tuples (e:=M9 ds es) p p' (by omega) (λj h1 h2=>?_) (A:=A)
   · simp only[Av] at this;by_cases hl:ds.length=es.length
     · rw[←MU ds es hl];rw[show min its.length its'.length=ds.length by omega,show(its.length==its'.length)=true by simp;omega,Ew] at this;exact this
     · rw[M4 hl];rw[show(its.length==its'.length)=false by simp;omega,ES] at this;exact this
   · have:=MW I A.in1 ds es xs ys its its' qs qs' rv rv' (by rw[Bq];omega) j (by simpa using h1) (by simpa using h2);simpa using this
noncomputable def KP(X:Cx):Prop:=X.A.units+60<cLine
noncomputable def Na(K:Ae):R2:=λx y H Q=>∃d e,Rep K H d x∧Rep K H e y∧Jv d<60∧Q (.bl (!IK d e)) H
theorem NU(hr:KP X):J2 X (BF .NotEq) (Na X.K):=by intro pins s σ H x y v u Q I rx ry h;obtain⟨d,e,h1,h2,h3,q⟩:=h;unfold KP at hr;exact zjj I X.A d e x y v u h1 h2 rx ry (by omega) X.prog X.w _ _ ⟨.bl _,H,I,rfl,q⟩
theorem KR{k:Nat}(hr:Room k A):A.units+60<cLine:=Bn (GO (by decide:60≤64) _) hr.units
theorem Kg{n:String}:KH X (.builtin "isinstance") (λxs H Q=>∃x t c b,xs=[x,.ty c]∧TyOf X.K H x (.type t)∧PySem.W.kitOne X.K (.type t) (.type c)=some b∧Q (.bl b) H):=by intro pins s σ H xs us Q I r h;obtain⟨x,t,c,b,rfl,ty,e,q⟩:=h;obtain⟨u,w',rfl,ru,rw'⟩:=Nt r;cases rw';exact zk5 I ru ty e λtk=>⟨.bl b,H,I.tok tk,rfl,q⟩
section
variable{K:Ae}{p:Addr}{g:TG}{tc:TT}{te:TE}{Q:VK}
noncomputable abbrev MK(p:Addr)(g:TG)(tc:TT)(te:TE)(ys:List V)(x:V)(σ:St)(H:Hp)(N:St→List V→Hp→Prop):Prop:=
 g x σ H λσ2 H2=>tc σ2 H2 λb H3=>if b=true then te σ2 H3 λy H4=>H4 p=some (.lst ys)∧N σ2 (ys++[y]) (IC H4 p (.lst (ys++[y]))) else N σ2 ys H3
theorem Nv{n:Nat}{J:It}{js:J5}(Pv:Nat→St→List V→Hp→Prop)(h0:Pv 0 (Kf js σ) [] (IC H p (.lst [])))
 (hl:∀i σ ys H,i≤n→Pv i σ ys H→H p=some (.lst ys)∧ys.length<Ay)
 (hgo:∀i σ ys H,i<n→Pv i σ ys H→J.go i H) (hst:∀σ ys H,Pv n σ ys H→J.stop n H)
 (hs:∀(i:Nat)x σ ys H H'(N:St→List V→Hp→Prop),i<n→J.yld i H x H'→Pv i σ ys H→(∀σ' ys' H',Pv (i+1) σ' ys' H'→N σ' ys' H')→MK p g tc te ys x σ H' N)
 (hd:∀σ ys H,Pv n σ ys H→Q (.ref p) H):
 Lf J p js g tc te σ H Q:=by
 refine⟨λi m σ ys H=>m=n - i∧i≤n∧Pv i σ ys H,⟨n,by simp,AK _,h0⟩,?_⟩;rintro i m σ ys H ⟨rfl,hi,pv⟩;obtain⟨q1,q2⟩:=hl i σ ys H hi pv;refine⟨q1,?_⟩;by_cases lt:i<n
 · exact .inr ⟨hgo i σ ys H lt pv,q2,λx H' y=>hs i x σ ys H H' (λσ2 ys2 H2=>∃m',m'<n - i∧m'=n - (i+1)∧i+1≤n∧Pv (i+1) σ2 ys2 H2) lt y pv λσ' ys' H' p'=>⟨n - (i+1),by omega,rfl,lt,p'⟩⟩
 · have e:i=n:=by omega
   subst e;exact .inl ⟨hst σ ys H pv,hd σ ys H pv⟩
theorem Lj{js:J5}(Pv:Nat→St→List V→Hp→Prop)(h0:Pv 0 (Kf js σ) [] (IC H p (.lst [])))
 (hl:∀i σ ys H,i≤xs.length→Pv i σ ys H→SqL K H a xs∧H p=some (.lst ys)∧ys.length<Ay)
 (hs:∀(i:Nat)x σ ys H(N:St→List V→Hp→Prop),xs[i]?=some x→Pv i σ ys H→(∀σ' ys' H',Pv (i+1) σ' ys' H'→N σ' ys' H')→MK p g tc te ys x σ H N)
 (hd:∀σ ys H,Pv xs.length σ ys H→Q (.ref p) H):Lf (Ln K a) p js g tc te σ H Q:=
 Nv (n:=xs.length) (J:=Ln K a) (js:=js) (σ:=σ) (H:=H) (p:=p) (Q:=Q) (g:=g) (tc:=tc) (te:=te) Pv h0 (λi σ ys H hi pv=>(hl i σ ys H hi pv).2)
  (λi σ ys H hi pv=>⟨xs,xs[i],(hl i σ ys H (Bv hi) pv).1,by simp[hi]⟩) (λσ ys H pv=>⟨xs,(hl _ σ ys H (Ah _) pv).1,Ah _⟩)
  (λi x σ ys H H' N hi y pv hN=>by obtain⟨e,y⟩:=y;subst e;exact hs i x σ ys _ N (y xs (hl i σ ys _ (Bv hi) pv).1) pv hN) hd
theorem Pb{js:J5}(Pv:Nat→St→List V→Hp→Prop)(h0:Pv 0 (Kf js σ) [] (IC H p (.lst [])))
 (hl:∀i σ ys H,i≤xs.length→Pv i σ ys H→SqT K H a xs∧H p=some (.lst ys)∧ys.length<Ay)
 (hs:∀(i:Nat)x σ ys H(N:St→List V→Hp→Prop),xs[i]?=some x→Pv i σ ys H→(∀σ' ys' H',Pv (i+1) σ' ys' H'→N σ' ys' H')→MK p g tc te ys x σ H N)
 (hd:∀σ ys H,Pv xs.length σ ys H→Q (.ref p) H):Lf (LO K a) p js g tc te σ H Q:=
 Nv (n:=xs.length) (J:=LO K a) (js:=js) (σ:=σ) (H:=H) (p:=p) (Q:=Q) (g:=g) (tc:=tc) (te:=te) Pv h0 (λi σ ys H hi pv=>(hl i σ ys H hi pv).2)
  (λi σ ys H hi pv=>⟨xs,xs[i],(hl i σ ys H (Bv hi) pv).1,by simp[hi]⟩) (λσ ys H pv=>⟨xs,(hl _ σ ys H (Ah _) pv).1,Ah _⟩)
  (λi x σ ys H H' N hi y pv hN=>by obtain⟨e,y⟩:=y;subst e;exact hs i x σ ys _ N (y xs (hl i σ ys _ (Bv hi) pv).1) pv hN) hd
theorem Ps{js:J5}{lo:Int}{n:Nat}(Pv:Nat→St→List V→Hp→Prop)(h0:Pv 0 (Kf js σ) [] (IC H p (.lst [])))
 (hl:∀i σ ys H,i≤n→Pv i σ ys H→H p=some (.lst ys)∧ys.length<Ay)
 (hs:∀(i:Nat)σ ys H(N:St→List V→Hp→Prop),i<n→Pv i σ ys H→(∀σ' ys' H',Pv (i+1) σ' ys' H'→N σ' ys' H')→MK p g tc te ys (.int (lo+i)) σ H N)
 (hd:∀σ ys H,Pv n σ ys H→Q (.ref p) H):Lf (Mn lo n) p js g tc te σ H Q:=
 Nv (n:=n) (J:=Mn lo n) (js:=js) (σ:=σ) (H:=H) (p:=p) (Q:=Q) (g:=g) (tc:=tc) (te:=te) Pv h0 hl
  (λi σ ys H hi pv=>hi) (λσ ys H pv=>Ah n)
  (λi x σ ys H H' N hi y pv hN=>by obtain⟨e,y⟩:=y;subst e y;exact hs i σ ys _ N hi pv hN) hd
end
noncomputable def UU(outer:Scope)(N N':List Str)(js:J5)(scope:Scope):Bool:=
 decide (js.length=N'.length) && (scope.kind== .function) && scope.names.all (λp=>(p.2 != .cell || scope.names.lookup p.1==some .cell) && (p.2 != .local || scope.names.lookup p.1==some .local) && (p.2 != .free || (outer.names.lookup p.1==some .cell || outer.names.lookup p.1==some .free)))
  && (BU js.length).all λi=>match js[i]? with
   | some (some j)=>(match N'[i]? with | some x=>N[j]?==some x && scope.names.lookup x==some .free | none=>false)
   | _=>true
theorem JE{N N':List Str}{js:J5}{outer:Scope}(h:UU outer N N' js scope=true)(hN:X.N=N:=by rfl)(ho:X.env.scope=outer:=by rfl):CapOk X N' js scope:=by
 subst hN ho;unfold UU at h;rw[AF,AF,AF] at h;obtain⟨⟨⟨h1,h2⟩,h3⟩,h4⟩:=h;rw[List.all_eq_true] at h3 h4;refine⟨of_decide_eq_true h1,eq_of_beq h2,λp hp e=>?_,λp hp e=>?_,λp hp e=>?_,λi j e=>?_⟩
 · have:=h3 p hp;rw[e] at this;simp at this;exact this
 · have:=h3 p hp;rw[e] at this;simp at this;exact this
 · have:=h3 p hp;rw[e] at this;simp at this;exact this
 · have hi:i<js.length:=(An.mp e).1;have:=h4 i (CK.mpr hi);rw[e] at this;simp only at this;cases q:N'[i]? with
   | none=>rw[q] at this;cases this
   | some x=> rw[q] at this;simp only[AF,beq_iff_eq] at this;exact⟨x,rfl,this.1,this.2⟩
noncomputable def Jk(P:Bp)(w:World)(K:Ae)(mg:Str→Option Value)(base:Heap)(k:Nat)(x:Str)(ps:List Str)(sp:Sp):Prop:=
 ∃f fd,FnOk P w K mg base Jc k f fd ps sp∧Binds K fd ps []∧ER K (.ref f)=true∧mg x=some (.ref f)
section
variable{k:Nat}{ps:List Str}{sp:Sp}{es:List Expr}{t:TA}{p:Pos}
theorem IS(F:Jk X.prog X.w X.K X.mg X.base k x ps sp)(hr:Room k X.A)(hg:Gl X x)(ha:PA X (e::es) t)(hdb:(x==("__debug__":Str))=false:=by decide)
 (he:AL (e::es) X.env=(false,eval e X.env)::AL es X.env:=by rfl) (hpl:(backTo pos (AL es X.env)).any (·.1)=false:=by rfl):PE X (.Call (.Name x p) (e::es) [] pos) (SO sp [] E0 t):=by
 obtain⟨f,fd,h1,h2,h3,h4⟩:=F;exact Yt h1 hr hg h4 h3 h2 .nil SW ha hdb he hpl
end
structure Bl(mg:Str→Option Value):Prop where
 len_:mg "len"=none
 range_:mg "range"=none
 isinstance_:mg "isinstance"=none
 int_:mg "int"=none
 bool_:mg "bool"=none
 tuple_:mg "tuple"=none
 list_:mg "list"=none
 max_:mg "max"=none
 min_:mg "min"=none
 all_:mg "all"=none
 zip_:mg "zip"=none
 str_:mg "str"=none
 dict_:mg "dict"=none
 sorted_:mg "sorted"=none
 set_:mg "set"=none
 any_:mg "any"=none
 sum_:mg "sum"=none
 enumerate_:mg "enumerate"=none
 repr_:mg "repr"=none
 ord_:mg "ord"=none
 chr_:mg "chr"=none
 abs_:mg "abs"=none
 reversed_:mg "reversed"=none
theorem Pf:Bh "int"=some (.type "int"):=by decide+kernel
theorem Pq:Bh "bool"=some (.type "bool"):=by decide+kernel
theorem Lk:Bh "tuple"=some (.type "tuple"):=by decide+kernel
theorem Mz:Bh "list"=some (.type "list"):=by decide+kernel
theorem O_:Bh "str"=some (.type "str"):=by decide+kernel
theorem X4:Bh "dict"=some (.type "dict"):=by decide+kernel
theorem JT:Bh "isinstance"=some (.builtin "isinstance"):=by decide+kernel
theorem JZ:Bh "len"=some (.builtin "len"):=by decide+kernel
theorem Tf:Bh "max"=some (.builtin "max"):=by decide+kernel
theorem Tg:Bh "min"=some (.builtin "min"):=by decide+kernel
theorem NV:Bh "all"=some (.builtin "all"):=by decide+kernel
theorem P6:Bh "sorted"=some (.builtin "sorted"):=by decide+kernel
theorem MF(h:n≤1000):n≤Ay:=Bv (J7 h)
theorem IM{p:Addr}(h:H p=none)(o:HO):Same H (IC H p o):=λb u q=>by rw[IZ (JY q h)];exact q
noncomputable def eV:Option Int→V
 | none=> .non
 | some i=> .int i
theorem VE(o:Option Int):(!decide (eV o=V.non))=o.isSome:=by
 cases o with
 | none=>rfl
 | some i=>rfl
noncomputable def SameB(b g:Addr)(H H':Hp):Prop:=∀a o,H a=some o→a≠b→a≠g→H' a=some o
theorem SameB.trans{g:Addr}{H1 H2:Hp}(x:SameB b g H H1)(y:SameB b g H1 H2):SameB b g H H2:=λa o h n1 n2=>y a o (x a o h n1 n2) n1 n2
theorem Same.sameB{g:Addr}{H1:Hp}(x:Same H H1):SameB b g H H1:=λa o h _ _=>x a o h
theorem Vp{K:Ae}:∀ns:List Int,Reps K H (ns.map PD.int) (ns.map V.int)
 | []=>by show Reps K H [] [];rw[Reps]
 | n::ns=>by show Reps K H (.int n::ns.map PD.int) (.int n::ns.map V.int);rw[Reps];exact⟨_,_,rfl,by rw[Rep],Vp ns⟩
theorem VV:∀ns:List Int,JF (ns.map PD.int)=0
 | []=>by show JF []=0;rw[JF]
 | n::ns=>by
  show JF (.int n::ns.map PD.int)=0;rw[JF,VV ns,Jv]
  all_goals simp
theorem SV{K:Ae}{p:Addr}{ns:List Int}{Q:VK}(h:SqL K H a (ns.map V.int))(hp:SqL K H p [])(q:Q (.bl (!ns.isEmpty)) H):Na K (.ref a) (.ref p) H Q:=by
 refine⟨.lst (ns.map PD.int),.lst [],by rw[Rep];exact⟨a,_,rfl,h,Vp ns⟩,by rw[Rep];exact⟨p,_,rfl,hp,by rw[Reps]⟩,by rw[Jv,VV];decide,?_⟩;cases ns with
 | nil=>rw[IK,show Jy (([]:List Int).map PD.int) []=true from PF []];exact q
 | cons n ns=>rw[IK,M4 (by simp)];exact q
theorem Qj{α:Type}{x:α}{r:List α}:Km (x::r) 0=some x:=Lg (j:=0) rfl
theorem WG{α:Type}{x:α}{r:List α}:Mh (x::r).length 0=some 0:=by unfold Mh;rw[if_pos (by decide),if_pos (by rw[AA];omega)];rfl
theorem Xe{ls:List Int}{i:Int}(h0:0≤i)(h1:i<(ls.length:Int)):∃v,Km (ls.map V.int) i=some (.int v)∧v∈ls:=by
 obtain⟨k,rfl⟩:=Int.eq_ofNat_of_zero_le h0;have hk:k<ls.length:=by omega
 exact⟨ls[k],Lg (by rw[Af,Al hk];rfl),Ez _⟩
theorem KM:(0:Nat)≤Ay:=AK _
theorem Jt{α:Type}{l:List α}{x:α}(h:l[i]?=some x):l.take (i+1)=l.take i++[x]:=by rw[List.take_succ,h];rfl
theorem Ux{K:Ae}{p:Addr}{Q:VK}{js:J5}{cap:St}{tc:TT}{te:TE}(ns:List Int)(f:Int→Int)(c:Int→Bool)(hn:ns.length≤900)(e:SqL K H a (ns.map V.int))(hp:H p=none)(hσ:Kf js σ=none::cap)
 (ht:∀n H'(R:Bool→Hp→Prop),Same H H'→R (c n) H'→tc (some (.int n)::cap) H' R) (he:∀n H'(R:VK),Same H H'→R (.int (f n)) H'→te (some (.int n)::cap) H' R)
 (hq:∀H',Same H H'→H' p=some (.lst (((ns.filter c).map f).map V.int))→Q (.ref p) H'):Lf (Ln K a) p js (KI 0) tc te σ H Q:=by
 have s0:=IM hp (.lst []);refine Lj (xs:=ns.map V.int) (λi σ' ys H'=>(∃v,σ'=v::cap)∧Same H H'∧H' p=some (.lst ys)∧ys=((((ns.take i).filter c).map f).map V.int)) ⟨⟨_,hσ⟩,s0,IE,rfl⟩ ?_ ?_ ?_
 · rintro i σ' ys H' hi ⟨_,s,h1,h2⟩;refine⟨s.seq e,h1,?_⟩;rw[h2];simp only[Ab];have:=AX c (ns.take i);rw[AE] at this;exact J7 (by omega)
 · rintro i x σ' ys H' N hx ⟨⟨v,rfl⟩,s,h1,h2⟩ hN;rw[Af] at hx;cases hn':ns[i]? with
   | none=>rw[hn'] at hx;cases hx
   | some n=>
    rw[hn'] at hx;have hx:V.int n=x:=A4 hx;subst hx;refine ht n H' _ s ?_;have e1:=Jt hn';cases hc:c n with
    | true=>
     refine ID (he n H' _ s ⟨h1,hN _ _ _ ⟨⟨_,rfl⟩,?_,IE,?_⟩⟩)
     · intro b o q;have:b≠p:=λz=>by rw[z,hp] at q;cases q
       rw[IZ this];exact s b o q
     · rw[h2,e1,BM,BL,if_pos hc];simp
    | false=> refine IA (hN _ _ _ ⟨⟨_,rfl⟩,s,h1,?_⟩);rw[h2,e1,BM,BL,if_neg (by rw[hc];exact Au)];simp
 · rintro σ' ys H' ⟨_,s,h1,h2⟩;refine hq H' s ?_;rw[h1,h2,Ab,Bd]
theorem Uw{K:Ae}{p:Addr}{Q:VK}{js:J5}{cap:St}{tc:TT}{te:TE}(os:List (Option Int))(c:Option Int→Bool)(hn:os.length≤900)(e:SqT K H a (os.map eV))(hp:H p=none)(hσ:Kf js σ=none::cap)
 (mono:∀{H'},Same H H'→SqT K H' a (os.map eV))
 (ht:∀o H'(R:Bool→Hp→Prop),Same H H'→R (c o) H'→tc (some (eV o)::cap) H' R) (he:∀o H'(R:VK),Same H H'→R (eV o) H'→te (some (eV o)::cap) H' R)
 (hq:∀H',Same H H'→H' p=some (.lst ((os.filter c).map eV))→Q (.ref p) H'):Lf (LO K a) p js (KI 0) tc te σ H Q:=by
 have s0:=IM hp (.lst []);refine Pb (xs:=os.map eV) (λi σ' ys H'=>(∃v,σ'=v::cap)∧Same H H'∧H' p=some (.lst ys)∧ys=((os.take i).filter c).map eV) ⟨⟨_,hσ⟩,s0,IE,rfl⟩ ?_ ?_ ?_
 · rintro i σ' ys H' hi ⟨_,s,h1,h2⟩;refine⟨mono s,h1,?_⟩;rw[h2];simp only[Ab];have:=AX c (os.take i);rw[AE] at this;exact J7 (by omega)
 · rintro i x σ' ys H' N hx ⟨⟨v,rfl⟩,s,h1,h2⟩ hN;rw[Af] at hx;cases hn':os[i]? with
   | none=>rw[hn'] at hx;cases hx
   | some n=>
    rw[hn'] at hx;have hx:eV n=x:=A4 hx;subst hx;refine ht n H' _ s ?_;have e1:=Jt hn';cases hc:c n with
    | true=>
     refine ID (he n H' _ s ⟨h1,hN _ _ _ ⟨⟨_,rfl⟩,?_,IE,?_⟩⟩)
     · intro b o q;have:b≠p:=λz=>by rw[z,hp] at q;cases q
       rw[IZ this];exact s b o q
     · rw[h2,e1,BM,BL,if_pos hc];simp
    | false=> refine IA (hN _ _ _ ⟨⟨_,rfl⟩,s,h1,?_⟩);rw[h2,e1,BM,BL,if_neg (by rw[hc];exact Au)];simp
 · rintro σ' ys H' ⟨_,s,h1,h2⟩;refine hq H' s ?_;rw[h1,h2,Ab,Bd]
theorem Same.seqT{K:Ae}{H':Hp}(e:Same H H')(h:SqT K H a xs):SqT K H' a xs:=by
 rcases h with(h | ⟨o,h⟩) | h
 · exact .inl (.inl (e _ _ h))
 · exact .inl (.inr ⟨o,e _ _ h⟩)
 · exact .inr h
noncomputable def OR(xs:List V):It:=⟨λi _=>i<xs.length,λi H x H'=>H'=H∧xs[i]?=some x,λi _=>xs.length≤i⟩
theorem zfq{K:Ae}{tg:Expr}(it:Addr)(x:Str)(t:Tok):Turn P w K tg (OR (x.cps.toList.map λc=>V.str ⟨#[c]⟩)) [it] it (λi h=>h.IsStrIter it "str_ascii_iterator" x t i) where
 mem:=by simp
 obj:=λi h st b hb=>by
  have e:b=it:=by simpa using hb
  subst e;obtain⟨o,e,c,d⟩:=st;exact⟨o,e,λv z=>by rw[d] at z;cases z⟩
 keep:=λi h h' st k=>let⟨o,ho,r⟩:=st;⟨o,k it (by simp) o ho,r⟩
 item:=by
  intro X hP hw hK hc i pins s σ H E I hf st hg;subst hP hw hK;have hg:i<(x.cps.toList.map λc=>V.str ⟨#[c]⟩).length:=hg;rw[Ab,A9] at hg;obtain⟨f0,f1,f2,f3,f4,f5⟩:=hf it (by simp);refine wpAny_pyNext_ascii_item st (c:=x.cps[i]) (by simp[hg]) λh' st' sb=>?_;have I1:Inv X pins σ H {s with heap:=h',toks:=s.toks+1}:=I.turned (λb o hb e=>(sb.2 b hb).trans e) f0 f1 f3 f4 f5
  obtain⟨o,e,c,d⟩:=id st';exact⟨_,rfl,MI (s:={s with heap:=h',toks:=s.toks+1}) e c d (by decide) ⟨.str ⟨#[x.cps[i]]⟩,H,I1,⟨_,rfl⟩,⟨rfl,by rw[Af,Cq,Bi hg];rfl⟩,st',λb hb=>(hf b hb).1⟩⟩
 done:=by intro X hP hw hK hc i pins s σ H E I hf st hg;subst hP hw hK;have hg:(x.cps.toList.map λc=>V.str ⟨#[c]⟩).length≤i:=hg;rw[Ab,A9] at hg;obtain⟨f0,f1,f2,f3,f4,f5⟩:=hf it (by simp);exact wpAny_pyNext_ascii_end (I.ok.hd hc) st (by simpa using hg) λh' eb=>⟨rfl,I.turned (t':=s.toks) (λb o hb e=>eb b o hb e) f0 f1 f3 f4 f5⟩
 self:=λ_ _ _ _ _ st h=>wpAny_pyIter_striter_ascii st h
theorem zgb{K:Ae}{tg:Expr}(it:Addr)(x:Str)(t:Tok):Turn P w K tg (OR (x.cps.toList.map λc=>V.str ⟨#[c]⟩)) [it] it (λi h=>h.IsStrIter it "str_iterator" x t i) where
 mem:=by simp
 obj:=λi h st b hb=>by
  have e:b=it:=by simpa using hb
  subst e;obtain⟨o,e,c,d⟩:=st;exact⟨o,e,λv z=>by rw[d] at z;cases z⟩
 keep:=λi h h' st k=>let⟨o,ho,r⟩:=st;⟨o,k it (by simp) o ho,r⟩
 item:=by
  intro X hP hw hK hc i pins s σ H E I hf st hg;subst hP hw hK;have hg:i<(x.cps.toList.map λc=>V.str ⟨#[c]⟩).length:=hg;rw[Ab,A9] at hg;obtain⟨f0,f1,f2,f3,f4,f5⟩:=hf it (by simp);refine wpAny_pyNext_wide_item st (c:=x.cps[i]) (by simp[hg]) λh' st' sb=>?_;have I1:Inv X pins σ H {s with heap:=h',toks:=s.toks+1}:=I.turned (λb o hb e=>(sb.2 b hb).trans e) f0 f1 f3 f4 f5
  obtain⟨o,e,c,d⟩:=id st';exact⟨_,rfl,MI (s:={s with heap:=h',toks:=s.toks+1}) e c d (by decide) ⟨.str ⟨#[x.cps[i]]⟩,H,I1,⟨_,rfl⟩,⟨rfl,by rw[Af,Cq,Bi hg];rfl⟩,st',λb hb=>(hf b hb).1⟩⟩
 done:=by intro X hP hw hK hc i pins s σ H E I hf st hg;subst hP hw hK;have hg:(x.cps.toList.map λc=>V.str ⟨#[c]⟩).length≤i:=hg;rw[Ab,A9] at hg;obtain⟨f0,f1,f2,f3,f4,f5⟩:=hf it (by simp);exact wpAny_pyNext_wide_end (I.ok.hd hc) st (by simpa using hg) λh' eb=>⟨rfl,I.turned (t':=s.toks) (λb o hb e=>eb b o hb e) f0 f1 f3 f4 f5⟩
 self:=λ_ _ _ _ _ st h=>wpAny_pyIter_striter_wide st h
section
variable{tg:Expr}
noncomputable def signs(x:Str):List V:=x.cps.toList.map λc=>V.str ⟨#[c]⟩
noncomputable def Su(tl:TE):TI:=λσ H R=>tl σ H λv H1=>∃x,v= .str x∧R (OR (signs x)) H1
theorem TJ{l:Expr}{tl:TE}(hl:PE X l tl):PI X tg l (Su tl):=by
 intro pins s σ H R I h;refine IG (hl pins s σ H _ I h) λv s1 ⟨y,H1,I1,r1,q1⟩=>?_;obtain⟨x,e,q⟩:=q1;subst e;obtain⟨t,rfl⟩:=r1;cases ha:x.cps.all (· <128)
 · refine wpAny_pyIter_wide ha ?_;refine⟨s1.heap.objs.size,[s1.heap.objs.size],_,_,H1,rfl,I1.kept (t':=s1.toks) λb o e=>Ad _ e,zgb _ x t,⟨_,Ak _ rfl,rfl,rfl⟩,λb hb=>?_,q⟩;have e:b=s1.heap.objs.size:=by simpa using hb
   subst e;exact I1.fpOk (Ah _) (I1.hok.fresh (Ah _))
 · refine wpAny_pyIter_ascii ha ?_;refine⟨s1.heap.objs.size,[s1.heap.objs.size],_,_,H1,rfl,I1.kept (t':=s1.toks) λb o e=>Ad _ e,zfq _ x t,⟨_,Ak _ rfl,rfl,rfl⟩,λb hb=>?_,q⟩;have e:b=s1.heap.objs.size:=by simpa using hb
   subst e;exact I1.fpOk (Ah _) (I1.hok.fresh (Ah _))
theorem Re:J2 X (BF .LtE) (λx y H Q=>∃i j,x= .str i∧y= .str j∧Q (.bl (!decide (j.cps.toList<i.cps.toList))) H):=by intro pins s σ H x y v u Q I rx ry h;obtain⟨i,j,rfl,rfl,q⟩:=h;obtain⟨t,rfl⟩:=rx;obtain⟨t',rfl⟩:=ry;exact PySem.P.le_str (J8 I q rfl)
theorem Ob(hc:X.calm=true):KH X (.builtin "all") (λxs H Q=>∃(a:Addr)(bs:List Bool),xs=[.ref a]∧SqL X.K H a (bs.map V.bl)∧Q (.bl (bs.all id)) H):=by
 intro pins s σ H xs us Q I r h;obtain⟨a,bs,rfl,hq,q⟩:=h;obtain⟨u,rfl,ru⟩:=KA r;cases ru;obtain⟨its,rv,p,hzz⟩:=I.list hq;have ll:=rv.length;rw[Ab] at ll;refine call_all_walk (Ed p.isList ?_);obtain⟨o,ho,_⟩:=id p.isList;have lt:=Am ho;refine⟨s.heap.objs.size,_,_,_,_,_,λi=>bs.getD i false,rfl,Walks.list (A:=X.A.in1) (I.ok.hd hc) s.heap.objs.size a (Ar lt) its.toArray,⟨⟨_,Ak _ rfl,rfl,rfl⟩,p.isList.at λo' e=>Ad _ e⟩,?_,λg t' k=>?_⟩
 · intro i v s' Q' E' hv q';have hi:its[i]?=some v:=by simpa using hv
   have hl:i<its.length:=(An.mp hi).1;have e:(bs.map V.bl)[i]?=some (.bl (bs.getD i false)):=by rw[Af,Al (by omega),AS,Al (by omega)];rfl
   obtain⟨u,h1,h2⟩:=Vals.get rv e;rw[hi] at h1;cases h1;cases h2;exact Bk q'
 · refine⟨.bl (bs.all id),H,I.kept (λb o' e=>k b o' ?_ (Ad _ e)),?_,q⟩
   · intro z;exact absurd (Aj.mp z) (Ar (Am e))
   · show Value.bool _=Value.bool _;congr 1;rw[Av,←ll];clear rv ll hq q p ho lt hzz
     induction bs with
     | nil=>rfl
     | cons b r ih=> rw[AA,Gp,C5,List.all_map,C5,←ih];rfl
end
theorem Tk{xs:List V}{p:Addr}{g:TG}{tc:TT}{te:TE}{Q:VK}{js:J5}(Pv:Nat→St→List V→Hp→Prop)(h0:Pv 0 (Kf js σ) [] (IC H p (.lst [])))
 (hl:∀i σ ys H,i≤xs.length→Pv i σ ys H→H p=some (.lst ys)∧ys.length<Ay)
 (hs:∀(i:Nat)x σ ys H(N:St→List V→Hp→Prop),xs[i]?=some x→Pv i σ ys H→(∀σ' ys' H',Pv (i+1) σ' ys' H'→N σ' ys' H')→MK p g tc te ys x σ H N)
 (hd:∀σ ys H,Pv xs.length σ ys H→Q (.ref p) H):Lf (OR xs) p js g tc te σ H Q:=
 Nv (n:=xs.length) (J:=OR xs) (js:=js) (σ:=σ) (H:=H) (p:=p) (Q:=Q) (g:=g) (tc:=tc) (te:=te) Pv h0 hl
  (λi σ ys H hi pv=>hi) (λσ ys H pv=>Ah _)
  (λi x σ ys H H' N hi y pv hN=>by obtain⟨e,y⟩:=y;subst e;exact hs i x σ ys _ N y pv hN) hd
section
variable{R:Result→Shared→Prop}
theorem Wz{kx vx target iter:Expr}{ifs:List Expr}{scope:Scope}{pos:Pos}{it:Value}{D:Addr}{env:Env}(I:Nat→Shared→Prop)
 (turn:∀n s,I n s→wpAny (model prog w) A (pyNext it) (λr s₁=>match r with
  | none=>R (.ok .next) s₁
  | some v=>wpAny (model prog w) A (BO target it v) (λ_ s₁'=>wpAny (model prog w) A (assign target env v) (λ_ s₂=>
   wpAny (model prog w) A (forIn ifs true λc r=>if r=true then do let ok ←isTrue c env (eval c env);pure (ForInStep.yield ok) else pure (ForInStep.yield r)) (λok s₃=>
    if ok=true then wpAny (model prog w) A (eval kx env) (λkv s₄=>wpAny (model prog w) A (eval vx env) (λvv s₅=> wpAny (model prog w) A (dictSet D kv vv) (λ_ s₆=>∃m,m<n∧I m s₆) (λ_ _=>False) s₅) (λ_ _=>False) s₄) (λ_ _=>False) s₃
    else ∃m,m<n∧I m s₃) (λ_ _=>False) s₂) (λ_ _=>False) s₁') (λ_ _=>False) s₁) (λ_ _=>False) s)
 (n:Nat) (h:I n s):
 codeAny (model prog w) A (.compLoop (.DictComp kx vx [⟨target,iter,ifs,0⟩] scope pos) 0 it (.ref D) env) R s:=by
 refine DT rfl I (λn s hI=>?_) n h;show wpAny _ A ((compTurn (.DictComp kx vx [⟨target,iter,ifs,0⟩] scope pos) 0 it (.ref D) env).onRaise (λx=>do noteFrame x env;theTreesLotGoes x)) _ _ s
 refine Em ?_;rw[compTurn_dict];refine Aa (Bz (Aa (A5 (turn n s hI) (λr s₁ h₁=>?_) λ_ _ z=>z.elim)));cases r with
 | none=>exact Ac h₁
 | some v=>
  refine Aa (A5 h₁ (λ_ s₁' h₁'=>?_) λ_ _ z=>z.elim);refine Aa (A5 h₁' (λ_ s₂ h₂=>Aa (A5 h₂ (λok s₃ h₃=>?_) λ_ _ z=>z.elim)) λ_ _ z=>z.elim);cases ok with
  | false=>exact Ac ⟨rfl,h₃⟩
  | true=> exact Aa (Aa (A5 h₃ (λkv s₄ h₄=>Aa (AN (A5 h₄ (λvv s₅ h₅=>Aa (Bz (AN (A5 h₅ (λ_ s₆ h₆=>Ac ⟨rfl,h₆⟩) λ_ _ z=>z.elim)))) λ_ _ z=>z.elim))) λ_ _ z=>z.elim))
end
noncomputable def Qs(J:It)(p:Addr)(js:J5)(g:TG)(tc:TT)(tk tv:TE)(σ:St)(H:Hp)(Q:VK):Prop:=
 ∃W:Nat→Nat→St→List (IV×V)→Hp→Prop,(∃m,W 0 m (Kf js σ) [] (IC H p (.dK [])))∧∀i m σ' kvs H,W i m σ' kvs H→H p=some (.dK kvs)∧
  ((J.stop i H∧Q (.ref p) H)∨(J.go i H∧kvs.length<Ay∧∀x H',J.yld i H x H'→g x σ' H' λσ2 H2=>tc σ2 H2 λb H3=>
    if b=true then tk σ2 H3 λk H4=>tv σ2 H4 λy H5=>∃ky,k=kV ky∧H5 p=some (.dK kvs)∧∃m',m'<m∧W (i+1) m' σ2 (Ja kvs ky y) (IC H5 p (.dK (Ja kvs ky y)))
    else ∃m',m'<m∧W (i+1) m' σ2 kvs H3))
noncomputable def tDC(wi:TI)(js:J5)(g:TG)(tc:TT)(tk tv:TE):TE:=λσ H Q=>wi σ H λJ H1=>∀p,H1 p=none→Qs J p js g tc tk tv σ H1 Q
section
variable{tg iter kx vx:Expr}{ifs:List Expr}{wi:TI}{js:J5}{g:TG}{tc:TT}{tk tv:TE}{N':List Str}
theorem Zo{pins:List (Addr×Obj)}{σ:St}{H:Hp}{s:Shared}{E:Value→Shared→Prop}{Q:VK}{J:It}{it:Addr}{fp:List Addr}{tn:Nat→Heap→Prop}{cl:List (Str×Addr)}
 (hc:X.calm=true) (ok:CapOk X N' js scope)
 (h2:∀x c,cl.lookup x=some c→X.env.cells.lookup x=some c) (h3:∀p∈scope.names,p.2= .free→(cl.lookup p.1).isSome=true)
 (hg:∀cl C s₀ H₀ ex,PG (Jh X N' scope cl C s₀ H₀ ex) tg g) (ht:∀cl C s₀ H₀ ex,Jj (Jh X N' scope cl C s₀ H₀ ex) ifs tc) (he:∀cl C s₀ H₀ ex,PE (Jh X N' scope cl C s₀ H₀ ex) kx tk) (hv:∀cl C s₀ H₀ ex,PE (Jh X N' scope cl C s₀ H₀ ex) vx tv)
 (I:Inv X pins σ H s) (T:Turn X.prog X.w X.K tg J fp it tn) (st:tn 0 s.heap) (hf:∀b∈fp,IJ X pins H b)
 (hw:∀p,H p=none→Qs J p js g tc tk tv σ H Q):
 wpAny (model X.prog X.w) X.A newDict (λacc s₃=>wpAny (model X.prog X.w) X.A (newFunctionEnv scope X.env.globals cl [] X.env.qual none .none (some X.env)) (λcenv s₄=>
  codeAny (model X.prog X.w) X.A (.compStart (.DictComp kx vx [⟨tg,iter,ifs,0⟩] scope pos) 0 (.ref it) acc {cenv with scope:=relabel scope X.env})
   (λr s'=>r= .ok .next∧(∃m,s'.heap.Ns cenv.locals m)∧∃v H',RelV v acc∧Inv X pins σ H' s'∧IJ X pins H' cenv.locals∧Q v H') s₄) E s₃) E s:=by
 have objs:=T.obj _ _ st;refine AM ?_;obtain⟨W,⟨m0,w0⟩,turn⟩:=hw s.heap.objs.size (I.hok.fresh (Ah _));generalize hp:s.heap.objs.size=p at*;have kp:∀b u,s.heap.get? b=some u→(s.heap.push {cls:= .type "dict",data:= .dict #[]}).get? b=some u:=λb u e=>Ad _ e;have I3:Inv X pins σ (IC H p (.dK [])) {s with heap:=s.heap.push {cls:= .type "dict",data:= .dict #[]}}:=by subst hp;exact I.laid (t':=s.toks) kp (Ah _) (UX s.heap I.big)
 have fne:∀b∈fp,b≠p:=λb hb=>by obtain⟨o,e,_⟩:=objs b hb;have:=Am e;rw[←hp];exact Ar this
 have hf3:∀b∈fp,IJ X pins (IC H p (.dK [])) b:=λb hb=>⟨by rw[IZ (fne b hb)];exact(hf b hb).1,(hf b hb).2⟩;have st3:tn 0 (s.heap.push {cls:= .type "dict",data:= .dict #[]}):=T.keep _ _ _ st λb _ o e=>kp b o e;have lt3:∀b∈fp,b<(s.heap.push {cls:= .type "dict",data:= .dict #[]}).objs.size:=λb hb=>by obtain⟨o,e,_⟩:=objs b hb;exact Am (kp b o e)
 generalize hs3:({s with heap:=s.heap.push {cls:= .type "dict",data:= .dict #[]}}:Shared)=s3 at*
 have eh:s.heap.push {cls:= .type "dict",data:= .dict #[]}=s3.heap:=by rw[←hs3]
 rw[eh] at st3 lt3;refine Oo ok.cells λcl h₁ hns₁ k4 oc=>?_;have I4:=Oh (cl:=cl) (h₁:=h₁) (t':=s3.toks+([]:List (Str×Value)).length) ok I3 h2 h3 hf3 lt3 k4 hns₁ oc;have st4:tn 0 h₁:=T.keep _ _ _ st3 λb _ o e=>k4 b o e;generalize hX:Jh X N' scope cl s3.heap.objs.size s3 (IC H p (.dK [])) fp=X' at I4;have hg':PG X' tg g:=by rw[←hX];exact hg _ _ _ _ _
 have ht':Jj X' ifs tc:=by rw[←hX];exact ht _ _ _ _ _
 have he':PE X' kx tk:=by rw[←hX];exact he _ _ _ _ _
 have hv':PE X' vx tv:=by rw[←hX];exact hv _ _ _ _ _
 have eP:X'.prog=X.prog:=by rw[←hX];rfl
 have ew:X'.w=X.w:=by rw[←hX];rfl
 have eK:X'.K=X.K:=by rw[←hX];rfl
 have ec:X'.calm=true:=by rw[←hX];exact hc
 have eA:X'.A=X.A:=by rw[←hX];rfl
 have ex:X'.xe=λ_ _=>False:=by rw[←hX];rfl
 have eE:X'.env=compEnvC scope cl s3.heap.objs.size X.env:=by rw[←hX];rfl
 have eEx:X'.ex=fp:=by rw[←hX];rfl
 have eN:X'.pn=[]:=by rw[←hX];rfl
 have stat:∀{H':Hp},(∀b∈fp,H' b=none)→∀b∈fp,IJ X' [] H' b:=λ{H'}hn b hb=>by have okc:=I4.ok;refine⟨hn b hb,(okc.exf b (by rw[eEx];exact hb)).1,okc.exfs b (by rw[eEx];exact hb),.inl (by rw[eEx];exact hb),(okc.exf b (by rw[eEx];exact hb)).2,λq hq=>?_⟩;rw[eN] at hq;cases hq
 have loop:∀s₄:Shared,s₄={s3 with heap:=h₁,toks:=s3.toks+([]:List (Str×Value)).length}→
  codeAny (model X.prog X.w) X.A (.compLoop (.DictComp kx vx [⟨tg,iter,ifs,0⟩] scope pos) 0 (.ref it) (.ref p) (compEnvC scope cl s3.heap.objs.size X.env))
   (λr s'=>r= .ok .next∧(∃m,s'.heap.Ns s3.heap.objs.size m)∧∃v H',RelV v (.ref p)∧Inv X pins σ H' s'∧IJ X pins H' s3.heap.objs.size∧Q v H') s₄:=by
  rintro s₄ rfl;refine Wz (λn s'=>∃i σ' ys H',Inv X' [] σ' H' s'∧tn i s'.heap∧(∀b∈fp,H' b=none)∧W i n σ' ys H') ?_ m0 ⟨0,_,[],_,I4,st4,λb hb=>(hf3 b hb).1,w0⟩;rintro n s5 ⟨i,σ5,ys,H5,I5,st5,fr5,w5⟩;obtain⟨hp5,tu⟩:=turn i n σ5 ys H5 w5;rcases tu with⟨stop,qn⟩ | ⟨go,hz,step⟩
  · have D:=T.done X' eP ew eK ec i [] s5 σ5 H5 (λ_ _=>False) I5 (stat fr5) st5 stop;rw[eA] at D;refine IG D λr s6 ⟨hr,I6⟩=>?_;subst hr;refine⟨rfl,?_,.ref p,H5,rfl,?_,?_,qn⟩
    · obtain⟨m,hm,_⟩:=I6.loc;rw[eE] at hm;exact⟨m,hm⟩
    · have b6:=I6.base;have ho:=I6.os;have hk:=I6.hok;have hb:=I6.bare;subst hX;exact I3.call' (ch:=fp) ho b6 hk hb λb hb'=>⟨(hf b hb').2.2.2.1,(hf b hb').2.1,(hf b hb').2.2.2.2.1,(hf b hb').2.2.2.2.2⟩
    · have fr:=I6.free;rw[eE] at fr;exact I3.fpOk (Ah _) fr
  · have D:=T.item X' eP ew eK ec i [] s5 σ5 H5 (λ_ _=>False) I5 (stat fr5) st5 go;rw[eA] at D;refine IG D λr s6 ⟨u,hr,h6⟩=>?_;subst hr;refine IG h6 λ_ s7 ⟨x,H7,I7,r7,y7,st7,fr7⟩=>?_;have I7':=I7.pinned (stat fr7) (T.obj _ _ st7);have G:=hg' _ s7 σ5 H7 x u _ I7' r7 (step x H7 y7);rw[eP,ew,eA,ex,eE] at G;refine IG G λ_ s8 ⟨σ8,H8,I8,q8⟩=>?_;have Tt:=ht' _ s8 σ8 H8 _ I8 q8;rw[eP,ew,eA,ex,eE] at Tt;refine IG Tt λb s9 ⟨H9,I9,q9⟩=>?_;have again:∀{s':Shared}{ys':List (IV×V)}{H':Hp},Inv X' ([]++Ki fp s7.heap) σ8 H' s'→(∃m',m'<n∧W (i+1) m' σ8 ys' H')→
     ∃m,m<n∧∃i σ' ys H',Inv X' [] σ' H' s'∧tn i s'.heap∧(∀b∈fp,H' b=none)∧W i m σ' ys H':=λ{s' ys' H'}I' ⟨m',hm,w'⟩=>by
     refine⟨m',hm,i+1,σ8,ys',H',I'.unpinned,T.keep _ _ _ st7 λb hb o e=>(I'.pin (b,o) (Ai _ (Ai _ (K9 hb e)))).1,λb hb=>?_,w'⟩;obtain⟨o,e,d⟩:=T.obj _ _ st7 b hb;exact(I'.pin (b,o) (Ai _ (Ai _ (K9 hb e)))).2.1
    cases b with
    | false=>exact again I9 q9
    | true=>
     have Ee:=he' _ s9 σ8 H9 _ I9 q9;rw[eP,ew,eA,ex,eE] at Ee;show wpAny _ _ _ _ _ _;refine IG Ee λkv s10 ⟨kk,H10,I10,r10,q10⟩=>?_;have Ev:=hv' _ s10 σ8 H10 _ I10 q10;rw[eP,ew,eA,ex,eE] at Ev;refine IG Ev λvv s11 ⟨y,H11,I11,r11,ky,ek,hp11,q11⟩=>?_;subst ek;obtain⟨z0,hd0,vs0,rel0,dd0⟩:=Lq I11.hok hp11;have hz0:vs0.length≤Ay:=by rw[←rel0.length];exact z0
     have hl0:(Ja ys ky y).length≤Ay:=by have:=Os ys ky y;omega
     rw[eP,ew] at dd0;refine wpAny_dictSet_pairs (hsz:=hz0) (MJ r10) dd0 λh' dd' hs'=>?_;have he0:∃q,h'.get? p=some q:=let⟨q,_,_,hq,_⟩:=dd';⟨q,hq⟩;have I12:=Pi (t':=s11.toks+1) I11 (by rw[hp11];exact True.intro) hs' he0 (Qr hl0 hd0 (rel0.put ky r11) (by rw[eP,ew];exact dd'));exact again I12 q11
 exact Gq (loop _ rfl) (T.self _ 0 _ _ _ st4 (loop _ rfl))
theorem WQ(hc:X.calm=true)(ok:CapOk X N' js scope)(hi:PI X tg iter wi)
 (hg:∀cl C s₀ H₀ ex,PG (Jh X N' scope cl C s₀ H₀ ex) tg g) (ht:∀cl C s₀ H₀ ex,Jj (Jh X N' scope cl C s₀ H₀ ex) ifs tc) (he:∀cl C s₀ H₀ ex,PE (Jh X N' scope cl C s₀ H₀ ex) kx tk) (hv:∀cl C s₀ H₀ ex,PE (Jh X N' scope cl C s₀ H₀ ex) vx tv)
 (hs:∀x,Bc iter X.env x=pure x:=by intro _;rfl):PE X (.DictComp kx vx [⟨tg,iter,ifs,0⟩] scope pos) (tDC wi js g tc tk tv):=by
 intro pins s σ H Q I h;obtain⟨cl,c1,c2,c3⟩:=N8 (scope:=scope) I.ok.has ok.free;show wpAny _ X.A (comprehension (.DictComp kx vx [⟨tg,iter,ifs,0⟩] scope pos) scope X.env _ newDict false (eval iter X.env)) _ _ s;refine Cu (use:=none) rfl hs c1 ok.kind ok.names (IG (hi pins s σ H _ I h) λv s1 h1=>IG h1 λitv s2 h2=>?_);obtain⟨it,fp,tn,J,H2,e,I2,T,st2,f2,hw⟩:=h2;subst e;refine A5 (Zo (iter:=iter) (pos:=pos) hc ok c2 c3 hg ht he hv I2 T st2 f2 hw) (λacc s3 h3=>A5 h3 (λcenv s4 h4=>?_) λ_ _ z=>z) λ_ _ z=>z;refine Cg h4 λr s5 h5=>?_;obtain⟨rfl,⟨m,hm⟩,v,H5,rv,I5,f5,q5⟩:=h5;refine⟨m,hm,λh' sb=>?_⟩;obtain⟨f0,f1,_,f3,f4,f6⟩:=f5;exact⟨v,H5,I5.turned (t':=s5.toks) (λb o hb e=>(sb.2 b hb).trans e) f0 f1 f3 f4 f6,rv,q5⟩
end
theorem QF{ti tp:Addr}{k:Nat}{vs:Array Value}{v:Value}{Q:Value→Shared→Prop}(hi:s.heap.IsTupleIter ti tp k)(ht:s.heap.IsTuple tp vs)(hv:vs[k]?=some v)
 (fin:∀g,g.IsTupleIter ti tp (k+1)→Bt ti s.heap g→Q v {s with heap:=g}):wpAny (model prog w) A (A_ (.ref ti)) Q E s:=by
 obtain⟨oi,e1,c1,d1⟩:=id hi;obtain⟨ot,e2,_,nt,d2⟩:=ht;unfold A_;refine Aa (AU (name:=BG "__next__") hi.typeIs Br (AH Br hi.typeIs C4 ?_ (Cy _)));show wpAny _ _ (field (.ref ti) 0>>=_) _ _ s;refine Aa (AY e1 d1 (x:= .ref tp) rfl ?_);show wpAny _ _ (if(Value.ref tp==Value.none)=true then _ else _) _ _ s
 rw[if_neg (show ¬((Value.ref tp==Value.none)=true) from Au)];show wpAny _ _ (field (.ref ti) 1>>=_) _ _ s;refine Aa (AY e1 d1 (x:= .int k 0) rfl ?_);show wpAny _ _ (seqItems? (.ref tp)>>=_) _ _ s;refine Aa (AW e2 d2 ?_);simp only[AZ,hv];refine Aa (BJ e1 d1 (by simp) (Ac ⟨v,rfl,Ac (fin _ ?_ (AQ ..))⟩));exact⟨_,Bb _ e1 (E3 (CU d1 _)),(Fz ..).trans c1,by rw[CU d1];simp[rawInt]⟩
theorem Tl{ti tp:Addr}{k:Nat}{vs:Array Value}{Q:Value→Shared→Prop}(hh:A.handled=none)(hi:s.heap.IsTupleIter ti tp k)(ht:s.heap.IsTuple tp vs)(hv:vs[k]?=none)
 (fin:∀g e,DC ti s.heap g→(∃o,g.get? e=some o∧o.cls= .type "StopIteration")→E (.ref e) {s with heap:=g}):wpAny (model prog w) A (A_ (.ref ti)) Q E s:=by
 obtain⟨oi,e1,c1,d1⟩:=id hi;obtain⟨ot,e2,_,nt,d2⟩:=ht;unfold A_;refine Aa (AU (name:=BG "__next__") hi.typeIs Br (AH Br hi.typeIs C4 ?_ (Cy _)));show wpAny _ _ (field (.ref ti) 0>>=_) _ _ s;refine Aa (AY e1 d1 (x:= .ref tp) rfl ?_);show wpAny _ _ (if(Value.ref tp==Value.none)=true then _ else _) _ _ s
 rw[if_neg (show ¬((Value.ref tp==Value.none)=true) from Au)];show wpAny _ _ (field (.ref ti) 1>>=_) _ _ s;refine Aa (AY e1 d1 (x:= .int k 0) rfl ?_);show wpAny _ _ (seqItems? (.ref tp)>>=_) _ _ s;refine Aa (AW e2 d2 ?_);simp only[AZ,hv];refine Aa (BA (Aa (BJ e1 d1 (by simp) ?_)));show wpAny _ _ (newExc (.type "StopIteration") []>>=_) _ _ _;refine Aa ?_;simp only[newExc,newTuple];refine Aa (AM ?_ (by size_fits));refine Aa (m:=firstArgMember _ _) (Dv (a:=Value.none) (by first | rfl | (simp only[firstArgMember];rfl)) ?_)
 refine AM ?_ (by size_fits);simp only[raiseNew];refine Aa (Fn ?_)
 first | rw[show A.in1.handled=none from hh] | rw[hh]
 refine Aa (Ac (Gr ?_));exact fin _ _ (((AQ ..).extBut.push _).push _) ⟨_,Ak _ rfl,rfl⟩
structure ZA(z a b i j:Addr):Prop where
 az:a≠z
 bz:b≠z
 iz:i≠z
 jz:j≠z
 ab:a≠b
 ai:a≠i
 aj:a≠j
 bi:b≠i
 bj:b≠j
 ij:i≠j
theorem LX{h':Heap}{t c:Addr}{vs:Array Value}(x:h.IsTuple t vs)(hs:Bt c h h')(n:t≠c):h'.IsTuple t vs:=x.extBut hs.extBut n
theorem Yl{z i j t1 t2:Addr}{k1 k2:Nat}{xs ys:Array Value}{x y p q:Value}{Q:Value→Shared→Prop}(D:ZA z a b i j)(n1:t1≠z∧t1≠b∧t1≠i∧t1≠j)(n2:t2≠z∧t2≠b∧t2≠i∧t2≠j)
 (hz:IsZip s.heap z a b .none) (ha:IsPair s.heap a (.ref i) (.ref j)) (hb:IsPair s.heap b p q) (h1:s.heap.IsTupleIter i t1 k1) (h2:s.heap.IsTupleIter j t2 k2) (g1:s.heap.IsTuple t1 xs) (g2:s.heap.IsTuple t2 ys) (hx:xs[k1]?=some x) (hy:ys[k2]?=some y)
 (fin:∀g,IsZip g z a b (rawInt s.heap.objs.size)→IsPair g b x y→g.IsTupleIter i t1 (k1+1)→g.IsTupleIter j t2 (k2+1)→IsPair g s.heap.objs.size x y→
  (∀c o,c≠z→c≠b→c≠i→c≠j→s.heap.get? c=some o→g.get? c=some o)→Q (.ref s.heap.objs.size) {s with heap:=g}):
 wpAny (model prog w) A (Builtin.«zip.__next__» ⟨[.ref z],[]⟩) (λr s'=>∃v,r= .done (.ret v)∧Q v s') E s:=by
 show wpAny _ _ (field (.ref z) 2>>=_) _ _ _;refine Aa (AY hz rfl (x:= .bool false) rfl ?_);show wpAny _ _ (field (.ref z) 3>>=_) _ _ _;refine Aa (AY hz rfl (x:= .ref a) rfl ?_);refine Aa (AW ha rfl ?_);show wpAny _ _ (BK (.ref z)>>=_) _ _ _;refine Aa ?_;unfold BK;refine Aa (AY hz rfl (x:= .none) rfl (Ac ?_));simp only[if_true];refine Aa (BA ?_);refine Aa (AY hz rfl (x:= .ref b) rfl ?_);refine Aa (BN hz (by simp) λw1 z1 m1=>?_)
 replace z1:IsZip w1 z a b .ellipsis:=z1
 refine Aa ?_;simp only[List.zipIdx_cons,List.zipIdx_nil,Ge,G1];refine Aa (Aa (Fo ?_));show wpAny _ _ (A_ (.ref i)>>=_) _ _ _;refine Aa (QF (h1.extBut m1.extBut D.iz) (LX g1 m1 n1.1) hx λw2 i2 m2=>Ac ?_);have b2:IsPair w2 b p q:=m2.extBut _ _ D.bi (m1.extBut _ _ D.bz hb);refine Aa (AW b2 rfl ?_);refine Aa (EB b2 λw3 b3 m3=>?_)
 replace b3:IsPair w3 b x q:=b3
 refine Aa (Ch (Ac ?_));refine Aa (Aa (Fo ?_));show wpAny _ _ (A_ (.ref j)>>=_) _ _ _;refine Aa (QF (((h2.extBut m1.extBut D.jz).extBut m2.extBut D.ij.symm).extBut m3.extBut D.bj.symm) (LX (LX (LX g2 m1 n2.1) m2 n2.2.2.1) m3 n2.2.1) hy λw4 j4 m4=>Ac ?_);have b4:IsPair w4 b x q:=m4.extBut _ _ D.bj b3;refine Aa (AW b4 rfl ?_);refine Aa (EB b4 λw5 b5 m5=>?_)
 replace b5:IsPair w5 b x y:=b5
 refine Aa (Ch (Ac (Ac ?_)));refine Aa (AW b5 rfl ?_);refine Aa (ET ?_);have sz:w5.objs.size=s.heap.objs.size:=by rw[m5.1,m4.1,m3.1,m2.1,m1.1]
 have z5:IsZip w5 z a b .ellipsis:=m5.extBut _ _ D.bz.symm (m4.extBut _ _ D.jz.symm (m3.extBut _ _ D.bz.symm (m2.extBut _ _ D.iz.symm z1)));have k5:∀c o,c≠z→c≠b→c≠i→c≠j→s.heap.get? c=some o→w5.get? c=some o:=λc o c1 c2 c3 c4 e=> m5.extBut _ _ c2 (m4.extBut _ _ c4 (m3.extBut _ _ c2 (m2.extBut _ _ c3 (m1.extBut _ _ c1 e))));have i5:w5.IsTupleIter i t1 (k1+1):=((i2.extBut m3.extBut D.bi.symm).extBut m4.extBut D.ij).extBut m5.extBut D.bi.symm;have j5:w5.IsTupleIter j t2 (k2+1):=j4.extBut m5.extBut D.bj.symm;have zlt:z<w5.objs.size:=Am z5;show wpAny _ _ (Cv (.ref z) (.ref w5.objs.size)>>=_) _ _ _;refine Aa ?_;unfold Cv;have z6:IsZip (w5.push {cls:= .type "tuple",data:= .seq #[x,y]}) z a b .ellipsis:=Ad _ z5;refine Aa (BN z6 (by simp) λw7 z7 m7=>?_)
 replace z7:IsZip w7 z a b (rawInt w5.objs.size):=z7
 refine BN z7 (by simp) λw8 z8 m8=>?_
 replace z8:IsZip w8 z a b (rawInt w5.objs.size):=z8
 have up:∀c o,c≠z→w5.get? c=some o→w8.get? c=some o:=λc o c1 e=>m8.extBut _ _ c1 (m7.extBut _ _ c1 (Ad _ e));have t8:IsPair w8 w5.objs.size x y:=m8.extBut _ _ (C2 zlt) (m7.extBut _ _ (C2 zlt) (Ak _ rfl));rw[sz] at z8 t8;refine Ac ⟨_,rfl,?_⟩;show Q (.ref w5.objs.size) _;rw[sz];obtain⟨oi,ei,ri⟩:=i5;obtain⟨oj,ej,rj⟩:=j5;exact fin w8 z8 (up _ _ D.bz b5) ⟨oi,up _ oi D.iz ei,ri⟩ ⟨oj,up _ oj D.jz ej,rj⟩ t8 λc o c1 c2 c3 c4 e=>up c o c1 (k5 c o c1 c2 c3 c4 e)
theorem Xx{z i j t1 t2:Addr}{k1 k2:Nat}{xs ys:Array Value}{p q:Value}{Q:Fin→Shared→Prop}(hh:A.handled=none)(D:ZA z a b i j)(n1:t1≠z∧t1≠b∧t1≠i∧t1≠j)(n2:t2≠z∧t2≠b∧t2≠i∧t2≠j)
 (hz:IsZip s.heap z a b .none) (ha:IsPair s.heap a (.ref i) (.ref j)) (hb:IsPair s.heap b p q) (h1:s.heap.IsTupleIter i t1 k1) (h2:s.heap.IsTupleIter j t2 k2) (g1:s.heap.IsTuple t1 xs) (g2:s.heap.IsTuple t2 ys) (hend:xs[k1]?=none∨ys[k2]?=none)
 (fin:∀g e,(∀c o,c≠z→c≠b→c≠i→c≠j→s.heap.get? c=some o→g.get? c=some o)→(∃o,g.get? e=some o∧o.cls= .type "StopIteration")→E (.ref e) {s with heap:=g}):
 wpAny (model prog w) A (Builtin.«zip.__next__» ⟨[.ref z],[]⟩) Q E s:=by
 show wpAny _ _ (field (.ref z) 2>>=_) _ _ _;refine Aa (AY hz rfl (x:= .bool false) rfl ?_);show wpAny _ _ (field (.ref z) 3>>=_) _ _ _;refine Aa (AY hz rfl (x:= .ref a) rfl ?_);refine Aa (AW ha rfl ?_);show wpAny _ _ (BK (.ref z)>>=_) _ _ _;refine Aa ?_;unfold BK;refine Aa (AY hz rfl (x:= .none) rfl (Ac ?_));simp only[if_true];refine Aa (BA ?_);refine Aa (AY hz rfl (x:= .ref b) rfl ?_);refine Aa (BN hz (by simp) λw1 z1 m1=>?_)
 replace z1:IsZip w1 z a b .ellipsis:=z1
 refine Aa ?_;simp only[List.zipIdx_cons,List.zipIdx_nil,Ge,G1];refine Aa (Aa (Fo ?_));show wpAny _ _ (A_ (.ref i)>>=_) _ _ _;cases hx:xs[k1]? with
 | none=>
  refine Aa (Tl hh (h1.extBut m1.extBut D.iz) (LX g1 m1 n1.1) hx λw2 e m2 he=>?_);obtain⟨oe,e1,e2⟩:=he;have z2:IsZip w2 z a b .ellipsis:=m2 _ _ D.iz.symm z1;have ez:e≠z:=λu=>by subst u;rw[z2] at e1;cases e1;simp at e2
  exact BN z2 (by simp) λw3 _ m3=>fin w3 e (λc o c1 _ c3 _ u=>m3.extBut _ _ c1 (m2 _ _ c3 (m1.extBut _ _ c1 u))) ⟨oe,m3.extBut _ _ ez e1,e2⟩
 | some x=>
  have hy:ys[k2]?=none:=by
   rcases hend with u | u
   · rw[hx] at u;cases u
   · exact u
  refine Aa (QF (h1.extBut m1.extBut D.iz) (LX g1 m1 n1.1) hx λw2 i2 m2=>Ac ?_);have b2:IsPair w2 b p q:=m2.extBut _ _ D.bi (m1.extBut _ _ D.bz hb);refine Aa (AW b2 rfl ?_);refine Aa (EB b2 λw3 b3 m3=>?_);refine Aa (Ch (Ac ?_));refine Aa (Aa (Fo ?_));show wpAny _ _ (A_ (.ref j)>>=_) _ _ _;refine Aa (Tl hh (((h2.extBut m1.extBut D.jz).extBut m2.extBut D.ij.symm).extBut m3.extBut D.bj.symm) (LX (LX (LX g2 m1 n2.1) m2 n2.2.2.1) m3 n2.2.1) hy λw4 e m4 he=>?_);obtain⟨oe,e1,e2⟩:=he;have z4:IsZip w4 z a b .ellipsis:=m4 _ _ D.jz.symm (m3.extBut _ _ D.bz.symm (m2.extBut _ _ D.iz.symm z1));have ez:e≠z:=λu=>by subst u;rw[z4] at e1;cases e1;simp at e2
  exact BN z4 (by simp) λw5 _ m5=>fin w5 e (λc o c1 c2 c3 c4 u=>m5.extBut _ _ c1 (m4 _ _ c4 (m3.extBut _ _ c2 (m2.extBut _ _ c3 (m1.extBut _ _ c1 u))))) ⟨oe,m5.extBut _ _ ez e1,e2⟩
section
variable{h':Heap}
theorem Inv.newTup{T:Addr}{x y:V}{t':Nat}(I:Inv X pins σ H s)(ch:List Addr)(hch:∀c∈ch,IJ X pins H c)(keep:∀c o,c ∉ ch→s.heap.get? c=some o→h'.get? c=some o)(hT:s.heap.objs.size≤T)
 (tup:∃its:List Value,Vals [x,y] its∧IsTupP h' T its.toArray):Inv X pins σ (IC H T (.tup [x,y])) {s with heap:=h',toks:=t'}:=by
 have hn:H T=none:=I.hok.fresh hT;have neT:∀c o,s.heap.get? c=some o→c≠T:=λc o e=>Ar (AG (Am e) hT);have off:∀c u,H c=some u→c ∉ ch:=λc u e z=>by rw[(hch c z).1] at e;cases e
 refine I.step (g':=s.gens) (d':=s.drawn) (ch:=ch) (λc hc=>⟨(hch c hc).2.2.2.1,(hch c hc).2.1,(hch c hc).2.2.2.2.1,(hch c hc).2.2.2.2.2⟩) (λc o _ _ hc e _=>keep c o hc e) (λc o _ _ hc e _=>⟨o.slots,keep c o hc e⟩)
  (λc o _ e n=>by rw[IZ (neT c o e)];exact n) (λc o hc e=>⟨o,keep c o hc e⟩) (λc xs e=>by rw[IZ (JY e hn)];exact e) (λc o u e=>by rw[IZ (JY e hn)];exact e)
  (λc ps e=>⟨#[],by rw[IZ (JY e hn),e];simp⟩) (λm hm=>?_) (λc u e=>?_) I.bare
 · obtain⟨o,es,ep,ho,r⟩:=hm;exact⟨o,es,ep,keep _ o (λz=>(hch _ z).2.1 rfl) ho,r⟩
 · by_cases hc:c=T
   · subst hc;rw[IE] at e;cases e;obtain⟨its,r,p⟩:=tup;exact⟨by show 2≤Ay;decide,its,r,p⟩
   · rw[IZ hc] at e;refine(I.hok c u e).stay (λd v hd q=>keep d v ?_ q) (λd q=>by rw[IZ (JY q hn)];exact q) λd xs q=>by rw[IZ (JY q hn)];exact q
     rcases hd with z | z
     · rw[z];exact off c u e
     · exact off d _ z
theorem Inv.turnedN{t':Nat}(I:Inv X pins σ H s)(ch:List Addr)(hch:∀c∈ch,IJ X pins H c)(keep:∀c o,c ∉ ch→s.heap.get? c=some o→h'.get? c=some o):Inv X pins σ H {s with heap:=h',toks:=t'}:=by
 have off:∀c u,H c=some u→c ∉ ch:=λc u e z=>by rw[(hch c z).1] at e;cases e
 refine I.step (g':=s.gens) (d':=s.drawn) (ch:=ch) (λc hc=>⟨(hch c hc).2.2.2.1,(hch c hc).2.1,(hch c hc).2.2.2.2.1,(hch c hc).2.2.2.2.2⟩) (λc o _ _ hc e _=>keep c o hc e) (λc o _ _ hc e _=>⟨o.slots,keep c o hc e⟩)
  (λc o _ e n=>n) (λc o hc e=>⟨o,keep c o hc e⟩) (λc xs e=>e) (λc o u e=>e) (λc ps e=>⟨#[],by rw[e];simp⟩) (λm hm=>?_) (λc u e=>?_) I.bare
 · obtain⟨o,es,ep,ho,r⟩:=hm;exact⟨o,es,ep,keep _ o (λz=>(hch _ z).2.1 rfl) ho,r⟩
 · refine(I.hok c u e).stay (λd v hd q=>keep d v ?_ q) (λ_ q=>q) λ_ _ q=>q;rcases hd with z | z
   · rw[z];exact off c u e
   · exact off d _ z
theorem KE{t c:Addr}(I:Inv X pins σ H s)(h:SqT X.K H t xs)(f:IJ X pins H c):t≠c:=by
 intro e;subst e;rcases h with(h | ⟨o,h⟩) | ⟨o,its,n,hk,_⟩
 · rw[f.1] at h;cases h
 · rw[f.1] at h;cases h
 · have eb:=I.ok.mod.kin t o hk;rcases f.2.2.2.1 with z | z
   · exact I.ok.noex t o eb z
   · exact absurd (AG (Am eb) (AD I.ok.bsz z)) (Ds _)
end
noncomputable def Qm(K:Ae)(t1 t2:Addr):It:=
 ⟨λk H=>∃(xs ys:List V)(x y:V),SqT K H t1 xs∧SqT K H t2 ys∧xs[k]?=some x∧ys[k]?=some y,
  λk H v H'=>∃p,v= .ref p∧H p=none∧∀(xs ys:List V)(x y:V),SqT K H t1 xs→SqT K H t2 ys→xs[k]?=some x→ys[k]?=some y→H'=IC H p (.tup [x,y]),
  λk H=>∃(xs ys:List V),SqT K H t1 xs∧SqT K H t2 ys∧(xs.length≤k∨ys.length≤k)⟩
theorem ZM{P:Bp}{w:World}{K:Ae}{es:List Expr}{kk:Nat}{pos:Pos}(t1 t2 z a b i j:Addr)(D:ZA z a b i j):
 Turn P w K (.Tuple es kk pos) (Qm K t1 t2) [z,a,b,i,j] z (λk h=>IsZip h z a b .none∧IsPair h a (.ref i) (.ref j)∧(∃p q,IsPair h b p q)∧h.IsTupleIter i t1 k∧h.IsTupleIter j t2 k) where
 mem:=by simp
 obj:=λk h st c hc=>by
  obtain⟨hz,ha,⟨p,q,hb⟩,⟨oi,ei,_,di⟩,⟨oj,ej,_,dj⟩⟩:=st;simp only[Aw,Bs,or_false] at hc;rcases hc with rfl | rfl | rfl | rfl | rfl
  · exact⟨_,hz,λv e=>by cases e⟩
  · exact⟨_,ha,λv e=>by cases e⟩
  · exact⟨_,hb,λv e=>by cases e⟩
  · exact⟨oi,ei,λv e=>by rw[di] at e;cases e⟩
  · exact⟨oj,ej,λv e=>by rw[dj] at e;cases e⟩
 keep:=λk h h' st kp=>by obtain⟨hz,ha,⟨p,q,hb⟩,⟨oi,ei,ri⟩,⟨oj,ej,rj⟩⟩:=st;exact⟨kp z (by simp) _ hz,kp a (by simp) _ ha,⟨p,q,kp b (by simp) _ hb⟩,⟨oi,kp i (by simp) _ ei,ri⟩,⟨oj,kp j (by simp) _ ej,rj⟩⟩
 item:=by
  intro X hP hw hK hc k pins s σ H E I hf st hg;subst hP hw hK;obtain⟨xs,ys,x,y,q1,q2,hx,hy⟩:=hg;obtain⟨hz,ha,⟨p,q,hb⟩,h1,h2⟩:=st;obtain⟨its1,r1,g1,_⟩:=I.tuple q1;obtain⟨its2,r2,g2,_⟩:=I.tuple q2;obtain⟨u1,hu1,v1⟩:=r1.get hx;obtain⟨u2,hu2,v2⟩:=r2.get hy;have fz:=hf z (by simp);have fb:=hf b (by simp);have fi:=hf i (by simp);have fj:=hf j (by simp);have hT:s.TypeIs (.ref z) "zip":=⟨_,hz,rfl⟩;unfold pyNext;refine Aa (CH (AU (name:=BG "__next__") hT D3 (AH D3 hT Gs
   (Yl D ⟨KE I q1 fz,KE I q1 fb,KE I q1 fi,KE I q1 fj⟩ ⟨KE I q2 fz,KE I q2 fb,KE I q2 fi,KE I q2 fj⟩ hz ha hb h1 h2 g1 g2 (by simpa using hu1) (by simpa using hu2) λg a1 a2 a3 a4 a5 a6=>Ac ?_) (FY _))))
  refine⟨_,rfl,wpAny_letOwnedTupleGo_zip a1 λg' z' m'=>?_⟩;have zT:z≠s.heap.objs.size:=Ar (Am hz);have up:∀c o,c≠z→g.get? c=some o→g'.get? c=some o:=λc o hc e=>m'.extBut c o hc e;have fr:H s.heap.objs.size=none:=I.hok.fresh (Ah _);have I1:Inv X pins σ (IC H s.heap.objs.size (.tup [x,y])) {s with heap:=g'}:=by
   refine I.newTup (t':=s.toks) [z,b,i,j] (λc hc=>?_) (λc o hc e=>?_) (Ah _) ⟨[u1,u2],.cons v1 (.cons v2 .nil),_,up _ _ zT.symm a5,rfl,rfl,_,rfl⟩
   · simp only[Aw,Bs,or_false] at hc;rcases hc with rfl | rfl | rfl | rfl
     · exact fz
     · exact fb
     · exact fi
     · exact fj
   · simp only[Aw,Bs,or_false,not_or] at hc;exact up c o hc.1 (a6 c o hc.1 hc.2.1 hc.2.2.1 hc.2.2.2 e)
  obtain⟨oi,ei,ri⟩:=a3;obtain⟨oj,ej,rj⟩:=a4;refine⟨.ref s.heap.objs.size,_,I1,rfl,⟨_,rfl,fr,λxs' ys' x' y' s1 s2 e1 e2=>?_⟩,⟨z',up _ _ D.az (a6 a _ D.az D.ab D.ai D.aj ha),⟨_,_,up _ _ D.bz a2⟩,⟨oi,up _ _ D.iz ei,ri⟩,⟨oj,up _ _ D.jz ej,rj⟩⟩,λc hc=>?_⟩
  · rw[I.tuple_inj s1 q1,hx] at e1;rw[I.tuple_inj s2 q2,hy] at e2;cases e1;cases e2;rfl
  · have fc:=hf c hc;have:c≠s.heap.objs.size:=by
     simp only[Aw,Bs,or_false] at hc;obtain⟨oi',ei',_⟩:=h1;obtain⟨oj',ej',_⟩:=h2;rcases hc with rfl | rfl | rfl | rfl | rfl
     · exact zT
     · exact Ar (Am ha)
     · exact Ar (Am hb)
     · exact Ar (Am ei')
     · exact Ar (Am ej')
    rw[IZ this];exact fc.1
 done:=by
  intro X hP hw hK hc k pins s σ H E I hf st hg;subst hP hw hK;obtain⟨xs,ys,q1,q2,hend⟩:=hg;obtain⟨hz,ha,⟨p,q,hb⟩,h1,h2⟩:=st;obtain⟨its1,r1,g1,_⟩:=I.tuple q1;obtain⟨its2,r2,g2,_⟩:=I.tuple q2;have l1:=r1.length;have l2:=r2.length;have fz:=hf z (by simp);have fb:=hf b (by simp);have fi:=hf i (by simp);have fj:=hf j (by simp);have hT:s.TypeIs (.ref z) "zip":=⟨_,hz,rfl⟩;unfold pyNext;refine Aa (CH (AU (name:=BG "__next__") hT D3 (AH D3 hT Gs
   (Xx (I.ok.hd hc) D ⟨KE I q1 fz,KE I q1 fb,KE I q1 fi,KE I q1 fj⟩ ⟨KE I q2 fz,KE I q2 fb,KE I q2 fi,KE I q2 fj⟩ hz ha hb h1 h2 g1 g2 ?_ λg e kp he=>?_) (FY _))))
  · rcases hend with u | u
    · exact .inl (by simp;omega)
    · exact .inr (by simp;omega)
  · obtain⟨o,ho,hcl⟩:=he;refine Aa (Cf (T:="StopIteration") (b:=true) ⟨o,ho,hcl⟩ isSubtype_stop ?_);refine Ac ⟨rfl,I.turnedN (t':=s.toks) [z,b,i,j] (λc hc=>?_) (λc o hc e=>?_)⟩
    · simp only[Aw,Bs,or_false] at hc;rcases hc with rfl | rfl | rfl | rfl
      · exact fz
      · exact fb
      · exact fi
      · exact fj
    · simp only[Aw,Bs,or_false,not_or] at hc;exact kp c o hc.1 hc.2.1 hc.2.2.1 hc.2.2.2 e
 self:=λ_ _ _ _ _ st h=>wpAny_pyIter_zip st.1 h
noncomputable abbrev MD(h:Heap)(t:Addr):Heap:=h.push {cls:= .type "tuple_iterator",data:= .fields #[.ref t,.int 0 0]}
noncomputable abbrev MC(h:Heap)(t u:Addr):Heap:=(MD h t).push {cls:= .type "tuple_iterator",data:= .fields #[.ref u,.int 0 0]}
noncomputable abbrev MB(h:Heap)(t u:Addr):Heap:=(MC h t u).push {cls:= .type "tuple",data:= .seq #[.ref h.objs.size,.ref (MD h t).objs.size]}
noncomputable abbrev No(h:Heap)(t u:Addr):Heap:=(MB h t u).push {cls:= .type "tuple",data:= .seq #[.none,.none]}
noncomputable abbrev Mo(h:Heap)(t u:Addr):Heap:=(No h t u).push {cls:= .type "zip",data:= .fields #[.none,.bool false,.bool false,.ref (MC h t u).objs.size,.ref (MB h t u).objs.size]}
theorem Xy(t u:Addr)(xs ys:Array Value):Meets (Builtin.«zip.__new__» ⟨[.type "zip",.ref t,.ref u],[]⟩) (λ_ R s=>s.heap.IsTuple t xs∧s.heap.IsTuple u ys∧
 R (.ok (.ret (.ref (No s.heap t u).objs.size))) {s with heap:=Mo s.heap t u}):=
 .of_wp λprog w A R s h=>by
  obtain⟨hp,g,d,tk,os⟩:=s;obtain⟨g1,g2,h⟩:=h;have f0:=sub_zip;have f1:Heap.IsTuple (Shared.heap ⟨hp,g,d,tk,os⟩) t xs:=g1;have f2:Heap.IsTuple (Shared.heap ⟨hp.push {cls:= .type "tuple_iterator",data:= .fields #[.ref t,.int 0 0]},g,d,tk,os⟩) u ys:=F0 g2 _
  wp_walk using CA f1,CA f2
  exact⟨_,rfl,h⟩
theorem Xg:Bh "zip"=some (.type "zip"):=by decide+kernel
noncomputable def Ss(K:Ae)(ta:TA):TI:=λσ H R=>ta σ H λvs H1=>∃t u,vs=[.ref t,.ref u]∧(∃xs,SqT K H1 t xs)∧(∃ys,SqT K H1 u ys)∧R (Qm K t u) H1
theorem XQ{es:List Expr}{kk:Nat}{tpos:Pos}{a b:Expr}{ta:TA}{p pos:Pos}(hg:Gl X "zip")(hm:X.mg "zip"=none)(ha:PA X [a,b] ta)
 (he:AL [a,b] X.env=(false,eval a X.env)::AL [b] X.env:=by rfl) (hpl:(backTo pos (AL [b] X.env)).any (·.1)=false:=by rfl):
 PI X (.Tuple es kk tpos) (.Call (.Name "zip" p) [a,b] [] pos) (Ss X.K ta):=by
 intro pins s σ H R I h;refine Cr (LI I hg hm Xg ?_ (by decide) (by decide));refine Cc (IG (ha pos pins s σ H _ I h) λus s1 ⟨vs,H1,I1,r1,t,u,e,⟨xs,q1⟩,⟨ys,q2⟩,q⟩=>?_) he hpl;subst e;obtain⟨u1,u2,rfl,v1,v2⟩:=Nt r1;cases v1;cases v2;obtain⟨its1,rv1,g1,_⟩:=I1.tuple q1;obtain⟨its2,rv2,g2,_⟩:=I1.tuple q2;refine callType_new PySem.F.called_zip (by decide) (PySem.F.typeCall_zip_2 _ _) (PySem.F.newCall_zip_2 _ _) (λobj=>PySem.F.args_object_init_3 obj _ _) PySem.F.entry_zip_new (Xy t u its1.toArray its2.toArray) ⟨g1,g2,?_⟩;have y1:(MD s1.heap t).objs.size=s1.heap.objs.size+1:=BB ..;have y2:(MC s1.heap t u).objs.size=s1.heap.objs.size+2:=by rw[BB,y1]
 have y3:(MB s1.heap t u).objs.size=s1.heap.objs.size+3:=by rw[BB,y2]
 have y4:(No s1.heap t u).objs.size=s1.heap.objs.size+4:=by rw[BB,y3]
 have k5:∀c o,s1.heap.get? c=some o→(Mo s1.heap t u).get? c=some o:=λc o e=>Ad _ (Ad _ (Ad _ (Ad _ (Ad _ e))));have e5:(Mo s1.heap t u).get? (No s1.heap t u).objs.size=some _:=Ak _ rfl;have e4:(Mo s1.heap t u).get? (MB s1.heap t u).objs.size=some _:=Ad _ (Ak _ rfl);have e3:(Mo s1.heap t u).get? (MC s1.heap t u).objs.size=some _:=Ad _ (Ad _ (Ak _ rfl));have e2:(Mo s1.heap t u).get? (MD s1.heap t).objs.size=some _:=Ad _ (Ad _ (Ad _ (Ak _ rfl)));have e1:(Mo s1.heap t u).get? s1.heap.objs.size=some _:=Ad _ (Ad _ (Ad _ (Ad _ (Ak _ rfl))));have I2:Inv X pins σ H1 {s1 with heap:=Mo s1.heap t u}:=I1.kept (t':=s1.toks) k5
 have fp:∀c,s1.heap.objs.size≤c→IJ X pins H1 c:=λc hc=>I1.fpOk hc (I1.hok.fresh hc);have D:ZA (No s1.heap t u).objs.size (MC s1.heap t u).objs.size (MB s1.heap t u).objs.size s1.heap.objs.size (MD s1.heap t).objs.size:=by
  have n4:(MB s1.heap t u).objs.size<(No s1.heap t u).objs.size:=by rw[y3,y4];exact C6 _
  have n3:(MC s1.heap t u).objs.size<(MB s1.heap t u).objs.size:=by rw[y2,y3];exact C6 _
  have n2:(MD s1.heap t).objs.size<(MC s1.heap t u).objs.size:=by rw[y1,y2];exact C6 _
  have n1:s1.heap.objs.size<(MD s1.heap t).objs.size:=by rw[y1];exact C6 _
  exact⟨Ar (BY n3 n4),Ar n4,Ar (BY n1 (BY n2 (BY n3 n4))),Ar (BY n2 (BY n3 n4)),Ar n3,C2 (BY n1 n2),C2 n2,
   C2 (BY n1 (BY n2 n3)),C2 (BY n2 n3),Ar n1⟩
 refine⟨⟨_,e5,rfl⟩,wpAny_pyIter_zip e5 ?_⟩;refine⟨_,_,_,_,H1,rfl,I2,ZM t u _ _ _ _ _ D,⟨e5,e3,⟨_,_,e4⟩,⟨_,e1,rfl,rfl⟩,⟨_,e2,rfl,rfl⟩⟩,λc hc=>fp c ?_,q⟩;simp only[Aw,Bs,or_false] at hc;rcases hc with rfl | rfl | rfl | rfl | rfl
 · rw[y4];exact D7 _ _
 · rw[y2];exact D7 _ _
 · rw[y3];exact D7 _ _
 · exact Ah _
 · rw[y1];exact D7 _ _
section
variable{tg iter kx vx:Expr}{ifs:List Expr}{wi:TI}{js:J5}{g:TG}{tc:TT}{tk tv:TE}{N':List Str}
end
theorem Zy{t sl:Addr}{items:Array Value}{vl vu:Value}{lo hi:Option Int}{Q:Value→Shared→Prop}(ht:IsTup s.heap t items)(hs:s.heap.IsSliceOf sl vl vu .none)(pl:IsPart vl lo)(pu:IsPart vu hi)
 (h0:HT.sIx items.size 0 lo=0) (h1:HT.sIx items.size items.size hi=items.size) (h:Q (.ref t) s):wpAny (model prog w) A (getItem (.ref t) (.ref sl)) Q E s:=by
 obtain⟨os,hos,hcs,hds⟩:=id hs;have hTs:s.TypeIs (.ref sl) "slice":=⟨os,hos,hcs⟩;unfold getItem
 try with_reducible refine AN ?_
 first | refine Aa (Ac ?_) | skip
 refine Aa (Fv ht.typeIs (by decide) ?_);refine Aa (AU (name:=BG "__getitem__") ht.typeIs BR
  (AH BR ht.typeIs PySem.F.entry_tuple_getitem ?_ (PySem.F.args_tuple_getitem_2 _ _)))
 show wpAny _ _ (DB (.ref t)>>=_) _ _ s;refine Aa (tupleItemsOf_ ht ?_);refine Aa (C3 hTs ?_);rw[if_pos (by decide)];refine Aa (HT.sliceApplied_gen hs pl pu ?_);have yes:((((HT.sIx items.size 0 lo:Nat):Int)==0 && (1:Int)==1 && (HT.sIx items.size items.size hi - HT.sIx items.size 0 lo)==items.size)=true):=by rw[h0,h1];simp
 show wpAny _ _ (if(((HT.sIx items.size 0 lo:Nat):Int)==0 && (1:Int)==1 && (HT.sIx items.size items.size hi - HT.sIx items.size 0 lo)==items.size)=true then _ else _) _ _ s
 rw[if_pos yes];unfold Builtin.Tuple.tupleIsExact;refine Aa (Aa (C3 ht.typeIs (Ac ?_)));rw[if_pos (by decide)];exact Aa (BA (Ac ⟨_,rfl,Ac h⟩))
noncomputable def Ow(K:Ae):V→Option Int→Option Int→Hp→VK→Prop:=λx lo hi H Q=>∃a xs,x= .ref a∧SqT K H a xs∧
 (HT.sIx xs.length 0 lo=0∧HT.sIx xs.length xs.length hi=xs.length→Q (.ref a) H)∧
 (¬(HT.sIx xs.length 0 lo=0∧HT.sIx xs.length xs.length hi=xs.length)→∀p,H p=none→Q (.ref p) (IC H p (.tup (J3 xs lo hi))))
theorem Uq:NL X (Ow X.K):=by
 intro pins s σ H x v vl vu lo hi sl Q I rx hs pl pu h;obtain⟨a,xs,rfl,hx,q1,q2⟩:=h;by_cases hw:HT.sIx xs.length 0 lo=0∧HT.sIx xs.length xs.length hi=xs.length
 · cases rx;obtain⟨its,r,ht,hz⟩:=I.tuple hx;have hlen:its.toArray.size=xs.length:=by rw[Av];exact r.length.symm
   refine⟨"tuple",_,BR.lookup,ht.typeIs,?_⟩;exact Zy ht hs pl pu (by rw[hlen];exact hw.1) (by rw[hlen];exact hw.2) ⟨.ref a,H,I,rfl,q1 hw⟩
 · exact XW pins s σ H (.ref a) v vl vu lo hi sl Q I rx hs pl pu ⟨a,xs,rfl,hx,hw,q2 hw⟩
theorem Yd{K:Ae}{Q:VK}(h:SqT K H a xs)(q:∀p H',Same H H'→SqT K H' p (xs.drop 1)→Q (.ref p) H'):Ow K (.ref a) (some 1) none H Q:=by
 have e0:HT.sIx xs.length 0 (some 1)=min 1 xs.length:=HT.sIx_nat _ _ 1;refine⟨a,xs,rfl,h,λhw=>?_,λhw p hp=>?_⟩
 · rw[e0] at hw;have hl:xs.length=0:=by omega
   have hx:xs=[]:=Dp.mp hl;subst hx;exact q a H (Same.refl _) h
 · refine q p _ (IM hp _) (SqT.of ?_);rw[IE];unfold J3;rw[e0,show HT.sIx xs.length xs.length none=xs.length from rfl];cases xs with
   | nil=>rfl
   | cons x r=>
    have e1:min 1 (x::r).length=1:=by rw[AA];omega
    rw[e1];congr 2;rw[AA,Nat.add_sub_cancel];exact A0 (by simp)
section
variable{K:Ae}
theorem MO(K:Ae)(h:X.K=K):Nl X (Ox K):=by subst h;exact JM
theorem NW(K:Ae)(h:X.K=K){es:List Expr}{k:Nat}{t:MA}{n:Nat}{pos:Pos}(hc:X.calm=true)(hg:OO X es t)
 (hn:(assignEach es X.env).length=n:=by rfl) (hst:(assignEach es X.env).findIdx? (·.1)=none:=by rfl):PG X (.Tuple es k pos) (OL K n t):=by subst h;exact K6 hc hg hn hst
end
theorem XD{K:Ae}{t1 t2 p:Addr}{ys:List V}{g:TG}{tc:TT}{te:TE}{Q:VK}{js:J5}(h1:n≤xs.length)(h2:n≤ys.length)(h3:xs.length≤n∨ys.length≤n)(Pv:Nat→St→List V→Hp→Prop)(h0:Pv 0 (Kf js σ) [] (IC H p (.lst [])))
 (hl:∀i σ zs H,i≤n→Pv i σ zs H→SqT K H t1 xs∧SqT K H t2 ys∧H p=some (.lst zs)∧zs.length<Ay)
 (hs:∀(i:Nat)x y σ zs H q(N:St→List V→Hp→Prop),xs[i]?=some x→ys[i]?=some y→H q=none→Pv i σ zs H→(∀σ' ys' H',Pv (i+1) σ' ys' H'→N σ' ys' H')→MK p g tc te zs (.ref q) σ (IC H q (.tup [x,y])) N)
 (hd:∀σ zs H,Pv n σ zs H→Q (.ref p) H):Lf (Qm K t1 t2) p js g tc te σ H Q:=
 Nv (n:=n) (J:=Qm K t1 t2) (js:=js) (σ:=σ) (H:=H) (p:=p) (Q:=Q) (g:=g) (tc:=tc) (te:=te) Pv h0 (λi σ zs H hi pv=>(hl i σ zs H hi pv).2.2)
  (λi σ zs H hi pv=>⟨xs,ys,xs[i],ys[i],(hl i σ zs H (Bv hi) pv).1,(hl i σ zs H (Bv hi) pv).2.1,by simp,by simp⟩)
  (λσ zs H pv=>⟨xs,ys,(hl _ σ zs H (Ah _) pv).1,(hl _ σ zs H (Ah _) pv).2.1,h3⟩)
  (λi v σ zs H H' N hi y pv hN=>by
   obtain⟨q,e,hq,y⟩:=y;subst e;have ex:xs[i]?=some xs[i]:=by simp
   have ey:ys[i]?=some ys[i]:=by simp
   have e2:=y xs ys _ _ (hl i σ zs H (Bv hi) pv).1 (hl i σ zs H (Bv hi) pv).2.1 ex ey;subst e2;exact hs i _ _ σ zs H q N ex ey hq pv hN) hd
section
variable{h':Heap}
end
theorem zg8:Bh "enumerate"=some (.type "enumerate"):=by decide+kernel
noncomputable def L8(K:Ae)(a:Addr)(xs:List V):It:=
 ⟨λi H=>i<xs.length∧SqL K H a xs,λi H x H'=>H'=H∧xs[xs.length - 1 - i]?=some x,λi H=>xs.length≤i∧SqL K H a xs⟩
theorem ZK{K:Ae}{tg:Expr}(a it:Addr)(xs:List V):Turn P w K tg (L8 K a xs) [it] it (λi h=>i≤xs.length∧h.IsRevIter it a ((xs.length:Int) - 1 - i)) where
 mem:=by simp
 obj:=λi h st b hb=>by
  have e:b=it:=by simpa using hb
  subst e;obtain⟨_,o,e,c,d⟩:=st;exact⟨o,e,λv z=>by rw[d] at z;cases z⟩
 keep:=λi h h' st k=>let⟨l,o,e,r⟩:=st;⟨l,o,k it (by simp) o e,r⟩
 item:=by
  intro X hP hw hK hc i pins s σ H E I hfp st hg;subst hP hw hK;obtain⟨hi,hq⟩:=hg;obtain⟨its,rv,pl,_⟩:=I.list hq;obtain⟨f0,f1,f2,f3,f4,f5⟩:=hfp it (by simp);have hx:xs[xs.length - 1 - i]?=some xs[xs.length - 1 - i]:=by simp
  obtain⟨u,hu,ru⟩:=rv.get hx;have st:=st.2;rw[show((xs.length:Int) - 1 - i)=((xs.length - 1 - i:Nat):Int) by omega] at st;refine wpAny_pyNext_rev_item st pl.isList (by simpa using hu) λh' hit' hs'=>?_;have I1:Inv X pins σ H {s with heap:=h'}:=I.turned (t':=s.toks) (λb o hb e=>hs'.extBut b o hb e) f0 f1 f3 f4 f5;obtain⟨o2,e,c,d⟩:=id hit';refine⟨_,rfl,MI (s:={s with heap:=h'}) e c d (by decide) ⟨xs[xs.length - 1 - i],H,I1,ru,⟨rfl,hx⟩,⟨by omega,?_⟩,λb hb=>(hfp b hb).1⟩⟩;rw[show((xs.length:Int) - 1 - ((i+1:Nat):Int))=((xs.length - 1 - i:Nat):Int) - 1 by omega];exact hit'
 done:=by intro X hP hw hK hc i pins s σ H E I hfp st hg;subst hP hw hK;obtain⟨hi,hq⟩:=hg;obtain⟨hl,st⟩:=st;obtain⟨f0,f1,f2,f3,f4,f5⟩:=hfp it (by simp);rw[show((xs.length:Int) - 1 - i)= -1 by omega] at st;exact wpAny_pyNext_rev_end (I.ok.hd hc) st λh' eb=>⟨rfl,I.turned (t':=s.toks) (λb o hb e=>eb b o hb e) f0 f1 f3 f4 f5⟩
 self:=λ_ _ _ _ _ st h=>wpAny_pyIter_revIter st.2 h
theorem zib:Bh "reversed"=some (.type "reversed"):=by decide+kernel
section
variable{tg:Expr}
noncomputable def Sw(K:Ae)(ta:TA):TI:=λσ H R=>ta σ H λvs H1=>∃(t:Addr)(xs:List V),vs=[.ref t]∧SqL K H1 t xs∧R (L8 K t xs) H1
theorem XO{a:Expr}{ta:TA}{p pos:Pos}(hg:Gl X "reversed")(hm:X.mg "reversed"=none)(ha:PA X [a] ta)
 (he:AL [a] X.env=(false,eval a X.env)::AL [] X.env:=by rfl) (hpl:(backTo pos (AL [] X.env)).any (·.1)=false:=by rfl):
 PI X tg (.Call (.Name "reversed" p) [a] [] pos) (Sw X.K ta):=by
 intro pins s σ H R I h;refine Cr (LI I hg hm zib ?_ (by decide) (by decide));refine Cc (IG (ha pos pins s σ H _ I h) λus s1 ⟨vs,H1,I1,r1,t,xs,e,q1,q⟩=>?_) he hpl;subst e;obtain⟨u1,rfl,v1⟩:=KA r1;cases v1;obtain⟨its,rv,pl,_⟩:=I1.list q1;have lv:=rv.length;refine call_reversed_list pl.isList ?_;have hit:(s1.heap.push (revObj t ((its.toArray.size:Int) - 1))).IsRevIter s1.heap.objs.size t ((xs.length:Int) - 1 - (0:Nat)):=⟨_,Ak _ rfl,rfl,by show Data.fields #[.ref t,rawInt ((its.toArray.size:Int) - 1)]=_;simp[lv]⟩;refine wpAny_pyIter_revIter (s:={s1 with heap:=s1.heap.push (revObj t ((its.toArray.size:Int) - 1))}) hit ?_
 refine⟨_,_,_,_,H1,rfl,I1.kept (t':=s1.toks) λb o e=>Ad _ e,ZK t _ xs,⟨AK _,hit⟩,λb hb=>?_,q⟩;have e:b=s1.heap.objs.size:=by simpa using hb
 subst e;exact I1.fpOk (Ah _) (I1.hok.fresh (Ah _))
end
theorem YF{K:Ae}{g:TG}{tb:TS}{D:Ends}(Pv:Nat→St→Hp→Prop)(h0:Pv 0 σ H)(hl:∀i σ H,i≤xs.length→Pv i σ H→SqL K H a xs)
 (hs:∀i x σ H,i<xs.length→xs[xs.length - 1 - i]?=some x→Pv i σ H→g x σ H λσ2 H2=>tb {D with nx:=Pv (i+1),ct:=Pv (i+1),bk:=D.nx} σ2 H2) (hd:∀σ H,Pv xs.length σ H→D.nx σ H):
 ∃W:Nat→Nat→St→Hp→Prop,(∃m,W 0 m σ H)∧∀i m σ H,W i m σ H→
  ((L8 K a xs).stop i H∧D.nx σ H)∨((L8 K a xs).go i H∧∃N:St→Hp→Prop,(∀σ' H',N σ' H'→∃m',m'<m∧W (i+1) m' σ' H')∧∀x H',(L8 K a xs).yld i H x H'→g x σ H' λσ2 H2=>tb {D with nx:=N,ct:=N,bk:=D.nx} σ2 H2):=by
 refine⟨λi m σ H=>m=xs.length - i∧i≤xs.length∧Pv i σ H,⟨xs.length,by simp,AK _,h0⟩,?_⟩;rintro i m σ H ⟨rfl,hi,p⟩;have q:=hl i σ H hi p;by_cases hlt:i<xs.length
 · refine .inr ⟨⟨hlt,q⟩,Pv (i+1),λσ' H' p'=>⟨xs.length - (i+1),by omega,rfl,hlt,p'⟩,λx H' y=>?_⟩;obtain⟨rfl,hx⟩:=y;exact hs i x σ _ hlt hx p
 · obtain rfl:i=xs.length:=by omega
   exact .inl ⟨⟨Ah _,q⟩,hd σ H p⟩
theorem zfR:typeLookup (.type "tuple") "keys"=pure none:=by rw[typeLookup_type,builtinLookup_eq_fast];kernel_rfl
set_option maxHeartbeats 4000000 in
theorem zhi{prog:Bp}{w:World}{A:BE}{E:Value→Shared→Prop}{a:Addr}{its:Array Value}{n:Nat}{sl:Array (Option Value)}{h:Heap}{g d t os}{Q:Option Value→Shared→Prop}
 (hh:A.handled=none) (hx:h.get? a=some {cls:= .type "tuple",dict:=none,data:= .seq its n,slots:=sl})
 (q:∀h' tk,(∀b o,h.get? b=some o→h'.get? b=some o)→Q none ⟨h',g,d,tk,os⟩):wpAny (model prog w) A (getAttr? (.ref a) "keys") Q E ⟨h,g,d,t,os⟩:=by
 have y0:∀tk',(⟨h,g,d,tk',os⟩:Shared).TypeIs (.ref a) "tuple":=λ_=>⟨_,hx,rfl⟩;have y1:=sub_AttributeError;have y2:=F.slot_tuple_getattribute.lookup;have y3:=F.slot_tuple_getattribute.bind (.ref a);have y4:=am_tuple_getattr_none;unfold getAttr? getAttrBy? getAttrBy
 repeat (any_goals (first
  | assumption
  | exact y0 _
  | ((with_reducible show wpAny _ _ (call (Value.builtin "tuple.__getattribute__") _ _) _ _ _)
     refine call_meets F.slot_tuple_getattribute (y0 _) am_entry_tuple_getattribute (F.args_tuple_getattribute_2 _ _) (meets_getattribute_miss_tuple a its n sl "keys" _ zfR (by decide+kernel)) ⟨hx,hh,λh' tk' e hx'=>?_⟩)
  | wp_step))
 obtain⟨t',u',he⟩:=hx'.there;show wpAny _ _ (getattributeRaised _ _ _ _ _ _ _) _ _ _;unfold getattributeRaised
 repeat (any_goals (first | assumption | wp_step))
 exact q _ _ hx'.keeps
theorem Rb:mroOf (.type "dict")=pure [.type "dict",.type "object"]:=by rw[mroOf_type];kernel_rfl
theorem zhY:typeLookup (.type "dict") "__new__"=pure (some (.builtin "dict.__new__")):=by rw[typeLookup_type,builtinLookup_eq_fast];kernel_rfl
theorem VA:isSubtype (.type "dict") (.type "dict")=pure true:=by rw[isSubtype_type];kernel_rfl
theorem zg6:TypeCalled "dict" "dict.__new__" "dict.__init__":=
 ⟨by decide+kernel,by decide+kernel,⟨_,_,Rb⟩,madeBy_type Rb zhY (by decide+kernel),by decide+kernel,by rw[isSubtype_type];kernel_rfl,PySem.F.slot_dict_init⟩
theorem zhj(a:Value):checkTypeCall "dict" ⟨[a],[]⟩=pure ():=by kernel_rfl
theorem zhR(a:Value):checkBuiltinCall "dict.__new__" ⟨[.type "dict",a],[]⟩=pure ():=by kernel_rfl
theorem zgX:entryFor table "dict.__new__"=some Builtin.«dict.__new__»:=FO (by kernel_rfl)
theorem Wg:plainId "dict.__new__"=true:=by decide+kernel
theorem Wy:entryFor table "dict.update.loop"=some Builtin.«dict.update.loop»:=FO (by kernel_rfl)
theorem Qb:plainId "dict.update.loop"=true:=by decide+kernel
theorem Zx(a:Value){Q₁:Value→Shared→Prop}(h:Q₁ (.ref s.heap.objs.size) {s with heap:=s.heap.push {cls:= .type "dict",data:= .dict #[]}}):
 codeAny (model prog w) A (.call (.builtin "dict.__new__") ⟨[.type "dict",a],[]⟩) (wants Q₁ E) s:=by
 refine Gf ?_;show wpAny _ A.in1 (checkBuiltinCall "dict.__new__" ⟨[.type "dict",a],[]⟩>>=λ_=>again (.builtin "dict.__new__" ⟨[.type "dict",a],[]⟩)) _ _ s;refine Aa (Dv (zhR a) (Ac ⟨Bj Wg _,Bf zgX ?_⟩));rw[AO Wg _];have y1:=VA;have y2:=Rb;obtain⟨hp,g,d,tk,os⟩:=s
 wp_walk
 exact h
structure Pr(P:Bp)(w:World)where
 k:IV
 key:Value
 v:Value
 p:Addr
 is:(JW P w).is k key=true
theorem SZ{d it t:Addr}{vs:Array Value}{R:Result→Shared→Prop}(hh:A.handled=none)(dt:d≠t)(di:d≠it)(ti:t≠it):∀(rest:List (Pr prog w))(i:Nat)(kvs:List (IV×Value))(s:Shared),
 s.heap.IsTupleIter it t i→s.heap.IsTuple t vs→vs.toList.drop i=rest.map (λr=> .ref r.p)→(∀r∈rest,s.heap.IsTuple r.p #[r.key,r.v]∧r.p≠d∧r.p≠it)→s.heap.DictOf (JW prog w) d kvs→kvs.length+rest.length≤Ay→
 (∀h' tk,h'.DictOf (JW prog w) d (rest.foldl (λacc r=>stored acc r.k r.v) kvs)→(∀b o,b≠d→b≠it→s.heap.get? b=some o→h'.get? b=some o)→R (.ok (.ret .none)) {s with heap:=h',toks:=tk})→
 codeAny (model prog w) A (.builtin "dict.update.loop" ⟨[.ref d,.ref it,rawInt i,.none],[]⟩) R s
 | [],i,kvs,s,h1,h2,h3,h4,h5,h6,q=>by
  refine Bf Wy ?_;rw[AO Qb _];show wpAny _ _ (pyNext (.ref it)>>=_) _ _ _;have hv:vs[i]?=none:=by have:vs.toList.length≤i:=List.drop_eq_nil_iff.mp h3;rw[Array.getElem?_eq_none_iff];simpa using this
  refine Aa (Gj (A:=A.in1) hh h1 h2 hv λh' eb=>?_);show wpAny _ _ (Builtin.Dict.addKeywords d []>>=λ_=>ret .none) _ _ _;refine Aa (Ac (Ac ?_));exact q h' _ (h5.extBut eb di) (λb o hb hb2 e=>eb b o hb2 e)
 | r::rest,i,kvs,s,h1,h2,h3,h4,h5,h6,q=>by
  refine Bf Wy ?_;rw[AO Qb _];show wpAny _ _ (pyNext (.ref it)>>=_) _ _ _;have hl:i<vs.toList.length:=by
   rcases CV i vs.toList.length with z | z
   · exact z
   · rw[Gu z] at h3;cases h3
  have hv:vs[i]?=some (.ref r.p):=by
   rw[Bu hl,Ax] at h3;injection h3 with e1 e2
   rw[←e1];simp at hl ⊢
  have h3':vs.toList.drop (i+1)=rest.map (λr=> .ref r.p):=by rw[Bu hl,Ax] at h3;injection h3
  obtain⟨hp,pd,pi⟩:=h4 r (Ao ..);refine Aa (FW h1 h2 hv λh' st' sb=>?_);have hp':h'.IsTuple r.p #[r.key,r.v]:=hp.extBut sb.extBut pi;show wpAny _ _ (holding [.ref r.p] _>>=_) _ _ _;refine Aa (AN (Aa (Ci ?_)));obtain⟨ob,e1,e2,nn,e3⟩:=hp';unfold Builtin.Dict.pairItems;refine Aa (C3 (s:={s with heap:=h'}) ⟨ob,e1,e2⟩ ?_);rw[if_pos (by decide)];refine Aa (AW (s:={s with heap:=h'}) e1 e3 (Ac ?_));show wpAny _ _ (holding [r.key,r.v] (dictSet d r.key r.v)) _ _ _;refine AN (wpAny_dictSet_pairs (s:={s with heap:=h'}) (knd:=JW prog w) r.is (h5.extBut sb.extBut di) (λh2' hd2 sb2=>?_) (by rw[AA] at h6;omega));refine Ac ⟨Bj Qb _,?_⟩;have ks:(stored kvs r.k r.v).length≤kvs.length+1:=by
   unfold stored
   split
   · rw[Ab];omega
   · rw[A6,E1];omega
  have:=SZ (R:=R) hh dt di ti rest (i+1) (stored kvs r.k r.v) {s with heap:=h2',toks:=s.toks+1} (st'.extBut sb2.extBut di.symm) ((h2.extBut sb.extBut ti).extBut sb2.extBut dt.symm) h3'
   (λr' hr'=>by obtain⟨a1,a2,a3⟩:=h4 r' (As _ hr');exact⟨(a1.extBut sb.extBut a3).extBut sb2.extBut a2,a2,a3⟩) hd2 (by rw[AA] at h6;omega)
   (λh3 tk a1 a2=>q h3 tk a1 (λb o hb hb2 e=>a2 b o hb hb2 (sb2.extBut b o hb (sb.extBut b o hb2 e))))
  exact this
noncomputable def XR:List V→Hp→VK→Prop:=λxs H Q=>∃(a:Addr)(prs:List (Addr×IV×V)),xs=[.ref a]∧H a=some (.tup (prs.map λp=>V.ref p.1))∧(∀p∈prs,H p.1=some (.tup [kV p.2.1,p.2.2]))∧
 ∀d,H d=none→Q (.ref d) (IC H d (.dK (prs.foldl (λacc p=>Ja acc p.2.1 p.2.2) [])))
theorem SX(ok:HOk P w H h):∀prs:List (Addr×IV×V),(∀p∈prs,H p.1=some (.tup [kV p.2.1,p.2.2]))→
 ∃rs:List (Pr P w),rs.map (λr=>r.p)=prs.map (·.1)∧(∀r∈rs,h.IsTuple r.p #[r.key,r.v])∧∀(kvs:List (IV×V))(vs:List (IV×Value)),KV kvs vs→KV (prs.foldl (λacc p=>Ja acc p.2.1 p.2.2) kvs) (rs.foldl (λacc r=>stored acc r.k r.v) vs)
 | [],_=>⟨[],rfl,λr hr=>by simp at hr,λkvs vs r=>r⟩
 | p::prs,hp=>by
  obtain⟨rs,e1,e2,e3⟩:=SX ok prs (λq hq=>hp q (As _ hq));obtain⟨_,its,r,tp⟩:=(show ObjOk P w H h p.1 (.tup [kV p.2.1,p.2.2]) from ok p.1 _ (hp p (Ao ..)));obtain⟨u1,u2,rfl,r1,r2⟩:=Nt r;refine⟨⟨p.2.1,u1,u2,p.1,MJ r1⟩::rs,by rw[Ax,Ax,e1],λq hq=>?_,λkvs vs rv=>?_⟩
  · rcases Aw.mp hq with rfl | hq
    · exact tp.tup
    · exact e2 q hq
  · rw[Gg,Gg];exact e3 _ _ (rv.put p.2.1 r2)
theorem zjQ(hc:X.calm=true):KH X (.type "dict") XR:=by
 intro pins s σ H xs us Q I r h;obtain⟨a,prs,rfl,ha,hp,q⟩:=h;obtain⟨u,rfl,rx⟩:=KA r;cases rx;obtain⟨zl,its,rv,o,e1,e2,e3,n,e4⟩:=(show ObjOk X.prog X.w H s.heap a (.tup (prs.map λp=>V.ref p.1)) from I.hok a _ ha);obtain⟨oc,od,odat,osl⟩:=o;cases e2;cases e3;cases e4;have hh:=I.ok.hd hc;have sz:s.heap.objs.size≠a:=C2 (Am e1);refine callType_codes (Q₁:=λobj s₁=>obj= .ref s.heap.objs.size∧s₁={s with heap:=s.heap.push {cls:= .type "dict",data:= .dict #[]}}) zg6 (zhj _) PySem.F.entry_dict_init (Zx _ ⟨rfl,rfl⟩) λobj s₁ h₁=>?_
 obtain⟨rfl,rfl⟩:=h₁;have I1:=I.laid (a:=s.heap.objs.size) (o:= .dK []) (h':=s.heap.push {cls:= .type "dict",data:= .dict #[]}) (t':=s.toks) (λ_ _ q=>Ad _ q) (Ah _) (UX s.heap I.big);have hD:(s.heap.push {cls:= .type "dict",data:= .dict #[]}).get? s.heap.objs.size=some {cls:= .type "dict",data:= .dict #[]}:=Ak _ rfl;refine⟨⟨_,hD,rfl⟩,PySem.F.args_dict_init_2 _ _,?_⟩;have hT:Shared.TypeIs {s with heap:=s.heap.push {cls:= .type "dict",data:= .dict #[]}} (.ref s.heap.objs.size) "dict":=⟨_,hD,rfl⟩;have hA:(s.heap.push {cls:= .type "dict",data:= .dict #[]}).get? a=some {cls:= .type "tuple",dict:=none,data:= .seq its.toArray n,slots:=osl}:=Ad _ e1;unfold Builtin.«dict.__init__» Builtin.Dict.selfAndRest;refine Aa (Aa (E4 hT (Ac ?_)));show wpAny _ _ (FZ "dict.__init__" s.heap.objs.size (.ref a) [] .none) _ _ _;unfold FZ;refine Aa (C3 (s:={s with heap:=s.heap.push {cls:= .type "dict",data:= .dict #[]}}) ⟨_,hA,rfl⟩ ?_);rw[if_pos (by decide)];obtain⟨rs,r1,r2,r3⟩:=SX I.hok prs hp;have hits:its=rs.map (λr=>Value.ref r.p):=by
  have e:∀(l:List (Addr×IV×V))(m:List Value),Vals (l.map λp=>V.ref p.1) m→m=(l.map (·.1)).map Value.ref:=by
   intro l
   induction l with
   | nil=>intro m q;cases q;rfl
   | cons p l ih=>
    intro m q;cases q with
    | cons q1 q2=>cases q1;rw[ih _ q2];rfl
  rw[e prs its rv,←r1,Bx];rfl
 have hlen:rs.length=prs.length:=by have:=congrArg Be r1;simpa using this
 rw[Ab] at zl;have hsys:=I.big;obtain⟨hp0,g,dr,tk0,os⟩:=s;refine Aa (zhi (A:=X.A.in1.in1) hh hA λh' tk kp=>?_);simp only[Option.isNone_none,if_true];have kp0:∀b o,hp0.get? b=some o→h'.get? b=some o:=λb o e=>kp b o (Ad _ e);have I2:Inv X pins σ (IC H hp0.objs.size (.dK [])) ⟨h',g,dr,tk,os⟩:=I1.kept (t':=tk) kp;have hA':h'.IsTuple a its.toArray:=⟨_,kp _ _ hA,rfl,_,rfl⟩;have dlt:hp0.objs.size<h'.objs.size:=Am (kp _ _ hD);have alt:a<h'.objs.size:=Am (kp _ _ hA);refine Aa (BA (Aa (CA (s:=⟨h',g,dr,tk,os⟩) hA' (Ac ⟨Bj Qb _,?_⟩))));obtain⟨zd,hd,vs0,rk0,dd⟩:=Lq I2.hok (show(IC H hp0.objs.size (.dK [])) hp0.objs.size=some (.dK []) from IE);cases rk0;refine SZ (A:=X.A.in1) hh sz (Ar dlt) (Ar alt) rs 0 [] _ ⟨_,Ak _ rfl,rfl,rfl⟩ (F0 hA' _) ?_ ?_ (dd.push _) ?_ ?_
 · rw[EU,←hits]
 · intro r hr;have t0:=r2 r hr;have plt:r.p<hp0.objs.size:=by
    obtain⟨o,e,_⟩:=t0;exact Am e
   exact⟨F0 (t0.at λo e=>kp0 _ o e) _,Ar plt,Ar (BY plt dlt)⟩
 · rw[hlen];simpa using zl
 · intro h2 tk2 hd2 k2;have k3:∀b u,b≠hp0.objs.size→h'.get? b=some u→h2.get? b=some u:=λb u hb e=>k2 b u hb (Ar (Am e)) (Ad _ e);have he:∃q,h2.get? hp0.objs.size=some q:=let⟨q,_,_,hq,_⟩:=hd2;⟨q,hq⟩;have hz:(prs.foldl (λacc p=>Ja acc p.2.1 p.2.2) []).length≤Ay:=by
    have len:∀(l:List (Addr×IV×V))(acc:List (IV×V)),(l.foldl (λacc p=>Ja acc p.2.1 p.2.2) acc).length≤acc.length+l.length:=by
     intro l
     induction l with
     | nil=>intro acc;exact Ah _
     | cons p l ih=> intro acc;rw[Gg,AA];have h1:=ih (Ja acc p.2.1 p.2.2);have h2:=Os acc p.2.1 p.2.2;omega
    have:=len prs [];simp at this;omega
   have I3:=I2.write (x:=hp0.objs.size) (e:=hp0.objs.size) (o:= .dK (prs.foldl (λacc p=>Ja acc p.2.1 p.2.2) [])) (t':=tk2) (by rw[IE];exact True.intro) (.inl rfl) k3 he (Qr hz hd (r3 [] [] .nil) hd2);rw[Yj] at I3;exact⟨rfl,.ref hp0.objs.size,_,I3,rfl,q _ (I.hok.fresh (Ah _))⟩
section
variable{te:TE}{p2 p3 p4:Pos}
noncomputable def RM(K:Ae)(te:TE):TE:=λσ H Q=>te σ H λx H1=>∃a xs,x= .ref a∧SqL K H1 a xs∧∀p,H1 p=none→Q (.ref p) (IC H1 p (.lst xs.reverse))
theorem Vals.rev:∀{xs:List V}{us:List Value},Vals xs us→Vals xs.reverse us.reverse
 | _,_,.nil=> .nil
 | _,_,.cons r t=>by rw[List.reverse_cons,List.reverse_cons];exact(Vals.rev t).append (.cons r .nil)
theorem XM(he:PE X e te):PE X (.Subscript e (.Slice none none (some (.UnaryOp .USub (.Constant (.int 1) n p3) p4)) p2) pos) (RM X.K te):=by
 intro pins s σ H Q I h;refine Subscript_ (IG (he pins s σ H _ I h) λv s1 ⟨x,H1,I1,r1,a,xs,hx,hq,q1⟩=>?_);subst hx;cases r1;refine wpAny_Slice ?_;rw[evalPart_none,evalPart_some];refine Ac (Ac ?_);have hst:PE X (.UnaryOp .USub (.Constant (.int 1) n p3) p4) _:=WR Xv IF;refine IG (hst pins s1 σ H1 (λv H2=>v= .int (-1)∧H2=H1) I1 ⟨1,rfl,rfl,rfl⟩) λvs s2 ⟨y,H2,I2,r2,e2,e3⟩=>?_;subst e2 e3;obtain⟨t,rfl⟩:=r2;have I4:Inv X pins σ H2 {s2 with heap:=s2.heap.push {cls:= .type "slice",data:= .fields #[.none,.none,.int (-1) t]}}:=I2.kept (t':=s2.toks) λb ob q=>Ad _ q
 obtain⟨its,r,ht,hz⟩:=I4.list hq;have hlen:=r.length;have hg:wpAny (model X.prog X.w) X.A (getItem (.ref a) (.ref s2.heap.objs.size)) (EP X pins σ Q) X.xe {s2 with heap:=s2.heap.push {cls:= .type "slice",data:= .fields #[.none,.none,.int (-1) t]}}:=by refine FK ht.isList (Heap.IsSliceOf.new ..) .none .none (.int (-1) t) (by decide) ?_ (by rw[Av]<;>omega);rw[PySem.W.krv_pick];refine⟨.ref _,_,I4.laid (t':=s2.toks) (o:= .lst xs.reverse) (λb ob q=>Ad _ q) (Ah _) ?_,rfl,q1 _ (I4.hok.fresh (Ah _))⟩;exact⟨by rw[EM];exact hz,_,0,Vals.rev r,Ak _ rfl⟩
 show wpAny (model X.prog X.w) X.A (subscriptTail e (.Slice none none (some (.UnaryOp .USub (.Constant (.int 1) n p3) p4)) p2) (.ref a) (.ref s2.heap.objs.size)) (EP X pins σ Q) X.xe {s2 with heap:=s2.heap.push {cls:= .type "slice",data:= .fields #[.none,.none,.int (-1) t]}}
 exact tail_any (ops:=_) ht.isList.typeIs Fw.lookup hg (by with_unfolding_all rfl)
end
noncomputable def RK(ns:List Int):Nat:=(ns.foldl step_dedup []).length
section
variable{te:TE}{p2 p3 p4:Pos}
end
end L2
namespace WB
end WB
namespace L2
noncomputable def SI(i j:Int):Prop:=i.natAbs<2^1000∧j.natAbs<2^1000
theorem Nz:J2 X (binaryOp .Mult) (rI SI λi j=> .int (i*j)):=O0 λi j _ _ _ _ _ hc q=> mul_int q (IntMulOk.of_bits (AD (intBits_le hc.1) (by decide)) (AD (intBits_le hc.2) (by decide)))
theorem Q7(K:Ae)(h:X.K=K)(hr:KP X):J2 X (BF .NotEq) (Na K):=by subst h;exact NU hr
section
variable{K:Ae}{Q:VK}
end
theorem nb{i:Int}(h0:0≤i)(h1:i<2^400):i.natAbs<2^1000:=by
 have:i.natAbs<2^400:=by omega
 exact AG this (by decide)
noncomputable def OW(K:Ae):Sp:=λvs H Q _=>∃(a:Addr)(ns:List Int),vs=[.ref a]∧SqL K H a (ns.map V.int)∧ns.length≤63∧∀H',Q (.bl true) H'
theorem mn(i j:Int):(if j<i then j else i)=min i j:=by rw[Int.min_def];split<;>split<;>omega
noncomputable def Tups(H H':Hp):Prop:=∀a xs,H a=some (.tup xs)→H' a=some (.tup xs)
theorem Tups.trans{H1 H2:Hp}(a:Tups H H1)(b:Tups H1 H2):Tups H H2:=λc xs h=>b c xs (a c xs h)
theorem Same.tups{H':Hp}(s:Same H H'):Tups H H':=λa xs h=>s _ _ h
theorem LJ{p:Addr}{ys:List V}{o:HO}(h:H p=some (.lst ys)):Tups H (IC H p o):=λa xs e=>by rw[IZ (LD e h (by intro z;cases z))];exact e
theorem JP{H0:Hp}{p:Addr}{o:HO}(s:Same H0 H)(n:H0 p=none):Same H0 (IC H p o):=λa u e=>by rw[IZ (JY e n)];exact s _ _ e
noncomputable def KC:V→Bool
 | .non=>true
 | .int _=>true
 | _=>false
noncomputable def Sq:V→V→Bool
 | .int i,.int j=>decide (i≤j)
 | _,_=>true
noncomputable def Li(H:Hp):V→Bool
 | .ref a=>match H a with
  | some (.tup [x,y])=>KC x && KC y && Sq x y
  | _=>false
 | _=>false
noncomputable def SpanAt(H:Hp)(v:V)(lo hi:Option Int):Prop:=∃a,v= .ref a∧H a=some (.tup [eV lo,eV hi])
noncomputable def Ke:Option Int→Option Int→Bool
 | some i,some j=>decide (i≤j)
 | _,_=>true
theorem zk6{v:V}{lo hi:Option Int}(h:SpanAt H v lo hi):Li H v=Ke lo hi:=by obtain⟨a,rfl,e⟩:=h;unfold Li;simp only[e];cases lo<;>cases hi<;>simp[eV,KC,Sq,Ke]
theorem SU{K:Ae}(o:Option Int):∃t,TyOf K H (eV o) (.type t):=by
 cases o with
 | none=>exact⟨_,.non⟩
 | some i=>exact⟨_,.int i⟩
noncomputable def Ph(K:Ae):Sp:=λvs H Q _=>∃(v:V)(t:String),vs=[v]∧TyOf K H v (.type t)∧Q (.bl (t=="int")) H
noncomputable def SM(K:Ae):Sp:=λvs H Q _=>∃(v:V)(t:String),vs=[v]∧TyOf K H v (.type t)∧Q (.bl (KC v)) H
noncomputable def Tc(K:Ae)(H:Hp)(v:V):Prop:=∀a x y,v= .ref a→H a=some (.tup [x,y])→∃t1 t2,TyOf K H x (.type t1)∧TyOf K H y (.type t2)
noncomputable def UK(K:Ae):Sp:=λvs H Q _=>∃(v:V)(t:String),vs=[v]∧TyOf K H v (.type t)∧Tc K H v∧Q (.bl (Li H v)) H
theorem SpanAt.ty{K:Ae}{v:V}{lo hi:Option Int}(h:SpanAt H v lo hi):TyOf K H v (.type "tuple")∧Tc K H v:=by obtain⟨a,rfl,q⟩:=h;refine⟨.tup q,λa' x y e q'=>?_⟩;cases e;rw[q] at q';injection q' with q';injection q' with q';injection q' with e1 e2;injection e2 with e2 _;subst e1 e2;obtain⟨t1,h1⟩:=SU (K:=K) (H:=H) lo;obtain⟨t2,h2⟩:=SU (K:=K) (H:=H) hi;exact⟨t1,t2,h1,h2⟩
noncomputable def LP:Option Int→Option Int→Bool
 | none,_=>true
 | some _,none=>false
 | some l,some o=>decide (l≤o)
noncomputable def NG:Option Int→Option Int→Bool
 | none,_=>true
 | some _,none=>false
 | some h,some o=>decide (o≤h)
noncomputable def Lv(lo hi lo2 hi2:Option Int):Bool:=LP lo lo2 && NG hi hi2
noncomputable def Kr:Option Int→Option Int→Option Int
 | none,o=>o
 | some l,none=>some l
 | some l,some o=>some (if l<o then o else l)
noncomputable def Ks:Option Int→Option Int→Option Int
 | none,o=>o
 | some h,none=>some h
 | some h,some o=>some (if o<h then o else h)
noncomputable def J4:Option Int→Option Int→Bool
 | some l,some h=>decide (h<l)
 | _,_=>false
noncomputable def OT(H:Hp)(v:V)(lo hi:Option Int):Prop:=if J4 lo hi=true then v= .non else SpanAt H v lo hi
noncomputable def JL:Option Int→Int→Bool
 | none,_=>true
 | some l,k=>decide (l≤k)
noncomputable def JQ:Option Int→Int→Bool
 | none,_=>true
 | some h,k=>decide (k≤h)
noncomputable def Jr(lo hi:Option Int)(k:Int):Bool:=JL lo k && JQ hi k
noncomputable def U9:Sp:=λvs H Q _=>∃(v w:V)(lo hi lo2 hi2:Option Int),vs=[v,w]∧SpanAt H v lo hi∧SpanAt H w lo2 hi2∧Q (.bl (Lv lo hi lo2 hi2)) H
noncomputable def UM:Sp:=λvs H Q _=>∃(v w:V)(lo hi lo2 hi2:Option Int),vs=[v,w]∧SpanAt H v lo hi∧SpanAt H w lo2 hi2∧∀v' H',Same H H'→OT H' v' (Kr lo lo2) (Ks hi hi2)→Q v' H'
theorem Zw(o1 o2:Option Int):∃ns:List Int,([o1,o2].filter Fp).map eV=ns.map V.int∧OU (λi j=>decide (j<i)) ns .non=eV (Kr o1 o2):=by
 cases o1 with
 | none=>
  cases o2 with
  | none=>exact⟨[],rfl,rfl⟩
  | some b=>exact⟨[b],rfl,rfl⟩
 | some a=>
  cases o2 with
  | none=>exact⟨[a],rfl,rfl⟩
  | some b=>
   refine⟨[a,b],rfl,?_⟩;show V.int (if decide (a<b)=true then b else a)=V.int (if a<b then b else a)
   by_cases h:a<b
   · rw[if_pos (decide_eq_true h),if_pos h]
   · rw[if_neg (by rw[decide_eq_false h];exact Au),if_neg h]
theorem YL(o1 o2:Option Int):∃ns:List Int,([o1,o2].filter Fp).map eV=ns.map V.int∧OU (λi j=>decide (i<j)) ns .non=eV (Ks o1 o2):=by
 cases o1 with
 | none=>
  cases o2 with
  | none=>exact⟨[],rfl,rfl⟩
  | some b=>exact⟨[b],rfl,rfl⟩
 | some a=>
  cases o2 with
  | none=>exact⟨[a],rfl,rfl⟩
  | some b=>
   refine⟨[a,b],rfl,?_⟩;show V.int (if decide (b<a)=true then b else a)=V.int (if b<a then b else a)
   by_cases h:b<a
   · rw[if_pos (decide_eq_true h),if_pos h]
   · rw[if_neg (by rw[decide_eq_false h];exact Au),if_neg h]
noncomputable abbrev T15:Int:=1000000000000000
theorem NK:(10:Int)^(15:Int).toNat=T15:=by decide
theorem Kz{j:Int}(h0:0≤j)(h1:j≤1000):SJ 10 j:=⟨h0,h1,by decide⟩
noncomputable def O2:Option Int→List Int
 | none=>[]
 | some e=>[e - 1,e,e+1]
noncomputable def Sj:List Int:=[0,10^(17:Int).toNat,0 - 10^(17:Int).toNat]
noncomputable def WS(ss:List (Option Int×Option Int)):List Int:=Sj++ss.flatMap λs=>O2 s.1++O2 s.2
noncomputable def spPoints(K:Ae):Sp:=λvs H Q _=>∃(a:Addr)(ss:List (Addr×Option Int×Option Int)),vs=[.ref a]∧SqL K H a (ss.map λs=>V.ref s.1)∧(∀s∈ss,H s.1=some (.tup [eV s.2.1,eV s.2.2]))∧ss.length≤8∧
 ∀r H',Same H H'→H' r=some (.lst ((WS (ss.map (·.2))).map V.int))→Q (.ref r) H'
theorem n'a(a b:Option Int)(k:Int):JL (Kr a b) k=(JL a k && JL b k):=by
 cases a with
 | none=>rfl
 | some l=>
  cases b with
  | none=>exact(Bool.and_true _).symm
  | some o=>
   show decide ((if l<o then o else l)≤k)=(decide (l≤k) && decide (o≤k));rw[←Bool.decide_and,decide_eq_decide];split<;>omega
theorem n'b(a b:Option Int)(k:Int):JQ (Ks a b) k=(JQ a k && JQ b k):=by
 cases a with
 | none=>rfl
 | some l=>
  cases b with
  | none=>exact(Bool.and_true _).symm
  | some o=>
   show decide (k≤(if o<l then o else l))=(decide (k≤l) && decide (k≤o));rw[←Bool.decide_and,decide_eq_decide];split<;>omega
theorem NT(lo hi lo2 hi2:Option Int)(k:Int):Jr (Kr lo lo2) (Ks hi hi2) k=(Jr lo hi k && Jr lo2 hi2 k):=by
 unfold Jr;rw[n'a,n'b,Bool.and_assoc,Bool.and_assoc,Bool.and_left_comm (JL lo2 k)]
theorem Zl{lo hi:Option Int}(h:J4 lo hi=true)(k:Int):Jr lo hi k=false:=by
 cases lo with
 | none=>cases h
 | some l=>
  cases hi with
  | none=>cases h
  | some j=>
   have h:decide (j<l)=true:=h;have h:=of_decide_eq_true h;simp only[Jr,JL,JQ];by_cases h1:l≤k
   · rw[decide_eq_true h1,decide_eq_false (by omega)];rfl
   · rw[decide_eq_false h1];rfl
noncomputable def dE:Option Int→PD
 | none=> .non
 | some i=> .int i
theorem TM{K:Ae}(o:Option Int):Rep K H (dE o) (eV o):=by
 cases o with
 | none=>show Rep K H .non .non;rw[Rep]
 | some i=>show Rep K H (.int i) (.int i);rw[Rep]
noncomputable def Ma(c:Nat):Bool:=decide (97≤c) && decide (c≤122)
structure FieldOk(x:Str):Prop where
 one:1≤x.length
 eight:x.length≤8
 all:∀c∈x.cps.toList,Ma c=true
theorem Xl:("a":Str).cps.toList=[97]:=by decide+kernel
theorem Xm:("z":Str).cps.toList=[122]:=by decide+kernel
theorem Sy{c:Nat}(h:Ma c=true):(!decide ((⟨#[c]⟩:Str).cps.toList<("a":Str).cps.toList))=true:=by
 rw[Xl];have h1:97≤c:=of_decide_eq_true ((AF _ _).mp h).1;have:¬([c]:List Nat)<[97]:=by
  intro z;cases z with
  | rel z=>exact absurd z (by omega)
  | cons z=>cases z
 show(!decide (([c]:List Nat)<[97]))=true;rw[decide_eq_false this];rfl
theorem So{c:Nat}(h:Ma c=true):(!decide (("z":Str).cps.toList<(⟨#[c]⟩:Str).cps.toList))=true:=by
 rw[Xm];have h1:c≤122:=of_decide_eq_true ((AF _ _).mp h).2;have:¬([122]:List Nat)<[c]:=by
  intro z;cases z with
  | rel z=>exact absurd z (by omega)
  | cons z=>cases z
 show(!decide (([122]:List Nat)<[c]))=true;rw[decide_eq_false this];rfl
noncomputable def Us:Sp:=λvs H Q _=>∃x:Str,vs=[.str x]∧FieldOk x∧∀H',Same H H'→Q (.bl true) H'
noncomputable def Xj(H:Hp)(p:Addr)(f:Str)(lo hi:Option Int):Prop:=H p=some (.tup [.str f,eV lo,eV hi])
noncomputable def Wt:Sp:=λvs H Q _=>∃(p:Addr)(f:Str)(lo hi:Option Int),vs=[.ref p]∧Xj H p f lo hi∧FieldOk f∧Ke lo hi=true∧∀H',Same H H'→Q (.bl true) H'
noncomputable def Jq(f g:Str):Prop:=f.cps.toList<g.cps.toList
noncomputable def UI:Sp:=λvs H Q _=>∃(a:Addr)(ps:List (Addr×Str×List V)),vs=[.ref a]∧H a=some (.tup (ps.map λp=>V.ref p.1))∧ps.length≤100∧(∀p∈ps,H p.1=some (.tup (V.str p.2.1::p.2.2)))∧
 (∀(i:Nat)p q,ps[i]?=some p→ps[i+1]?=some q→Jq p.2.1 q.2.1)∧∀H',Same H H'→Q (.bl true) H'
noncomputable abbrev WP:=Str×Option Int×Option Int
noncomputable def WishAt(H:Hp)(a:Addr)(w:List WP):Prop:=∃ps:List (Addr×WP),ps.map (·.2)=w∧H a=some (.tup (ps.map λp=>V.ref p.1))∧∀p∈ps,H p.1=some (.tup [.str p.2.1,eV p.2.2.1,eV p.2.2.2])
theorem WishAt.keep{H':Hp}{w:List WP}(h:WishAt H a w)(s:Tups H H'):WishAt H' a w:=by obtain⟨ps,e,h1,h2⟩:=h;exact⟨ps,e,s _ _ h1,λp hp=>s _ _ (h2 p hp)⟩
theorem WishAt.same{H':Hp}{w:List WP}(h:WishAt H a w)(s:Same H H'):WishAt H' a w:=h.keep s.tups
structure WOk(w:List WP):Prop where
 len:w.length≤100
 ok:∀p∈w,FieldOk p.1∧Ke p.2.1 p.2.2=true
 asc:(w.map (·.1)).Pairwise Jq
noncomputable def IR(w:List WP)(f:Str):Option (Option Int×Option Int):=(w.find? (λp=>decide (p.1=f))).map (·.2)
theorem Wi{w:List WP}{f:Str}(h:∀p∈w,p.1≠f):IR w f=none:=by unfold IR;rw[CW.mpr λp hp z=>h p hp (of_decide_eq_true z)];rfl
theorem Wj(w:List WP)(p:WP)(f:Str)(hn:IR w p.1=none):IR (w++[p]) f=if f=p.1 then some p.2 else IR w f:=by
 unfold IR at*;rw[F6];by_cases h:f=p.1
 · subst h;rw[if_pos rfl];cases e:w.find? (λq=>decide (q.1=p.1)) with
   | some q=>rw[e] at hn;cases hn
   | none=>simp
 · rw[if_neg h];cases e:w.find? (λq=>decide (q.1=f)) with
   | some q=>rfl
   | none=>simp;exact λz=>h z.symm
theorem Mv{f g:Str}(h:Jq f g):f≠g:=λe=>by subst e;exact D_ _ h
theorem WOk.fresh{w:List WP}(h:WOk w){p:WP}(hp:w[i]?=some p):IR (w.take i) p.1=none:=by
 refine Wi λq hq e=>?_;obtain⟨j,hj⟩:=GF hq;rw[List.getElem?_take] at hj
 split at hj
 · rename_i lt;have hi:i<w.length:=(An.mp hp).1;have:=Dj.mp h.asc j i (by rw[Ab];omega) (by rw[Ab];exact hi) lt;rw[CN,CN] at this;have e1:w[j]'(by omega)=q:=(An.mp hj).2;have e2:w[i]=p:=(An.mp hp).2;rw[e1,e2] at this;exact Mv this e
 · cases hj
noncomputable def DictSp(H:Hp)(d:Addr)(w:List WP):Prop:=∃kvs:List (IV×V),H d=some (.dK kvs)∧kvs.length≤w.length∧∀f:Str,match IR w f with
 | none=>Jb kvs (.inr f)=none
 | some s=>∃t,Jb kvs (.inr f)=some (.ref t)∧H t=some (.tup [eV s.1,eV s.2])
theorem DictSp.same{H':Hp}{d:Addr}{w:List WP}(h:DictSp H d w)(s:Same H H'):DictSp H' d w:=by
 obtain⟨kvs,e,l,q⟩:=h;refine⟨kvs,s _ _ e,l,λf=>?_⟩;have:=q f;cases hs:IR w f with
 | none=>rw[hs] at this;exact this
 | some sp=>rw[hs] at this;obtain⟨t,h1,h2⟩:=this;exact⟨t,h1,s _ _ h2⟩
noncomputable def Mx(other:List WP)(p:WP):Bool:=match IR other p.1 with
 | none=>false
 | some s=>Lv p.2.1 p.2.2 s.1 s.2
theorem Wh{other:List WP}{p:WP}(h:IR other p.1=none):Mx other p=false:=by unfold Mx;rw[h]
theorem Rh{other:List WP}{p:WP}{s:Option Int×Option Int}(h:IR other p.1=some s):Mx other p=Lv p.2.1 p.2.2 s.1 s.2:=by unfold Mx;rw[h]
noncomputable def JC(one other:List WP):Bool:=one.all (Mx other)
noncomputable def UL:Sp:=λvs H Q _=>∃(a:Addr)(w:List WP),vs=[.ref a]∧WishAt H a w∧WOk w∧∀H',Same H H'→Q (.bl true) H'
noncomputable def V5:Sp:=λvs H Q _=>∃(a d:Addr)(w w':List WP),vs=[.ref a,.ref d]∧WishAt H a w∧DictSp H d w'∧∀H',Same H H'→Q (.bl (JC w w')) H'
noncomputable def MH:Option Int→Option Int→Int
 | some l,_=>l
 | none,some h=>h
 | none,none=>0
noncomputable def Uu:Sp:=λvs H Q _=>∃(v:V)(lo hi:Option Int),vs=[v]∧SpanAt H v lo hi∧Q (.int (MH lo hi)) H
noncomputable abbrev PP:=Str×Int
noncomputable def PieceAt(H:Hp)(a:Addr)(w:List PP):Prop:=∃ps:List (Addr×PP),ps.map (·.2)=w∧H a=some (.tup (ps.map λp=>V.ref p.1))∧∀p∈ps,H p.1=some (.tup [.str p.2.1,.int p.2.2])
theorem XX{K:Ae}{a p:Addr}{xs:List V}{g:TG}{tc:TT}{tk tv:TE}{Q:VK}{js:J5}(Pv:Nat→St→List (IV×V)→Hp→Prop)(h0:Pv 0 (Kf js σ) [] (IC H p (.dK [])))
 (hl:∀i σ kvs H,i≤xs.length→Pv i σ kvs H→SqT K H a xs∧H p=some (.dK kvs)∧kvs.length<Ay)
 (hs:∀(i:Nat)x σ kvs H(N:St→List (IV×V)→Hp→Prop),xs[i]?=some x→Pv i σ kvs H→(∀σ' kvs' H',Pv (i+1) σ' kvs' H'→N σ' kvs' H')→g x σ H λσ2 H2=>tc σ2 H2 λb H3=> if b=true then tk σ2 H3 λk H4=>tv σ2 H4 λy H5=>∃ky,k=kV ky∧H5 p=some (.dK kvs)∧N σ2 (Ja kvs ky y) (IC H5 p (.dK (Ja kvs ky y))) else N σ2 kvs H3)
 (hd:∀σ kvs H,Pv xs.length σ kvs H→Q (.ref p) H):Qs (LO K a) p js g tc tk tv σ H Q:=by
 refine⟨λi m σ kvs H=>m=xs.length - i∧i≤xs.length∧Pv i σ kvs H,⟨xs.length,by simp,AK _,h0⟩,?_⟩;rintro i m σ kvs H ⟨rfl,hi,pv⟩;obtain⟨q0,q1,q2⟩:=hl i σ kvs H hi pv;refine⟨q1,?_⟩;by_cases lt:i<xs.length
 · refine .inr ⟨⟨xs,xs[i],q0,by simp[lt]⟩,q2,λx H' y=>?_⟩;obtain⟨e,y⟩:=y;subst e;exact hs i x σ kvs H' (λσ2 kvs2 H2=>∃m',m'<xs.length - i∧m'=xs.length - (i+1)∧i+1≤xs.length∧Pv (i+1) σ2 kvs2 H2) (y xs q0) pv λσ' ys' H' p'=>⟨xs.length - (i+1),by omega,rfl,lt,p'⟩
 · have e:i=xs.length:=by omega
   subst e;exact .inl ⟨⟨xs,q0,Ah _⟩,hd σ kvs H pv⟩
theorem UF:∀{ts:List Str}{us:List Value},Vals (ts.map V.str) us→∃l:List (Str×Tok),strValues l=us∧l.map (·.1)=ts
 | [],_,h=>by cases h;exact⟨[],rfl,rfl⟩
 | x::ts,_,h=>by
  rw[Ax] at h;cases h with
  | cons r h=> obtain⟨t,rfl⟩:=r;obtain⟨l,h1,h2⟩:=UF h;exact⟨(x,t)::l,by rw[←h1];rfl,by rw[←h2];rfl⟩
theorem Wu:∀{ts:List Str}{us:List Value},Vals (ts.map V.str) us→StrsAre us ts
 | [],_,h=>by cases h;exact .nil
 | x::ts,_,h=>by
  rw[Ax] at h;cases h with
  | cons r h=> obtain⟨t,rfl⟩:=r;exact .cons _ _ (Wu h)
theorem Qd:∀{us:List Value}{ts:List Str},StrsAre us ts→Vals (ts.map V.str) us
 | _,_,.nil=> .nil
 | _,_,.cons n t h=> .cons ⟨t,rfl⟩ (Qd h)
noncomputable def WU(K:Ae):V→List V→Hp→VK→Prop:=λx vs H Q=>∃(y:Str)(a:Addr)(ts:List Str),x= .str y∧vs=[.ref a]∧SqL K H a (ts.map V.str)∧JoinOk y ts=true∧Q (.str (Txt.join y ts)) H
theorem Yo:SE X "str.join" (WU X.K):=by intro pins s σ H x vs v us Q I rx rv h;obtain⟨y,a,ts,rfl,rfl,hq,hok,q⟩:=h;obtain⟨t,rfl⟩:=rx;obtain⟨u,rfl,ru⟩:=rv.one;cases ru;obtain⟨its,r,ht,hz⟩:=I.list hq;obtain⟨l,rfl,rfl⟩:=UF r;unfold JoinOk at hok;rw[Dx] at hok;refine call_meets F.slot_str_join (typeIs_str _ _ _) F.entry_str_join (F.args_str_join_2 _ _) (meets_str_join_list y t a l hok) ⟨ht.isList,post_join l ⟨joinFit_length hok,λt' k=>?_⟩⟩;exact⟨.str _,H,I.kept (t':=k) λb o e=>e,⟨t',rfl⟩,q⟩
noncomputable def XT(K:Ae):List V→Hp→VK→Prop:=λxs H Q=>∃(a:Addr)(ns:List Str),xs=[.ref a]∧SqL K H a (ns.map V.str)∧ns.length<64∧
 ∀(p:Addr)(ms:List Str),ms.Perm ns→sortedS ms=true→H p=none→Q (.ref p) (IC H p (.lst (ms.map V.str)))
theorem zg7:KH X (.builtin "sorted") (XT X.K):=by
 intro pins s σ H xs us Q I r h;obtain⟨a,ns,rfl,hq,h64,q⟩:=h;obtain⟨u,rfl,rx⟩:=KA r;cases rx;obtain⟨its,rv,ht,hz⟩:=I.list hq;have hl:=rv.length;rw[Ab] at hl;refine sorted_strs ht.isList (Wu rv) (by omega) λout ns' a1 a2 a3=>?_;obtain⟨e,he⟩:=sortedAll_at s.heap its out;have hn:H (s.heap.objs.size+1)=none:=I.hok.fresh (CS _);have hlen:ns'.length=ns.length:=a2.length_eq;refine⟨.ref (s.heap.objs.size+1),IC H (s.heap.objs.size+1) (.lst (ns'.map V.str)),I.laid (t':=s.toks) (λb o e=>sortedAll_old e) (CS _) ?_,rfl,q _ ns' a2 a3 hn⟩;have hz':ns.length≤Ay:=by rw[Ab] at hz;exact hz
 exact⟨by rw[Ab];omega,out.toList,e,Qd a1,by simpa [Bo] using he⟩
theorem XI(t:Cw)(n:Nat):(t.orStandIn n).led=t.led:=by unfold SetTable.orStandIn;split<;>rfl
theorem Zh(t:Cw)(n:Nat)(h:t.plain=false):(t.orStandIn n).plain=false:=by
 unfold SetTable.orStandIn
 split
 · exact h
 · rfl
theorem YK(t:Cw)(es:Array (Int×Value))(h:Int)(x:Value):(layNew t es h x).2.1.led=t.led:=by
 unfold layNew
 split
 · exact(XI _ _).trans rfl
 · rfl
theorem zk0(t:Cw)(es:Array (Int×Value))(h:Int)(x:Value):t.plain=false→(layNew t es h x).2.1.plain=false:=by
 intro hp;unfold layNew
 split
 · exact Zh _ _ hp
 · rfl
theorem U3{mask finger moves:Nat}{led plain:Bool}{hs:Array Int}{t:Cw}{o:Array Nat}(h:SetTable.laid mask finger moves led plain hs=some (t,o)):t.led=led∧t.plain=plain:=by
 unfold SetTable.laid at h;cases h1:SetTable.layClean mask hs with
 | none=>rw[h1] at h;cases h
 | some ow=> rw[h1] at h;simp only[Option.bind_eq_bind,Option.bind_some,Option.pure_def,F7,Prod.mk.injEq] at h;rw[←h.1];exact⟨rfl,rfl⟩
theorem zkq(t:Cw)(es:Array (Int×Value))(n:Nat):(relayAll t es n).2.1.led=t.led:=by
 unfold relayAll
 split
 · rename_i t' o h;dsimp only
   split
   · exact(U3 h).1
   · rfl
 · rfl
theorem zhv(t:Cw)(es:Array (Int×Value))(n:Nat)(hp:t.plain=false):(relayAll t es n).2.1.plain=false:=by
 unfold relayAll
 split
 · rename_i t' o h;dsimp only
   split
   · rw[←hp];exact(U3 h).2
   · rfl
 · rfl
noncomputable def Js(w:World):Bool:=w.params.followText "set-order"
structure TxSet(prog:Bp)(w:World)(h:Heap)(a:Addr)(ks:List Str):Prop where
 at':∃(es:Array (Int×Value))(ep:Nat)(t:Cw),h.get? a=some {cls:= .type "set",dict:=none,data:= .set es ep t}∧ElemsOf (strKind prog w) es.toList∧
  StrsAre (es.toList.map (·.2)) ks∧t.fits es.size=true∧t.led=!Js w∧(es.size=0∨t.plain=false)
 nodup:ks.Nodup
 few:ks.length<scanBound
theorem PB:∀{vs:List Value}{ks:List Str},StrsAre vs ks→vs.length=ks.length
 | _,_,.nil=>rfl
 | _,_,.cons _ _ h=>by rw[AA,AA,PB h]
theorem Wk:∀{vs us:List Value}{ks js:List Str},StrsAre vs ks→StrsAre us js→StrsAre (vs++us) (ks++js)
 | _,_,_,_,.nil,h=>h
 | _,_,_,_,.cons _ _ h',h=> .cons _ _ (Wk h' h)
theorem RD{vs:List Value}(p:us.Perm vs):∀{ks:List Str},StrsAre vs ks→∃js,StrsAre us js∧js.Perm ks:=by
 induction p with
 | nil=>intro ks h;exact⟨ks,h,.refl _⟩
 | cons x p ih=>
  intro ks h;cases h with
  | cons y t h=> obtain⟨js,h1,h2⟩:=ih h;exact⟨y::js,.cons y t h1,h2.cons _⟩
 | swap x y l=>
  intro ks h;cases h with
  | cons y t h=>
   cases h with
   | cons y2 t2 h=>exact⟨y2::y::_,.cons _ _ (.cons _ _ h),.swap _ _ _⟩
 | trans p1 p2 ih1 ih2=> intro ks h;obtain⟨js,h1,h2⟩:=ih2 h;obtain⟨is,h3,h4⟩:=ih1 h1;exact⟨is,h3,h4.trans h2⟩
theorem RG:∀{vs:List Value}{ks:List Str},StrsAre vs ks→∀k,k∈ks↔∃t,Value.str k t∈vs
 | _,_,.nil,k=>by simp
 | _,_,.cons y t h,k=>by
  rw[Aw,RG h k];constructor
  · rintro(rfl | ⟨u,hu⟩)
    · exact⟨t,.head _⟩
    · exact⟨u,.tail _ hu⟩
  · rintro⟨u,hu⟩;cases hu with
    | head=>exact .inl rfl
    | tail _ hu=>exact .inr ⟨u,hu⟩
theorem QD(k:Str)(t:Tok):(strKind prog w).is k (.str k t)=true:=by show Et k (.str k t)=true;simp[Et]
theorem Uf(h:Heap)(a:Addr)(es es':Array (Int×Value))(ep:Nat)(t t':Cw)(ho:h.get? a=some {cls:= .type "set",dict:=none,data:= .set es ep t}):
 (h.update a (Obj.putSet es' t')).get? a=some {cls:= .type "set",dict:=none,data:= .set es' (ep+1) t'}:=by
 have:=Bb (Obj.putSet es' t') ho (by rw[putSet_of es' t' (o:={cls:= .type "set",dict:=none,data:= .set es ep t}) rfl];rfl);rw[putSet_of es' t' (o:={cls:= .type "set",dict:=none,data:= .set es ep t}) rfl] at this;exact this
theorem ZJ{ks:List Str}{k:Str}{tk:Tok}{Q:Bool→Shared→Prop}(hS:TxSet prog w s.heap a ks)(hroom:ks.length+1<scanBound)
 (h:∀h' ks',Bt a s.heap h'→TxSet prog w h' a ks'→ks'.length≤ks.length+1→(∀x,x∈ks'↔x∈ks∨x=k)→∀b,Q b {s with heap:=h'}):
 wpAny (model prog w) A (setAddHashed a (.str k tk) ((strKind prog w).hash k)) Q E s:=by
 obtain⟨⟨es,ep,t,ho,hel,hks,hf,hled,hpl⟩,hnd,hfew⟩:=hS;have hsz:es.size=ks.length:=by rw[←PB hks,Ab,A9]
 have hb:es.size<scanBound:=by rw[hsz];exact hfew
 have hkey:(strKind prog w).is k (.str k tk)=true:=QD k tk;unfold setAddHashed setAddHashedIn;refine AN (Aa (Ck ho rfl hf ?_));dsimp only;rw[byScan_of (knd:=strKind prog w) rfl hb hel];simp only[↓reduceIte];unfold setAddByScan;refine Aa ?_;refine Aa (BA ?_);refine Aa (wpAny_setScan_of (knd:=strKind prog w) hkey ho rfl hf hel ?_);have isk:∀e∈es.toList,(strKind prog w).is k e.2=true→k∈ks:=λe he q=>by obtain⟨t',q'⟩:=DD q;exact(RG hks k).mpr ⟨t',by rw[←q'];exact Az he⟩
 cases hr:List.findIdx? (λe=>(strKind prog w).is k e.2) es.toList with
 | some j=> dsimp only;obtain⟨hj,hpj,_⟩:=List.findIdx?_eq_some_iff_getElem.mp hr;have hk:k∈ks:=isk _ (Ez hj) hpj;refine Ac (Ac ?_);exact h s.heap ks (Heap.SameBut.refl a s.heap) ⟨⟨es,ep,t,ho,hel,hks,hf,hled,hpl⟩,hnd,hfew⟩ (CS _) (λx=>⟨.inl,λq=>q.elim id λe=>e ▸ hk⟩) _
 | none=>
  dsimp only;have hk:k ∉ ks:=λhm=>by obtain⟨t',ht⟩:=(RG hks k).mp hm;obtain⟨e,he,q⟩:=AB.mp ht;have:=List.findIdx?_eq_none_iff.mp hr e he;rw[q,QD] at this;cases this
  have hgw:∀(b:Bool){s₁:Shared}{Q':Unit→Shared→Prop},Q' () s₁→wpAny (model prog w) A (match b with | true=>rule "set.scan.the-table-gave-way" | false=>pure ()) Q' E s₁:=
   λb s₁ Q' hq=>by cases b<;>first | exact Ac hq | exact BA hq
  have hperm:=layNew_perm t es ((strKind prog w).hash k) (.str k tk);have hfits:=layNew_fits t es ((strKind prog w).hash k) (.str k tk);have hl1:=YK t es ((strKind prog w).hash k) (.str k tk);have hp1:=zk0 t es ((strKind prog w).hash k) (.str k tk);generalize hL:layNew t es ((strKind prog w).hash k) (.str k tk)=L at hperm hfits hl1 hp1 ⊢;obtain⟨es1,t1,wasDummy,gave⟩:=L;dsimp only at hperm hfits hl1 hp1 ⊢;rw[F8] at hperm;have hel1:ElemsOf (strKind prog w) es1.toList:=(hel.push hkey rfl).perm hperm;have h0:StrsAre ((es.toList++[((strKind prog w).hash k,Value.str k tk)]).map (·.2)) (ks++[k]):=by rw[Aq];exact Wk hks (.cons k tk .nil)
  obtain⟨k1,hk1,hkp1⟩:=RD (hperm.map (·.2)) h0;have hsz1:es1.size=ks.length+1:=by rw[←A9,hperm.length_eq,A6,A9,hsz];rfl
  have nd0:(ks++[k]).Nodup:=by rw[F9];exact⟨hnd,by simp,λx hx y hy=>by rw[Aj] at hy;subst hy;exact λe=>hk (e ▸ hx)⟩
  have fin:∀(h':Heap)(es2:Array (Int×Value))(ep2:Nat)(t2:Cw),Bt a s.heap h'→h'.get? a=some {cls:= .type "set",dict:=none,data:= .set es2 ep2 t2}→es2.toList.Perm es1.toList→t2.fits es2.size=true→
   t2.led=t.led→t2.plain=false→∀b,Q b {s with heap:=h'}:=λh' es2 ep2 t2 sb ho2 p2 f2 l2 pl2 b=>by
   obtain⟨k2,hk2,hkp2⟩:=RD (p2.map (·.2)) hk1;have hp:k2.Perm (ks++[k]):=hkp2.trans hkp1;have hlen:k2.length=ks.length+1:=by rw[hp.length_eq,A6];rfl
   refine h h' k2 sb ⟨⟨es2,ep2,t2,ho2,hel1.perm p2,hk2,f2,l2.trans hled,.inr pl2⟩,hp.nodup_iff.mpr nd0,by omega⟩ (by omega) (λx=>?_) b;rw[hp.mem_iff,A3,Aj]
  refine Aa (hgw _ ?_);have tail:∀(t2:Cw),t2.fits es1.size=true→t2.led=t.led→t2.plain=false→∀{R:Option Bool→Shared→Prop},(∀h',(∀b,Q b {s with heap:=h'})→R (some true) {s with heap:=h'})→
   wpAny (model prog w) A (do
    storeSet a es1 t2
    if(!wasDummy && t2.tooFull)=true then do
        (match(relayAll t2 es1 (CO es1.size)).2.2 with | true=>rule "set.scan.the-table-gave-way" | false=>pure ())
        storeSet a (relayAll t2 es1 (CO es1.size)).1 (relayAll t2 es1 (CO es1.size)).2.1
        pure (some true)
     else pure (some true)) R E s:=by
   intro t2 f2 l2 pl2 R hR;refine Aa (wpAny_storeSet_of ho rfl ?_ (fits_of_scanBound (by omega)));have ho1:=Uf s.heap a es es1 ep t t2 ho;have sb1:=AQ s.heap a (Obj.putSet es1 t2)
   split
   · have hp:=relayAll_perm t2 es1 (CO es1.size);have hfr:=relayAll_fits t2 es1 (CO es1.size);have hl2:=zkq t2 es1 (CO es1.size);have hp2:=zhv t2 es1 (CO es1.size) pl2;generalize hRl:relayAll t2 es1 (CO es1.size)=Rl at hp hfr hl2 hp2 ⊢;obtain⟨es2,t3,gave2⟩:=Rl;dsimp only at hp hfr hl2 hp2 ⊢;have hs2:es2.size=es1.size:=by rw[←A9,hp.length_eq,A9]
     refine Aa (hgw _ ?_);refine Aa (wpAny_storeSet_of ho1 rfl ?_ (fits_of_scanBound (by omega)));exact Ac (hR _ (fin _ es2 _ t3 (sb1.trans (AQ _ a _)) (Uf _ a es1 es2 (ep+1) t2 t3 ho1) hp hfr (hl2.trans l2) hp2))
   · exact Ac (hR _ (fin _ es1 _ t2 sb1 ho1 (.refl _) f2 l2 pl2))
  split
  · refine Aa ?_;rw[hashByValue_scannable 8 (x:= .str k tk) rfl];refine Ac ?_;exact tail {t1 with plain:=false} (SetTable.fits_plain_off hfits) hl1 rfl λh' q=>Ac (q _)
  · rename_i hnp;refine Aa (Ac ?_);simp only[↓reduceIte];exact tail t1 hfits hl1 (by simpa using hnp) λh' q=>Ac (q _)
theorem TxSet.kept{h':Heap}{ks:List Str}(T:TxSet prog w h a ks)(k:∀o,h.get? a=some o→h'.get? a=some o):TxSet prog w h' a ks:=by obtain⟨⟨es,ep,t,ho,r⟩,b,c⟩:=T;exact⟨⟨es,ep,t,k _ ho,r⟩,b,c⟩
section
variable{R:Result→Shared→Prop}{I:Addr}{fp wr:List Addr}{G:Array GenState→Array GenState→Prop}{P:Nat→Value→Prop}{St:Nat→Shared→Prop}
end
theorem zjc(e:h.get? a=some {cls:= .type "set",dict:=none,data:= .set #[] 0 (.fresh 0 0 (!Js w))}):TxSet prog w h a []:=
 ⟨⟨#[],0,_,e,λe he=>by simp at he,.nil,rfl,rfl,.inl rfl⟩,EV,by decide⟩
theorem zi5{M:Model}{A:BE}{E:Value→Shared→Prop}{src:Source}{Q:Nat→Shared→Prop}(hn:0<n)(h:∀i d',i<n→Q i {s with drawn:=d'}):
 wpAny M A (choose src n) Q E s:=λΓ p hΓ=>by
 show Sem.wp M Γ (.choose src n .pure) _ _ p s;rw[Sem.wp_choose];exact⟨by omega,h _ _ (Nat.mod_lt _ hn)⟩
theorem Rm{α:Type}:∀{l:List α}{i:Nat}{x:α},l[i]?=some x→(x::l.eraseIdx i).Perm l
 | [],i,x,h=>by simp at h
 | y::l,0,x,h=>by simp at h;subst h;exact .refl _
 | y::l,i+1,x,h=>by rw[List.getElem?_cons_succ] at h;rw[List.eraseIdx_cons_succ];exact(List.Perm.swap _ _ _).trans ((Rm h).cons _)
theorem UT{M:Model}{A:BE}{E:Value→Shared→Prop}{α:Type}:∀(n:Nat)(xs:List α)(s:Shared){Q:List α→Shared→Prop},xs.length≤n→(∀ys d',ys.Perm xs→Q ys {s with drawn:=d'})→
 wpAny M A (drawOrder n xs) Q E s
 | 0,xs,s,Q,hn,h=>by have:xs=[]:=Dp.mp (Nat.le_zero.mp hn);subst this;exact Ac (h [] s.drawn (.refl _))
 | n+1,[],s,Q,hn,h=>Ac (h [] s.drawn (.refl _))
 | n+1,x::xs,s,Q,hn,h=>by
  show wpAny M A (choose .order (x::xs).length>>=_) Q E s;refine Aa (zi5 (by simp) λi d1 hi=>?_);have hx:(x::xs)[i]?=some (x::xs)[i]:=Al hi;rw[hx];show wpAny M A (drawOrder n ((x::xs).eraseIdx i)>>=_) Q E _;have hl:((x::xs).eraseIdx i).length≤n:=by rw[GG,if_pos hi];simp at hn ⊢;omega
  refine Aa (UT n _ _ hl λys d2 hp=>Ac ?_);exact h _ d2 ((hp.cons _).trans (Rm hx))
theorem U1{α:Type}(next:Nat→Nat):∀(n k:Nat)(left:List α)(out:Array α),left.length≤n→((pickOrder.go next n k left out).toList).Perm (out.toList++left)
 | 0,k,left,out,h=>by have:left=[]:=Dp.mp (Nat.le_zero.mp h);subst this;simp[pickOrder.go]
 | n+1,k,left,out,h=>by
  unfold pickOrder.go
  split
  · rename_i x hx;have hlt:next k%left.length<left.length:=(An.mp hx).1
    refine(U1 next n (k+1) _ _ ?_).trans ?_
    · rw[GG,if_pos hlt];omega
    · rw[F8,Dc];exact List.Perm.append_left _ (Rm hx)
  · rename_i hx;cases left with
    | nil=>simp
    | cons y l=>
     have:next k%(y::l).length<(y::l).length:=Nat.mod_lt _ (by simp)
     rw[Al this] at hx;cases hx
theorem Vz{α:Type}(next:Nat→Nat)(xs:Array α):((pickOrder next xs).toList).Perm xs.toList:=by
 have:=U1 next xs.size 0 xs.toList #[] (by simp)
 simpa [pickOrder] using this
theorem zhp(a:Addr):setDrawn a=(do
 let(es,_,t) ←setState a
 let byText ←setsByText
 return !byText && (!t.plain && decide (es.size>1))):=rfl
theorem PL(a:Addr)(slot given epochThen:Nat):setNext a slot given epochThen=(do
 let(es,epoch,t) ←setState a
 if ←setsByText then
  if epoch !=epochThen then unsupported "set_iterator.__next__:elements-changed"
  return ((←setWalk a)[given]?).map λe=>(e.2,slot)
 if(!t.plain && decide (es.size>1)) then unsupported "set_iterator.__next__:the-table-is-plain-no-more"
 (do if !t.led && !es.isEmpty then unsupported "set:maker-not-led":Sem Unit)
 let i:=D4 t.place slot
 return match es[i]?,t.place[i]? with
  | some (_,x),some j=>some (x,j+1)
  | _,_=>none):=rfl
namespace FS
theorem entry_set_iter:entryFor table "set.__iter__"=some Builtin.«frozenset.__iter__»:=entryFor_alias (id':="frozenset.__iter__") (by kernel_rfl) rfl (by decide+kernel) (by kernel_rfl)
theorem slot_si_next:Slot "set_iterator" "__next__" "set_iterator.__next__":=
 .of (owner:="set_iterator") (n:="__next__") (by rw[typeLookup_type,builtinLookup_eq_fast];kernel_rfl) (by decide+kernel) (by decide+kernel) (by decide+kernel)
  (by first | exact .inl (by decide+kernel) | exact .inr (by decide+kernel)) (by rw[isSubtype_type];kernel_rfl)
theorem entry_si_next:entryFor table "set_iterator.__next__"=some Builtin.«set_iterator.__next__»:=FO (by kernel_rfl)
theorem args_si_next(a:Value):argsOk "set_iterator.__next__" ⟨[a],[]⟩:=by unfold argsOk;kernel_rfl
theorem slot_si_iter:Slot "set_iterator" "__iter__" "set_iterator.__iter__":=
 .of (owner:="set_iterator") (n:="__iter__") (by rw[typeLookup_type,builtinLookup_eq_fast];kernel_rfl) (by decide+kernel) (by decide+kernel) (by decide+kernel)
  (by first | exact .inl (by decide+kernel) | exact .inr (by decide+kernel)) (by rw[isSubtype_type];kernel_rfl)
theorem entry_si_iter:entryFor table "set_iterator.__iter__"=some Builtin.«dict_keyiterator.__iter__»:=
 entryFor_alias (id':="dict_keyiterator.__iter__") (by kernel_rfl) rfl (by decide+kernel) (by kernel_rfl)
theorem args_si_iter(a:Value):argsOk "set_iterator.__iter__" ⟨[a],[]⟩:=by unfold argsOk;kernel_rfl
end FS
noncomputable abbrev Of(h:Heap)(I a:Addr)(first:Value)(i n ep:Nat):Prop:=
 h.get? I=some {cls:= .type "set_iterator",dict:=none,data:= .fields #[first,.int i 0,.ref a,.int n 0,.int ep 0]}
inductive SOrd(w:World)(a:Addr)(es:Array (Int×Value))(ep:Nat)(t:Cw):(Nat→Value)→List Value→List (Addr×Obj)→Prop
 | drawn (T:Addr) (places:List Nat) (h0:Js w=false) (hp:places.Perm (BU es.size)) (h2:1<es.size):
  SOrd w a es ep t (λ_=> .ref T) (places.filterMap λp=>(es[p]?).map (·.2)) [(T,{cls:= .type "tuple",data:= .seq (places.map λ(i:Nat)=>rawInt i).toArray})]
 | text (h0:Js w=true):SOrd w a es ep t (λ_=>rawInt 0) ((pickOrder (w.params.setOrder a ep) es).toList.map (·.2)) []
 | few (h0:Js w=false) (h2:es.size≤1):SOrd w a es ep t (λi=>rawInt (if i=0 then 0 else t.place.getD 0 0+1)) (es.toList.map (·.2)) []
theorem YM(es:Array (Int×Value)):((BU es.size).filterMap λp=>(es[p]?).map (·.2))=es.toList.map (·.2):=by have:=filterMap_getElem?_range es;rw[←this,List.map_filterMap]
theorem SOrd.perm{es:Array (Int×Value)}{ep:Nat}{t:Cw}{f:Nat→Value}{vs:List Value}{ob:List (Addr×Obj)}(h:SOrd w a es ep t f vs ob):vs.Perm (es.toList.map (·.2)):=by
 cases h with
 | drawn T places h0 hp h2=>rw[←YM];exact hp.filterMap _
 | text h0=>exact(Vz _ _).map _
 | few h0 h2=>exact .refl _
theorem MT{Q:Bool→Shared→Prop}(h:Q (Js w) s):wpAny (model prog w) A setsByText Q E s:=by unfold setsByText;exact Aa (Dm (Ac h))
theorem zk4{es:Array (Int×Value)}{ep:Nat}{t:Cw}{Q:Value→Shared→Prop}(ho:s.heap.get? a=some {cls:= .type "set",dict:=none,data:= .set es ep t})
 (hf:t.fits es.size=true) (hp:es.size=0∨t.plain=false) (hz:es.size≤Ay)
 (hQ:∀h' d' I f vs ob,SOrd w a es ep t f vs ob→s.heap.objs.size≤I→Of h' I a (f 0) 0 es.size ep→(∀p∈ob,h'.get? p.1=some p.2∧s.heap.objs.size≤p.1∧p.1≠I)→(∀b o,s.heap.get? b=some o→h'.get? b=some o)→
  I<h'.objs.size→(∀p∈ob,p.1<h'.objs.size)→Q (.ref I) {s with heap:=h',drawn:=d'}):
 wpAny (model prog w) A (pyIter (.ref a)) Q E s:=by
 have hT:s.TypeIs (.ref a) "set":=⟨_,ho,rfl⟩;refine FB hT G2 (AH G2 hT FS.entry_set_iter ?_ (PySem.F.args_set_iter_1 _));unfold Builtin.«frozenset.__iter__» Builtin.Frozenset.slot0 Builtin.Frozenset.sizeOf;refine Aa (Aa (m:=slotArgs _ _ _) (Ac (Ac ?_)));refine Aa (Aa (EN ho rfl hf (Ac ?_)));dsimp only;rw[zhp];refine Aa (Aa (Ck ho rfl hf (Aa (MT (Ac ?_)))));by_cases hd:(!Js w && (!t.plain && decide (es.size>1)))=true
 · rw[if_pos hd];have hd':Js w=false∧1<es.size:=by
    simp only[AF,Dx,decide_eq_true_eq] at hd;exact⟨hd.1,hd.2.2⟩
   refine Aa (UT _ _ _ (by simp) λys d' hy=>?_);refine Aa (ET ?_ (by rw[Ab,hy.length_eq,Df];exact hz));have ho2:(s.heap.push {cls:= .type "tuple",data:= .seq (ys.map λ(i:Nat)=>rawInt i).toArray}).get? a=some {cls:= .type "set",dict:=none,data:= .set es ep t}:=Ad _ ho;refine Aa (wpAny_setEpoch_of (s:={s with drawn:=d',heap:=s.heap.push {cls:= .type "tuple",data:= .seq (ys.map λ(i:Nat)=>rawInt i).toArray}}) ho2 rfl hf ?_)
   refine Aa (AM (Ac ⟨_,rfl,"set_iterator",_,⟨_,Ak _ rfl,rfl⟩,FS.slot_si_next.lookup,?_⟩));refine hQ _ d' _ _ _ _ (.drawn s.heap.objs.size ys hd'.1 hy hd'.2) ?_ (Ak _ rfl) (λp hp=>?_) (λb o e=>Ad _ (Ad _ e)) ?_ (λp hp=>?_)
   · rw[BB];exact CS _
   · rw[Aj] at hp;subst hp;exact⟨Ad _ (Ak _ rfl),Ah _,by rw[BB];exact Ar (C6 _)⟩
   · simp only[BB];omega
   · rw[Aj] at hp;subst hp;show s.heap.objs.size<_;simp only[BB];omega
 · rw[if_neg hd];refine Aa (Ac ?_);refine Aa (wpAny_setEpoch_of ho rfl hf ?_);refine Aa (AM (Ac ⟨_,rfl,"set_iterator",_,⟨_,Ak _ rfl,rfl⟩,FS.slot_si_next.lookup,?_⟩));cases hb:Js w with
   | true=> exact hQ _ s.drawn _ _ _ _ (.text hb) (Ah _) (Ak _ rfl) (λp hp=>nomatch hp) (λb o e=>Ad _ e) (by rw[BB];exact C6 _) (λp hp=>nomatch hp)
   | false=>
    refine hQ _ s.drawn _ _ _ _ (.few hb ?_) (Ah _) (Ak _ rfl) (λp hp=>nomatch hp) (λb o e=>Ad _ e) (by rw[BB];exact C6 _) (λp hp=>nomatch hp);rcases hp with h | h
    · omega
    · simp[hb,h] at hd;exact hd
noncomputable def Ql(w:World)(I a:Addr)(es:Array (Int×Value))(ep:Nat)(t:Cw)(f:Nat→Value)(ob:List (Addr×Obj))(i:Nat)(h:Heap):Prop:=
 Of h I a (f i) i es.size ep∧h.get? a=some {cls:= .type "set",dict:=none,data:= .set es ep t}∧∀p∈ob,h.get? p.1=some p.2
theorem Vs(p:Nat):D4 #[p] 0=0∧D4 #[p] (p+1)=1:=by
 constructor
 · simp[D4,SetTable.below.go]
 · simp[D4,SetTable.below.go]
theorem N9{I:Addr}{first x:Value}{ep k:Nat}(hi:Of h I a first i n ep)(f:Array Value→Array Value):
 (h.update I (Dt f)).get? I=some {cls:= .type "set_iterator",dict:=none,data:= .fields (f #[first,.int i 0,.ref a,.int n 0,.int ep 0])}:=by
 have:=Bb (Dt f) hi rfl;exact this
set_option maxHeartbeats 1000000 in
theorem zkM{I a:Addr}{es:Array (Int×Value)}{ep:Nat}{t:Cw}{f:Nat→Value}{vs:List Value}{ob:List (Addr×Obj)}{i:Nat}{v:Value}{Q:Option Value→Shared→Prop}
 (hO:SOrd w a es ep t f vs ob) (hf:t.fits es.size=true) (hl:t.led=!Js w) (hne:a≠I) (hob:∀p∈ob,p.1≠I) (hS:Ql w I a es ep t f ob i s.heap) (hv:vs[i]?=some v)
 (hQ:∀h',Ql w I a es ep t f ob (i+1) h'→Bt I s.heap h'→Q (some v) {s with heap:=h'}):
 wpAny (model prog w) A (pyNext (.ref I)) Q E s:=by
 obtain⟨hi,ha,hbs⟩:=hS;have hT:s.TypeIs (.ref I) "set_iterator":=⟨_,hi,rfl⟩;unfold pyNext;refine Aa (CH (AU (name:=BG "__next__") hT FS.slot_si_next
  (AH FS.slot_si_next hT FS.entry_si_next ?_ (FS.args_si_next _))))
 unfold Builtin.«set_iterator.__next__»;refine Aa (m:=slotArgs _ _ _) (Ac ?_);dsimp only;refine Aa (EW hi rfl ?_);dsimp only;refine Aa (EN ha rfl hf ?_);rw[if_neg (by simp)];have hil:i<vs.length:=(An.mp hv).1;have fin:∀(first:Value)(h':Heap),Bt I s.heap h'→Of h' I a (f (i+1)) (i+1) es.size ep→Q (some v) {s with heap:=h'}:=λfirst h' sb hi'=> hQ h' ⟨hi',by rw[sb.2 a hne];exact ha,λp hp=>by rw[sb.2 p.1 (hob p hp)];exact hbs p hp⟩ sb
 cases hO with
 | drawn T places h0 hp h2=>
  dsimp only;have hTt:=hbs _ (Aj.mpr rfl);refine Aa (AW hTt rfl ?_);have hpl:places.length=es.size:=by rw[hp.length_eq,Df]
  have hall:∀p∈places,p<es.size:=λp hm=>by simpa using hp.mem_iff.mp hm
  have hfm:∀(l:List Nat),(∀p∈l,p<es.size)→(l.filterMap λp=>(es[p]?).map (·.2))=l.map λp=>(es.getD p (0,.none)).2:=by
   intro l
   induction l with
   | nil=>intro _;rfl
   | cons q l ih=> intro hq;have hq0:q<es.size:=hq q (by simp);have h1:es[q]?=some es[q]:=Bi hq0;rw[DE,h1,Ax,←ih λp hm=>hq p (by simp[hm])];simp[FE,hq0]
  rw[hfm places hall,Af] at hv;cases hpi:places[i]? with
  | none=>rw[hpi] at hv;cases hv
  | some pl=>
   rw[hpi] at hv;have hlt:pl<es.size:=hall pl (Ag hpi);have hvv:v=es[pl].2:=by have:(es.getD pl (0,.none)).2=v:=A4 hv;rw[←this];simp[FE,hlt]
   have hpi':(places.map λ(i:Nat)=>rawInt i).toArray[i]?=some (.int pl 0):=by rw[G3,Af,hpi];rfl
   show wpAny _ _ (match(places.map λ(i:Nat)=>rawInt i).toArray[(i:Int).toNat]? with | some (.int place _)=>_ | some _=>_ | none=>_) _ _ _
   rw[AZ,hpi'];dsimp only;unfold setNextDrawn;refine Aa (Aa (Ck ha rfl hf ?_));dsimp only;rw[if_neg (by simp)];rw[AZ,Bi hlt];dsimp only;refine Ac ?_;refine Aa (BJ hi rfl (by simp) ?_);refine Ac ⟨_,rfl,Ac ?_⟩;rw[←hvv];exact fin v _ (AQ ..) (N9 (x:=v) (k:=0) hi _)
 | text h0=>
  show wpAny _ _ (setNext a 0 (i:Int).toNat (ep:Int).toNat>>=_) _ _ _;rw[PL,AZ,AZ];refine Aa (Aa (Ck ha rfl hf (Aa (MT ?_))));rw[if_pos h0];dsimp only;rw[if_neg (by simp)];unfold setWalk;refine Aa (Aa (Ck ha rfl hf (Aa (MT ?_))));rw[if_pos h0];refine Aa (Dm (Ac (Ac ?_)));rw[Af,Cq] at hv;cases hpk:(pickOrder (w.params.setOrder a ep) es)[i]? with
  | none=>rw[hpk] at hv;cases hv
  | some e=>
   rw[hpk] at hv;show wpAny _ _ (match((pickOrder (w.params.setOrder a ep) es)[i]?).map λe=>(e.2,0) with | some (x,next)=>_ | none=>_) _ _ _
   rw[hpk];have hvv:e.2=v:=A4 hv;dsimp only[Option.map];refine Aa (BJ hi rfl (by simp) ?_);have hi1:=N9 (x:=v) (k:=0) hi (·.setIfInBounds 0 (rawInt (0:Nat)));refine Aa (BJ (s:={s with heap:=s.heap.update I (Dt (·.setIfInBounds 0 (rawInt (0:Nat))))}) hi1 rfl (by simp) ?_)
   refine Ac ⟨_,rfl,Ac ?_⟩;rw[hvv];refine fin v _ ((AQ ..).trans (AQ ..)) ?_;exact N9 (x:=v) (k:=0) (i:=i) (first:=rawInt 0) (n:=es.size) (ep:=ep) (a:=a) (by exact hi1) _
 | few h0 h2=>
  have hi0:i=0:=by rw[Ab,A9] at hil;omega
  subst hi0;have hsz:es.size=1:=by rw[Ab,A9] at hil;omega
  show wpAny _ _ (setNext a 0 (0:Int).toNat (ep:Int).toNat>>=_) _ _ _;rw[PL,AZ];refine Aa (Aa (Ck ha rfl hf (Aa (MT ?_))));rw[if_neg (by rw[h0];simp)];dsimp only;rw[if_neg (by simp[hsz])];rw[hl,h0];refine Aa (m:=ite _ _ _) ?_;rw[if_neg (by simp)];refine Ac ?_;obtain⟨p,hpp⟩:∃p,t.place=#[p]:=by
   have h1:t.place.size=1:=by simp only[SetTable.fits,AF,beq_iff_eq] at hf;rw[hf.1,hsz]
   generalize t.place=tp at h1;obtain⟨pl⟩:=tp;cases pl with
   | nil=>simp at h1
   | cons p r=>cases r with
    | nil=>exact⟨p,rfl⟩
    | cons q r=>simp at h1
  obtain⟨⟨eh,ev⟩,hes⟩:∃e,es=#[e]:=by
   obtain⟨el⟩:=es;cases el with
   | nil=>simp at hsz
   | cons p r=>cases r with
    | nil=>exact⟨p,rfl⟩
    | cons q r=>simp at hsz
  subst hes;have hvv:ev=v:=by simpa using hv
  subst hvv;rw[hpp,(Vs p).1];refine Ac ?_;show wpAny _ _ (setField (.ref I) 0 (rawInt ((p+1:Nat):Int))>>=_) _ _ _;refine Aa (BJ hi rfl (by simp) ?_);have hi1:=N9 (x:=ev) (k:=0) hi (·.setIfInBounds 0 (rawInt ((p+1:Nat):Int)));refine Aa (BJ (s:={s with heap:=s.heap.update I (Dt (·.setIfInBounds 0 (rawInt ((p+1:Nat):Int))))}) hi1 rfl (by simp) ?_)
  refine Ac ⟨_,rfl,Ac ?_⟩;refine fin ev _ ((AQ ..).trans (AQ ..)) ?_;have:=N9 (x:=ev) (k:=0) (i:=0) (first:=rawInt ((p+1:Nat):Int)) (n:=1) (ep:=ep) (a:=a) (by exact hi1) (·.setIfInBounds 1 (rawInt ((0:Nat)+1:Int)))
  rw[hpp];exact this
theorem QM{h1:Heap}{I:Addr}{P:Fin→Shared→Prop}{Q:Option Value→Shared→Prop}(hh:A.handled=none)(sb:Bt I s.heap h1)(hQ:∀h',DC I s.heap h'→Q none {s with heap:=h'}):
 wpAny (model prog w) A.in1 (newExc (.type "StopIteration") []>>=λx=>raiseNew x) P
  (λe s'=>wpAny (model prog w) A (do if ←isInstance e (.type "StopIteration") then pure none else throw e) Q E s') {s with heap:=h1}:=by
 refine Aa ?_;simp only[newExc,newTuple];refine Aa (AM ?_ (by size_fits));refine Aa (m:=firstArgMember _ _) (Dv (a:=Value.none) (by first | rfl | (simp only[firstArgMember];rfl)) ?_)
 refine AM ?_ (by size_fits);simp only[raiseNew];refine Aa (Fn ?_);rw[show A.in1.handled=none from hh];refine Aa (Ac (Gr ?_));refine Aa (Cf (T:="StopIteration") (b:=true) ⟨_,Ak _ rfl,rfl⟩ isSubtype_stop ?_);exact Ac (hQ _ ((sb.extBut.push _).push _))
set_option maxHeartbeats 1000000 in
theorem Zv{I a:Addr}{es:Array (Int×Value)}{ep:Nat}{t:Cw}{f:Nat→Value}{vs:List Value}{ob:List (Addr×Obj)}{Q:Option Value→Shared→Prop}(hh:A.handled=none)
 (hO:SOrd w a es ep t f vs ob) (hf:t.fits es.size=true) (hl:t.led=!Js w) (hne:a≠I) (hob:∀p∈ob,p.1≠I) (hS:Ql w I a es ep t f ob es.size s.heap)
 (hQ:∀h',DC I s.heap h'→Q none {s with heap:=h'}):
 wpAny (model prog w) A (pyNext (.ref I)) Q E s:=by
 obtain⟨hi,ha,hbs⟩:=hS;have hT:s.TypeIs (.ref I) "set_iterator":=⟨_,hi,rfl⟩;unfold pyNext;refine Aa (CH (AU (name:=BG "__next__") hT FS.slot_si_next
  (AH FS.slot_si_next hT FS.entry_si_next ?_ (FS.args_si_next _))))
 unfold Builtin.«set_iterator.__next__»;refine Aa (m:=slotArgs _ _ _) (Ac ?_);dsimp only;refine Aa (EW hi rfl ?_);dsimp only;refine Aa (EN ha rfl hf ?_);rw[if_neg (by simp)];cases hO with
 | drawn T places h0 hp h2=>
  dsimp only;have hTt:=hbs _ (Aj.mpr rfl);refine Aa (AW hTt rfl ?_);have hpl:places.length=es.size:=by rw[hp.length_eq,Df]
  have hpi':(places.map λ(i:Nat)=>rawInt i).toArray[es.size]?=none:=by rw[G3,Af,CB (by omega)];rfl
  show wpAny _ _ (match(places.map λ(i:Nat)=>rawInt i).toArray[(es.size:Int).toNat]? with | some (.int place _)=>_ | some _=>_ | none=>_) _ _ _
  rw[AZ,hpi'];dsimp only;refine Aa (BJ hi rfl (by simp) ?_);have hi1:=N9 (x:= .none) (k:=0) hi (·.setIfInBounds 0 (rawInt 0));refine Aa (BJ (s:={s with heap:=s.heap.update I (Dt (·.setIfInBounds 0 (rawInt 0)))}) hi1 rfl (by simp) ?_)
  exact QM (s:=s) (I:=I) hh ((AQ ..).trans (AQ ..)) hQ
 | text h0=>
  show wpAny _ _ (setNext a 0 (es.size:Int).toNat (ep:Int).toNat>>=_) _ _ _;rw[PL,AZ,AZ];refine Aa (Aa (Ck ha rfl hf (Aa (MT ?_))));rw[if_pos h0];dsimp only;rw[if_neg (by simp)];unfold setWalk;refine Aa (Aa (Ck ha rfl hf (Aa (MT ?_))));rw[if_pos h0];refine Aa (Dm (Ac (Ac ?_)));have hpk:(pickOrder (w.params.setOrder a ep) es)[es.size]?=none:=by have h1:=(Vz (w.params.setOrder a ep) es).length_eq;rw[A9,A9] at h1;exact Dw (by omega)
  show wpAny _ _ (match((pickOrder (w.params.setOrder a ep) es)[es.size]?).map λe=>(e.2,0) with | some (x,next)=>_ | none=>_) _ _ _
  rw[hpk];dsimp only[Option.map];refine Aa (BJ hi rfl (by simp) ?_);exact QM (s:=s) (I:=I) hh (AQ ..) hQ
 | few h0 h2=>
  show wpAny _ _ (setNext a (if es.size=0 then(0:Int) else(t.place.getD 0 0:Int)+1).toNat (es.size:Int).toNat (ep:Int).toNat>>=_) _ _ _
  rw[PL,AZ];refine Aa (Aa (Ck ha rfl hf (Aa (MT ?_))));rw[if_neg (by rw[h0];simp)];dsimp only;rw[if_neg (by simp;intro _;omega)];rw[hl,h0];refine Aa (m:=ite _ _ _) ?_;rw[if_neg (by simp)];refine Ac ?_;have hps:t.place.size=es.size:=by simp only[SetTable.fits,AF,beq_iff_eq] at hf;exact hf.1
  have hnone:es[D4 t.place (if es.size=0 then(0:Int) else(t.place.getD 0 0:Int)+1).toNat]?=none:=by
   generalize t.place=tp at hps;obtain⟨pl⟩:=tp;cases pl with
   | nil=>
    have:es.size=0:=by simpa using hps.symm
    exact Dw (by omega)
   | cons p r=>
    cases r with
    | nil=>
     have h1:es.size=1:=by simpa using hps.symm
     rw[if_neg (by omega)];have:((([p].toArray).getD 0 0:Nat):Int)+1=((p+1:Nat):Int):=rfl;rw[this,AZ,(Vs p).2];exact Dw (by omega)
    | cons q r=>
     have:es.size=r.length+2:=by simpa using hps.symm
     omega
  rw[hnone];refine Ac ?_;show wpAny _ _ (setField (.ref I) 2 .none>>=_) _ _ _;refine Aa (BJ hi rfl (by simp) ?_);exact QM (s:=s) (I:=I) hh (AQ ..) hQ
theorem zkh{I:Addr}{first:Value}{ep:Nat}{Q:Value→Shared→Prop}(hi:Of s.heap I a first i n ep)(h:Q (.ref I) s):wpAny (model prog w) A (pyIter (.ref I)) Q E s:=by have hT:s.TypeIs (.ref I) "set_iterator":=⟨_,hi,rfl⟩;refine FB hT FS.slot_si_iter (AH FS.slot_si_iter hT FS.entry_si_iter ?_ (FS.args_si_iter _));show wpAny _ _ (ret (.ref I)) _ _ s;exact Ac ⟨_,rfl,"set_iterator",_,hT,FS.slot_si_next.lookup,h⟩
theorem zi7{prog:Bp}{w:World}{I a:Addr}{es:Array (Int×Value)}{ep:Nat}{t:Cw}{f:Nat→Value}{vs:List Value}{ob:List (Addr×Obj)}(hh:A.handled=none)
 (hO:SOrd w a es ep t f vs ob) (hf:t.fits es.size=true) (hl:t.led=!Js w) (hne:a≠I) (hob:∀p∈ob,p.1≠I):
 Walks prog w A I (I::a::ob.map (·.1)) [I] es.size (λi v=>vs[i]?=some v) (Ql w I a es ep t f ob) where
 sub:=λb hb=>by simp at hb;simp[hb]
 frame:=λi h h' st hk=>⟨hk I (by simp) _ st.1,hk a (by simp) _ st.2.1,λp hp=>hk p.1 (by simp;exact .inr (.inr ⟨p.2,hp⟩)) _ (st.2.2 p hp)⟩
 item:=λi s Q E hi st hQ=>by
  have hlen:vs.length=es.size:=by rw[hO.perm.length_eq,Ab,A9]
  refine zkM hO hf hl hne hob st (v:=vs[i]'(by omega)) (Al (by omega)) λh' st' sb=>?_;exact hQ _ h' s.toks (Al (by omega)) st' λb o hb e=>sb.extBut b o (λh=>hb (by simp[h])) e
 done:=λs Q E st hQ=>Zv hh hO hf hl hne hob st λh' he'=>hQ h' s.toks λb o hb e=>he' b o (λh=>hb (by simp[h])) e
 self:=λ_ _ _ _ st hQ=>zkh st.1 hQ
namespace FS
theorem set_len:typeLookup (.type "set") "__len__"=pure (some (.builtin "set.__len__")):=by rw[typeLookup_type,builtinLookup_eq_fast];kernel_rfl
theorem split_set_len:splitId "set.__len__"=some ("set","__len__"):=by decide+kernel
end FS
theorem ZE{Q:Bool→Shared→Prop}(hT:s.TypeIs (.ref a) "set")(h:Q false s):wpAny (model prog w) A (CY (.ref a)) Q E s:=by
 unfold CY;refine Aa (Cn hT FS.set_len ?_);dsimp only;generalize NJ:("set.__len__":String)=id0;rw[show splitId id0=some ("set","__len__") from by subst NJ;exact FS.split_set_len]
 subst NJ;dsimp only;refine Aa (Cf (b:=true) hT sub_set_self ?_);simp only[CI,AR,if_false];refine Aa (C3 hT (Ac h))
set_option maxHeartbeats 1000000 in
theorem zg3{ks:List Str}{Q:List Value→Shared→Prop}(hh:A.handled=none)(T:TxSet prog w s.heap a ks)
 (hQ:∀h' d' tk vs js,StrsAre vs js→js.Perm ks→s.heap.objs.size<h'.objs.size→(∀b o,s.heap.get? b=some o→h'.get? b=some o)→Q vs {s with heap:=h',drawn:=d',toks:=tk}):
 wpAny (model prog w) A (collect (.ref a)) Q E s:=by
 obtain⟨⟨es,ep,t,ho,hel,hks,hf,hled,hpl⟩,hnd,hfew⟩:=T;have hsz:es.size=ks.length:=by rw[←PB hks,Ab,A9]
 have haS:a<s.heap.objs.size:=Am ho;unfold collect;refine Aa (wpAny_runValue (Bf Fc ?_));rw[AO Fd _];show wpAny _ A.in1 (newList []>>=λl=>again (.builtin "list.__iadd__" ⟨[l,.ref a],[]⟩)) _ _ s;refine Aa (AM ?_);refine Ac ⟨Bj Dq _,Bf F_ ?_⟩;rw[AO Dq _];generalize hh1:s.heap.push {cls:= .type "list",data:= .seq ([]:List Value).toArray}=h1;have hk1:∀b o,s.heap.get? b=some o→h1.get? b=some o:=λb o e=>by rw[←hh1];exact Ad _ e
 have hS1:h1.get? s.heap.objs.size=some {cls:= .type "list",data:= .seq ([]:List Value).toArray}:=by rw[←hh1];exact Ak _ rfl
 have hz1:s.heap.objs.size<h1.objs.size:=Am hS1;show wpAny _ A.in1 (CZ (.ref s.heap.objs.size) (.ref a) (.ref s.heap.objs.size)) _ _ {s with heap:=h1}
 unfold CZ;have hT1:Shared.TypeIs {s with heap:=h1} (.ref a) "set":=⟨_,hk1 _ _ ho,rfl⟩
 refine Aa (C3 hT1 ?_);have e1:Cs (.ref s.heap.objs.size) (.ref a)=false:=by unfold Cs;exact beq_eq_false_iff_ne.mpr (BI (Ar haS))
 rw[if_neg (by rw[e1];decide)];refine Aa (zk4 (s:={s with heap:=h1}) (hk1 _ _ ho) hf hpl (by rw[hsz];exact fits_of_scanBound hfew) λh2 d2 I f vs ob hO hI hi hob hk2 hI2 hob2=>?_)
 refine Aa (AN (ZE (s:={s with heap:=h2,drawn:=d2}) ⟨_,hk2 _ _ (hk1 _ _ ho),rfl⟩ ?_))
 rw[if_pos (by decide)];refine Aa (BA ?_);have hS2:h2.get? s.heap.objs.size=some {cls:= .type "list",data:= .seq ([]:List Value).toArray}:=hk2 _ _ hS1;refine Aa ?_;show wpAny _ A.in1 (updateSeq s.heap.objs.size (·.push .none)>>=λ_=>updateSeq s.heap.objs.size (·.pop)) _ _ {s with heap:=h2,drawn:=d2}
 refine Aa (Cb hS2 rfl ?_);have hS3:=Bb (AI (·.push Value.none)) hS2 rfl;refine Cb hS3 rfl ?_;have hS4:=Bb (AI (·.pop)) hS3 rfl;have oth:∀b o,b≠s.heap.objs.size→h2.get? b=some o→((h2.update s.heap.objs.size (AI (·.push Value.none))).update s.heap.objs.size (AI (·.pop))).get? b=some o:=
  λb o hb e=>(AT _ _ (BI hb)).trans ((AT _ _ (BI hb)).trans e)
 have hIne:I≠s.heap.objs.size:=BI (Ar (AG hz1 hI));have hane:a≠I:=Ar (AG haS (AD (Bv hz1) hI));have hobne:∀p∈ob,p.1≠s.heap.objs.size:=λp hp=>BI (Ar (AG hz1 (hob p hp).2.1));have W:=(zi7 (prog:=prog) (A:=A.in1) (by simpa using hh) hO hf hled hane (λp hp=>(hob p hp).2.2)).toS;have hlen:vs.length=es.size:=by rw[hO.perm.length_eq,Ab,A9]
 obtain⟨js,hjs,hjp⟩:=RD hO.perm hks;refine Ac ⟨Bj FF _,codeAny_extend_loopS W (by rw[hsz];exact fits_of_scanBound hfew) s.heap.objs.size ?_ _ es.size 0 _ _ _ rfl (AK _)
  ⟨oth _ _ hIne hi,oth _ _ (Ar haS) (hk2 _ _ (hk1 _ _ ho)),λp hp=>oth _ _ (hobne p hp) (hob p hp).1⟩ hS4 (ItemsOf.nil _) λs' acc' c' hm hS' hacc=>?_⟩
 · intro hmem;rw[Aw,Aw,AB] at hmem;rcases hmem with h | h | ⟨p,hp,h⟩
   · exact hIne h.symm
   · exact Ar haS h.symm
   · exact hobne p hp h
 · show wpAny _ A (load s.heap.objs.size>>=_) _ _ s';refine Aa (wpAny_load hS' ?_);have hav:acc'.toList=vs:=by
    apply List.ext_getElem?;intro j;by_cases hj:j<es.size
    · have hj':j<acc'.size:=by rw[hacc.1];exact hj
      have h1:acc'.toList[j]?=some acc'[j]:=by rw[Cq];exact Bi hj'
      rw[h1];exact(hacc.2 j _ (Bi hj')).symm
    · rw[CB (by rw[A9,hacc.1];omega),CB (by omega)]
   obtain⟨h',g',d',tk',os'⟩:=s';have eg:g'=s.gens:=hm.gens;have ed:d'=d2:=hm.drawn;have eo:os'=s.os:=hm.os;subst eg;subst ed;subst eo;refine Ac ?_;rw[hav];refine hQ h' d' tk' vs js hjs hjp (Am hS') λb o e=>?_;have hb:b<s.heap.objs.size:=Am e;refine hm.heap b o ?_ (oth b o (Ar hb) (hk2 _ _ (hk1 _ _ e)));have h0:h1.objs.size≤I:=hI;simp only[Aw,Bs,or_false,not_or];exact⟨Ar hb,Ar (AG hb (AD (Bv hz1) hI))⟩
theorem zhm{ks:List Str}{Q:Value→Shared→Prop}(hh:A.handled=none)(T:TxSet prog w s.heap a ks)(h64:ks.length<64)
 (h:∀(p:Addr)(h':Heap)(d':Drawn)(tk:Nat)(out:Array Value)(ms:List Str)(e:Nat),StrsAre out.toList ms→ms.Perm ks→sortedS ms=true→s.heap.objs.size≤p→h'.get? p=some (Bo "list" out e)→
  (∀b o,s.heap.get? b=some o→h'.get? b=some o)→Q (.ref p) {s with heap:=h',drawn:=d',toks:=tk}):
 wpAny (model prog w) A (call (.builtin "sorted") [.ref a]) Q E s:=by
 refine FG kind_sorted plain_sorted entry_sorted (args_sorted1 _) ?_;unfold FP;refine Aa (m:=checkCount "sorted" 1 1 _) (Ac ?_);refine Aa (zg3 (by simpa using hh) T λh1 d1 tk1 vs js hv hp hz hk=>?_);have hvl:vs.length=ks.length:=by rw[PB hv,hp.length_eq]
 refine Aa (Fq ?_ (by rw[sizeLine_eq];omega));have hoL:(h1.push (Bo "list" vs.toArray 0)).get? h1.objs.size=some (Bo "list" vs.toArray 0):=Ak _ rfl;show wpAny _ _ (holding _ _>>=_) _ _ {s with heap:=h1.push (Bo "list" vs.toArray 0),drawn:=d1,toks:=tk1}
 refine Aa (AN (AH G4 ⟨_,hoL,rfl⟩ Gh (list_sort_treeK strKind_oneLt hoL hv.keysOf (λv₁ v₂ rest e=>keyKind_strs (by rw[←e];exact hv)) (by omega) λst' a1 a2=>⟨_,rfl,?_⟩) (args_list_sort _)));obtain⟨ms,m1,m2,m3⟩:=sorted_out_str hv a1 a2;obtain⟨e,he⟩:=sortedHeap_at (out:=(arrOf st').map (·.2)) hoL;refine Ac ⟨_,rfl,h h1.objs.size _ d1 tk1 _ ms e m1 (m2.trans hp) m3 (Bv hz) he λb o eb=>?_⟩
 · have hb:b<h1.objs.size:=Am (hk b o eb);rw[sortedHeap_old (Ar hb) (by rw[size_push'];exact De hb)];exact Ad _ (hk b o eb)
section
variable{te:TE}{p2 p3 p4:Pos}
end
theorem Yf{y:Str}(h:x.cps.toList=y.cps.toList):x=y:=by obtain⟨a⟩:=x;obtain⟨b⟩:=y;congr;exact Array.toList_inj.mp h
theorem QE{y:Str}(h:¬Jq x y)(n:x≠y):Jq y x:=by
 unfold Jq at*;rcases Std.lt_trichotomy (α:=List Nat) x.cps.toList y.cps.toList with h1 | h1 | h1
 · exact absurd h1 h
 · exact absurd (Yf h1) n
 · exact h1
theorem P0{y z:Str}(h:Jq x y)(h2:Jq y z):Jq x z:=List.lt_trans h h2
theorem V2:∀(r:List Str)(p:Str),risingS p r=true→(p::r).Nodup→(p::r).Pairwise Jq
 | [],p,_,_=>List.pairwise_singleton _ _
 | x::r,p,h,n=>by
  unfold risingS at h;rw[AF,Dx,ltCps_eq,decide_eq_false_iff_not] at h;rw[Cm] at n;have px:Jq p x:=QE (x:=x) (y:=p) h.1 (λe=>n.1 (by rw[←e];exact Ao));have ih:=V2 r x h.2 n.2;rw[BV];refine⟨λy hy=>?_,ih⟩;rcases Aw.mp hy with rfl | hy
  · exact px
  · exact P0 px ((List.pairwise_cons.mp ih).1 y hy)
theorem V3{ms:List Str}(h:sortedS ms=true)(n:ms.Nodup):ms.Pairwise Jq:=by
 cases ms with
 | nil=>exact .nil
 | cons x r=>exact V2 r x h n
theorem PieceAt.keep{H':Hp}{w:List PP}(h:PieceAt H a w)(s:Tups H H'):PieceAt H' a w:=by obtain⟨ps,e,h1,h2⟩:=h;exact⟨ps,e,s _ _ h1,λp hp=>s _ _ (h2 p hp)⟩
theorem PieceAt.same{H':Hp}{w:List PP}(h:PieceAt H a w)(s:Same H H'):PieceAt H' a w:=h.keep s.tups
structure POk(p:List PP):Prop where
 len:p.length≤100
 ok:∀x∈p,FieldOk x.1
 asc:(p.map (·.1)).Pairwise Jq
noncomputable def JX(p:List PP)(f:Str):Option Int:=(p.find? (λx=>decide (x.1=f))).map (·.2)
theorem zjw{w:List PP}{f:Str}(h:∀p∈w,p.1≠f):JX w f=none:=by unfold JX;rw[CW.mpr λp hp z=>h p hp (of_decide_eq_true z)];rfl
theorem zjv(w:List PP)(p:PP)(f:Str)(hn:JX w p.1=none):JX (w++[p]) f=if f=p.1 then some p.2 else JX w f:=by
 unfold JX at*;rw[F6];by_cases h:f=p.1
 · subst h;rw[if_pos rfl];cases e:w.find? (λq=>decide (q.1=p.1)) with
   | some q=>rw[e] at hn;cases hn
   | none=>simp
 · rw[if_neg h];cases e:w.find? (λq=>decide (q.1=f)) with
   | some q=>rfl
   | none=>simp;exact λz=>h z.symm
theorem POk.fresh{w:List PP}(h:POk w){p:PP}(hp:w[i]?=some p):JX (w.take i) p.1=none:=by
 refine zjw λq hq e=>?_;obtain⟨j,hj⟩:=GF hq;rw[List.getElem?_take] at hj
 split at hj
 · rename_i lt;have hi:i<w.length:=(An.mp hp).1;have:=Dj.mp h.asc j i (by rw[Ab];omega) (by rw[Ab];exact hi) lt;rw[CN,CN] at this;have e1:w[j]'(by omega)=q:=(An.mp hj).2;have e2:w[i]=p:=(An.mp hp).2;rw[e1,e2] at this;exact Mv this e
 · cases hj
noncomputable def Lw(p:List PP)(x:WP):Bool:=match JX p x.1 with
 | none=>false
 | some n=>Jr x.2.1 x.2.2 n
theorem Wl{p:List PP}{x:WP}(h:JX p x.1=none):Lw p x=false:=by unfold Lw;rw[h]
theorem RH{p:List PP}{x:WP}{n:Int}(h:JX p x.1=some n):Lw p x=Jr x.2.1 x.2.2 n:=by unfold Lw;rw[h]
noncomputable def IX(w:List WP)(p:List PP):Bool:=w.all (Lw p)
theorem zjd{w:List WP}{p:List PP}{x:WP}(hx:x∈w)(h:Lw p x=false):IX w p=false:=by unfold IX;rw[Eh];exact⟨x,hx,by rw[h];exact Au⟩
noncomputable def UB:Sp:=λvs H Q _=>∃(a b:Addr)(w:List WP)(p:List PP),vs=[.ref a,.ref b]∧WishAt H a w∧PieceAt H b p∧POk p∧∀H',Same H H'→Q (.bl (IX w p)) H'
theorem az:("abcdefghijklmnopqrstuvwxyz":Str).cps.toList=(BU 26).map (· +97):=by decide+kernel
theorem SL{r:Int}(h0:0≤r)(h1:r<26):∃c,Km ("abcdefghijklmnopqrstuvwxyz":Str).cps.toList r=some c∧Ma c=true:=by
 rw[az];obtain⟨k,rfl⟩:∃k:Nat,r=k:=⟨r.toNat,by omega⟩;have hk:k<26:=by omega
 refine⟨k+97,?_,?_⟩
 · refine Lg ?_;rw[Af,List.getElem?_range hk];rfl
 · unfold Ma;rw[AF];exact⟨decide_eq_true (by omega),decide_eq_true (by omega)⟩
theorem VY:∀(cs:List Nat),(Txt.join ("":Str) (cs.map λc=>(⟨#[c]⟩:Str))).cps.toList=cs
 | []=>rfl
 | [c]=>rfl
 | c::d::r=>by
  have ih:=VY (d::r);have e:∀(ts:List Str),Txt.join ("":Str) ts=Str.join ("":Str) ts:=λts=>StrLaws.glued_eq_join _ _;rw[e] at ih ⊢;show((⟨#[c]⟩:Str)++("":Str)++Str.join ("":Str) ((d::r).map λc=>(⟨#[c]⟩:Str))).cps.toList=_;have:((⟨#[c]⟩:Str)++("":Str)++Str.join ("":Str) ((d::r).map λc=>(⟨#[c]⟩:Str))).cps.toList=c::(Str.join ("":Str) ((d::r).map λc=>(⟨#[c]⟩:Str))).cps.toList:=by show(#[c]++#[]++_:Array Nat).toList=_;simp
  rw[this,ih]
theorem YJ(cs:List Nat)(h:cs.length≤1000):JoinOk ("":Str) (cs.map λc=>(⟨#[c]⟩:Str))=true:=by
 unfold JoinOk;rw[Dx];refine StrLaws.joinFits (B:=1) (λy hy=>?_) ?_
 · obtain⟨c,_,rfl⟩:=AB.mp hy;exact Ah 1
 · rw[Ab];show cs.length*1+cs.length*0≤_;omega
theorem zjH{cs:List Nat}(h1:1≤cs.length)(h8:cs.length≤8)(ok:∀c∈cs,Ma c=true):FieldOk (Txt.join ("":Str) (cs.map λc=>(⟨#[c]⟩:Str))):=by
 have e:=VY cs;have hl:(Txt.join ("":Str) (cs.map λc=>(⟨#[c]⟩:Str))).length=cs.length:=by show Array.size _=_;rw[←A9,e]
 exact⟨by rw[hl];exact h1,by rw[hl];exact h8,by rw[e];exact ok⟩
theorem SameB.off{g p:Addr}{H':Hp}{o:HO}(s:SameB b g H H')(hp:H p=none):SameB b g H (IC H' p o):=λa x h n1 n2=>by
 have:a≠p:=λe=>by rw[e,hp] at h;cases h
 rw[IZ this];exact s a x h n1 n2
namespace FS
theorem dict_len:typeLookup (.type "dict") "__len__"=pure (some (.builtin "dict.__len__")):=by rw[typeLookup_type,builtinLookup_eq_fast];kernel_rfl
theorem split_dict_len:splitId "dict.__len__"=some ("dict","__len__"):=by decide+kernel
end FS
section
theorem ZD{Q:Bool→Shared→Prop}(hT:s.TypeIs (.ref a) "dict")(h:Q false s):wpAny (model prog w) A (CY (.ref a)) Q E s:=by
 unfold CY;refine Aa (Cn hT FS.dict_len ?_);dsimp only;generalize NJ:("dict.__len__":String)=id0;rw[show splitId id0=some ("dict","__len__") from by subst NJ;exact FS.split_dict_len]
 subst NJ;dsimp only;refine Aa (Cf (b:=true) hT VA ?_);simp only[CI,AR,if_false];refine Aa (C3 hT (Ac h))
variable{κ:Type}[DecidableEq κ]{knd:PySem.KeyKind prog w κ}
set_option maxHeartbeats 1000000 in
theorem zg4{kvs:List (κ×Value)}{ep:Nat}{Q:List Value→Shared→Prop}(hh:A.handled=none)(hs:(a==BC)=false)(D:s.heap.DictAt knd a kvs ep)(hz:kvs.length≤Ay)
 (hQ:∀(h':Heap)(tk:Nat)(vs:List Value),vs.length=kvs.length→(∀(i:Nat)(v:Value),vs[i]?=some v→∃k u,kvs[i]?=some (k,u)∧knd.is k v=true)→s.heap.objs.size<h'.objs.size→(∀b o,s.heap.get? b=some o→h'.get? b=some o)→Q vs {s with heap:=h',toks:=tk}):
 wpAny (model prog w) A (collect (.ref a)) Q E s:=by
 have haS:a<s.heap.objs.size:=D.lt_size;unfold collect;refine Aa (wpAny_runValue (Bf Fc ?_));rw[AO Fd _];show wpAny _ A.in1 (newList []>>=λl=>again (.builtin "list.__iadd__" ⟨[l,.ref a],[]⟩)) _ _ s;refine Aa (AM ?_);refine Ac ⟨Bj Dq _,Bf F_ ?_⟩;rw[AO Dq _];generalize hh1:s.heap.push {cls:= .type "list",data:= .seq ([]:List Value).toArray}=h1;have hk1:∀b o,s.heap.get? b=some o→h1.get? b=some o:=λb o e=>by rw[←hh1];exact Ad _ e
 have hS1:h1.get? s.heap.objs.size=some {cls:= .type "list",data:= .seq ([]:List Value).toArray}:=by rw[←hh1];exact Ak _ rfl
 have hz1:s.heap.objs.size<h1.objs.size:=Am hS1;have D1:h1.DictAt knd a kvs ep:=D.keep hk1;show wpAny _ A.in1 (CZ (.ref s.heap.objs.size) (.ref a) (.ref s.heap.objs.size)) _ _ {s with heap:=h1}
 unfold CZ;have hT1:Shared.TypeIs {s with heap:=h1} (.ref a) "dict":=D1.dictOf.typeIs
 refine Aa (C3 hT1 ?_);have e1:Cs (.ref s.heap.objs.size) (.ref a)=false:=by unfold Cs;exact beq_eq_false_iff_ne.mpr (BI (Ar haS))
 rw[if_neg (by rw[e1];decide)];refine Aa (wpAny_pyIter_dict (s:={s with heap:=h1}) (knd:=knd) hs D1 ?_)
 generalize hh2:h1.push {cls:= .type "dict_keyiterator",data:= .fields #[.ref a,.int 0 0,.int kvs.length 0,.int ep 0]}=h2;have hk2:∀b o,h1.get? b=some o→h2.get? b=some o:=λb o e=>by rw[←hh2];exact Ad _ e
 have hi:h2.IsKeyIter h1.objs.size a 0 kvs.length ep:=by rw[←hh2];exact⟨_,Ak _ rfl,rfl,rfl⟩
 have D2:h2.DictAt knd a kvs ep:=D1.keep hk2;show wpAny _ A.in1 _ _ _ {s with heap:=h2}
 refine Aa (AN (ZD (s:={s with heap:=h2}) D2.dictOf.typeIs ?_))
 rw[if_pos (by decide)];refine Aa (BA ?_);have hS2:h2.get? s.heap.objs.size=some {cls:= .type "list",data:= .seq ([]:List Value).toArray}:=hk2 _ _ hS1;refine Aa ?_;show wpAny _ A.in1 (updateSeq s.heap.objs.size (·.push .none)>>=λ_=>updateSeq s.heap.objs.size (·.pop)) _ _ {s with heap:=h2}
 refine Aa (Cb hS2 rfl ?_);have hS3:=Bb (AI (·.push Value.none)) hS2 rfl;refine Cb hS3 rfl ?_;have hS4:=Bb (AI (·.pop)) hS3 rfl;have oth:∀b o,b≠s.heap.objs.size→h2.get? b=some o→((h2.update s.heap.objs.size (AI (·.push Value.none))).update s.heap.objs.size (AI (·.pop))).get? b=some o:=
  λb o hb e=>(AT _ _ (BI hb)).trans ((AT _ _ (BI hb)).trans e)
 have hIne:h1.objs.size≠s.heap.objs.size:=BI (Ar hz1);have hane:a≠h1.objs.size:=Ar (BY haS hz1);have ext:DC s.heap.objs.size h2 ((h2.update s.heap.objs.size (AI (·.push Value.none))).update s.heap.objs.size (AI (·.pop))):=λb o hb e=>oth b o hb e;have W:=(Walks.dictKeys (knd:=knd) (A:=A.in1) (by simpa using hh) h1.objs.size a hane kvs ep).toS;refine Ac ⟨Bj FF _,codeAny_extend_loopS W hz s.heap.objs.size ?_ _ kvs.length 0 _ _ _ rfl (AK _)
  ⟨hi.extBut ext hIne,D2.extBut ext (Ar haS)⟩ hS4 (ItemsOf.nil _) λs' acc' c' hm hS' hacc=>?_⟩
 · intro hmem;rw[Aw,Aj] at hmem;rcases hmem with h | h
   · exact hIne h.symm
   · exact Ar haS h.symm
 · show wpAny _ A (load s.heap.objs.size>>=_) _ _ s';refine Aa (wpAny_load hS' ?_);obtain⟨h',g',d',tk',os'⟩:=s';have eg:g'=s.gens:=hm.gens;have ed:d'=s.drawn:=hm.drawn;have eo:os'=s.os:=hm.os;subst eg;subst ed;subst eo;refine Ac ?_;refine hQ h' tk' acc'.toList (by rw[A9];exact hacc.1) (λi v hv=>?_) (Am hS') λb o e=>?_
   · exact hacc.2 i v (by rw[←Cq];exact hv)
   · have hb:b<s.heap.objs.size:=Am e;refine hm.heap b o ?_ (oth b o (Ar hb) (hk2 _ _ (hk1 _ _ e)));simp only[Aw,Bs,or_false,not_or];exact⟨Ar hb,Ar (BY hb hz1)⟩
theorem WB:∀(fs:List Str)(vs:List Value),vs.length=fs.length→(∀(i:Nat)(v:Value)(f:Str),vs[i]?=some v→fs[i]?=some f→(JW prog w).is (.inr f) v=true)→StrsAre vs fs
 | [],[],_,_=> .nil
 | [],_::_,h,_=>by simp at h
 | _::_,[],h,_=>by simp at h
 | f::fs,v::vs,h,q=>by have h0:=q 0 v f rfl rfl;rw[zjx] at h0;obtain⟨t,rfl⟩:∃t,v= .str f t:=DD h0;exact .cons f t (WB fs vs (by simpa using h) λi v f' hv hf=>q (i+1) v f' (by simpa using hv) (by simpa using hf))
end
theorem Zq(o:Option Int):Jv (dE o)=0:=by cases o<;>rfl
theorem Xk{c:Nat}(h:Ma c=true):(Ec ("abcdefghijklmnopqrstuvwxyz":Str) (⟨#[c]⟩:Str) 0 ("abcdefghijklmnopqrstuvwxyz":Str).length 1).isEmpty=false:=by
 have h1:97≤c:=of_decide_eq_true ((AF _ _).mp h).1;have h2:c≤122:=of_decide_eq_true ((AF _ _).mp h).2;have all:∀k:Fin 26,(Ec ("abcdefghijklmnopqrstuvwxyz":Str) (⟨#[k.val+97]⟩:Str) 0 ("abcdefghijklmnopqrstuvwxyz":Str).length 1).isEmpty=false:=by decide+kernel
 have:=all ⟨c - 97,by omega⟩;rw[show(⟨c - 97,by omega⟩:Fin 26).val+97=c from by show c - 97+97=c;omega] at this
 exact this
noncomputable def Lo(ps:List (Addr×PP)):List (Addr×IV×V):=ps.map λp=>(p.1,(Sum.inr p.2.1:IV),V.int p.2.2)
theorem zjK(ps:List (Addr×PP))(pok:POk (ps.map (·.2)))(f:Str):∀(n:Nat),n≤ps.length→Jb ((Lo (ps.take n)).foldl (λacc p=>Ja acc p.2.1 p.2.2) []) (.inr f:IV)=(JX ((ps.map (·.2)).take n) f).map V.int:=by
 intro n
 induction n with
 | zero=>intro _;rfl
 | succ n ih=>
  intro hn;have e1:ps[n]?=some ps[n]:=by simp
  have ew:(ps.map (·.2))[n]?=some ps[n].2:=by rw[Af,e1];rfl
  have fr:=pok.fresh ew;rw[Jt e1,Jt ew,zjv _ _ _ fr];unfold Lo at ih ⊢;rw[Aq,Ej];show Jb (Ja _ (Sum.inr ps[n].2.1:IV) (V.int ps[n].2.2)) (.inr f)=_;rw[QO];by_cases hf:f=ps[n].2.1
  · rw[if_pos hf,if_pos (by rw[hf])];rfl
  · rw[if_neg hf,if_neg (λz=>hf (by injection z))];exact ih (by omega)
theorem zh7(ps:List (Addr×PP))(pok:POk (ps.map (·.2)))(f:Str):Jb ((Lo ps).foldl (λacc p=>Ja acc p.2.1 p.2.2) []) (.inr f:IV)=(JX (ps.map (·.2)) f).map V.int:=by have:=zjK ps pok f ps.length (Ah _);rw[Bd,A0 (by simp)] at this;exact this
theorem M3{w:List WP}{f:Str}{s:Option Int×Option Int}(h:IR w f=some s):∃p∈w,p.1=f∧p.2=s:=by
 unfold IR at h;cases e:w.find? (λp=>decide (p.1=f)) with
 | none=>rw[e] at h;cases h
 | some p=> rw[e] at h;have h2:decide (p.1=f)=true:=EC (p:=λ(p:WP)=>decide (p.1=f)) e;exact⟨p,Dk e,of_decide_eq_true h2,A4 h⟩
theorem V_{p:List PP}(h:(p.map (·.1)).Pairwise Jq){x:PP}(hx:x∈p):JX p x.1=some x.2:=by
 induction p with
 | nil=>simp at hx
 | cons y r ih=>
  rw[Ax,BV] at h;rcases Aw.mp hx with rfl | hx
  · simp[JX]
  · have:Jq y.1 x.1:=h.1 _ (Az hx);have ne:=Mv this;have:=ih h.2 hx;simp[JX,Cz,ne] at this ⊢;exact this
theorem V8{w:List WP}{f:Str}(h:IR w f=none):∀p∈w,p.1≠f:=λp hp e=>by unfold IR at h;rw[Gv,List.find?_eq_none] at h;exact h p hp (decide_eq_true e)
theorem X3{w:List WP}(h:(w.map (·.1)).Pairwise Jq):∀{x y:WP},x∈w→y∈w→x.1=y.1→x=y:=by
 induction w with
 | nil=>intro x y hx;simp at hx
 | cons z r ih=>
  rw[Ax,BV] at h;intro x y hx hy e;rcases Aw.mp hx with e1 | hx1
  · rcases Aw.mp hy with e2 | hy1
    · rw[e1,e2]
    · rw[e1] at e;exact absurd e (Mv (h.1 _ (Az hy1)))
  · rcases Aw.mp hy with e2 | hy1
    · rw[e2] at e;exact absurd e.symm (Mv (h.1 _ (Az hx1)))
    · exact ih h.2 hx1 hy1 e
theorem Z5{w:List WP}(h:(w.map (·.1)).Pairwise Jq){x:WP}(hx:x∈w):w.find? (λp=>decide (p.1=x.1))=some x:=by
 cases e:w.find? (λp=>decide (p.1=x.1)) with
 | none=>exact absurd (decide_eq_true rfl) (CW.mp e x hx)
 | some y=> have h2:decide (y.1=x.1)=true:=EC (p:=λ(p:WP)=>decide (p.1=x.1)) e;rw[X3 h (Dk e) hx (of_decide_eq_true h2)]
theorem Op{w:List WP}(h:(w.map (·.1)).Pairwise Jq){x:WP}(hx:x∈w):IR w x.1=some x.2:=by unfold IR;rw[Z5 h hx];rfl
theorem Zg{lo hi:Option Int}(h:Ke lo hi=true):Jr lo hi (MH lo hi)=true:=by cases lo<;>cases hi<;>simp[Ke,Jr,JL,JQ,MH] at h ⊢;exact decide_eq_true h
open PySem.W PyProof.Rows
namespace KS
noncomputable def Kl{α:Type}(lt:Nat→Nat→Bool)(n:Nat):KasT α→(α→Prop)→Prop
 | .ret a,Q=>Q a
 | .ask i j k,Q=>i<n∧j<n∧Kl lt n (k (lt i j)) Q
variable{lt:Nat→Nat→Bool}{N:Nat}
theorem NA{α β:Type}{f:α→KasT β}{Q:β→Prop}:∀(t:KasT α),Kl lt N t (λa=>Kl lt N (f a) Q)→Kl lt N (t.bind f) Q
 | .ret _,h=>h
 | .ask _ _ k,⟨h1,h2,h⟩=>⟨h1,h2,NA (k _) h⟩
theorem Lx{α:Type}{Q Q':α→Prop}(hq:∀a,Q a→Q' a):∀(t:KasT α),Kl lt N t Q→Kl lt N t Q'
 | .ret a,h=>hq a h
 | .ask _ _ k,⟨h1,h2,h⟩=>⟨h1,h2,Lx hq (k _) h⟩
structure Ord(lt:Nat→Nat→Bool):Prop where
 as:∀a b,lt a b=true→lt b a=false
 tr:∀a b c,lt b a=false→lt c b=false→lt c a=false
theorem Ord.rfl'(O:Ord lt)(a:Nat):lt a a=false:=by
 cases h:lt a a with
 | false=>rfl
 | true=>exact(O.as a a h).symm.trans h ▸ rfl
noncomputable abbrev K(p:Array Nat)(i:Nat):Nat:=p.getD i 0
structure Ok(N:Nat)(p:Array Nat):Prop where
 perm:p.toList.Perm (BU N)
theorem Ok.size{p:Array Nat}(h:Ok N p):p.size=N:=by have:=h.perm.length_eq;simpa using this
theorem Ok.below{p:Array Nat}(h:Ok N p)(hi:i<N):K p i<N:=by
 have hs:i<p.size:=by rw[h.size];exact hi
 have:p.getD i 0=p[i]:=by simp[FE,hs]
 show p.getD i 0<N;rw[this];have m:p[i]∈p.toList:=by simp
 exact CK.mp (h.perm.mem_iff.mp m)
theorem Ok.of_perm{p q:Array Nat}(h:Ok N p)(e:q.Perm p):Ok N q:=⟨(Array.perm_iff_toList_perm.mp e).trans h.perm⟩
theorem Ok.rev{p:Array Nat}(h:Ok N p)(i j:Nat):Ok N (kas_rev p i j):=h.of_perm (mirror_perm _ _ _ _)
theorem Ok.bub{p:Array Nat}(h:Ok N p)(i j:Nat):Ok N (bubble p i j):=h.of_perm (bubble_perm _ _ _)
theorem L6{p q:Array Nat}{j:Nat}(h:p[i]?=q[j]?):K p i=K q j:=by show p.getD i 0=q.getD j 0;rw[Fe,Fe,h]
theorem Qn{p:Array Nat}(h:Ok N p){j:Nat}(hj:j≤N)(k:Nat):K (kas_rev p i j) k=if i≤k∧k<j then K p (i+j - 1 - k) else K p k:=by
 have e:=getElem?_mirror_all (xs:=p) (i:=i) (j:=j) (by rw[h.size];exact hj) k
 split
 · rename_i c;rw[if_pos c] at e;exact L6 e
 · rename_i c;rw[if_neg c] at e;exact L6 e
theorem SK{p:Array Nat}(h:Ok N p){k l:Nat}(hk:k<N)(hl:l≤k)(i:Nat):K (bubble p k (k - l)) i=if i=l then K p k else if l<i∧i≤k then K p (i - 1) else K p i:=by
 have e:=getElem?_bubble (xs:=p) (src:=k) (by rw[h.size];exact hk) (k - l) (by omega) i;have e1:k - (k - l)=l:=by omega
 rw[e1] at e
 split
 · rename_i c;rw[if_pos c] at e;exact L6 e
 · rename_i c;rw[if_neg c] at e
   split
   · rename_i d;rw[if_pos d] at e;exact L6 e
   · rename_i d;rw[if_neg d] at e;exact L6 e
noncomputable def Srt(lt:Nat→Nat→Bool)(p:Array Nat)(m:Nat):Prop:=∀i j,i<j→j<m→lt (K p j) (K p i)=false
noncomputable def Dsc(lt:Nat→Nat→Bool)(p:Array Nat)(m:Nat):Prop:=∀i j,i<j→j<m→lt (K p i) (K p j)=false
noncomputable def Eqv(lt:Nat→Nat→Bool)(a b:Nat):Prop:=lt a b=false∧lt b a=false
theorem Eqv.symm{a b:Nat}(h:Eqv lt a b):Eqv lt b a:=⟨h.2,h.1⟩
theorem Ord.refl(O:Ord lt)(a:Nat):Eqv lt a a:=⟨O.rfl' a,O.rfl' a⟩
theorem Ord.eqv_trans(O:Ord lt){a b c:Nat}(h:Eqv lt a b)(h':Eqv lt b c):Eqv lt a c:=⟨O.tr c b a h'.1 h.1,O.tr a b c h.2 h'.2⟩
theorem Ord.via(O:Ord lt){a b a' b':Nat}(h1:Eqv lt a a')(h2:Eqv lt b b')(h:lt a' b'=false):lt a b=false:=
 O.tr b b' a h2.symm.1 (O.tr b' a' a h h1.1)
theorem Qu(O:Ord lt){p:Array Nat}(h:Ok N p):∀(f n:Nat),1≤n→n+f≤N→Srt lt p n→
 Kl lt N (kas_asc p f n) (λm=>n≤m∧m≤n+f∧Srt lt p m∧(m<n+f→lt (K p m) (K p (m - 1))=true))
 | 0,n,_,_,s=>⟨Ah _,Ah _,s,λz=>absurd z (by omega)⟩
 | f+1,n,h1,h2,s=>by
  refine⟨h.below (by omega),h.below (by omega),?_⟩;cases c:lt (p.getD n 0) (p.getD (n - 1) 0) with
  | true=>exact⟨Ah _,by omega,s,λ_=>c⟩
  | false=>
   show Kl lt N (kas_asc p f (n+1)) _;refine Lx (λm hm=>?_) _ (Qu O h f (n+1) (by omega) (by omega) ?_)
   · obtain⟨a1,a2,a3,a4⟩:=hm;exact⟨by omega,by omega,a3,λz=>a4 (by omega)⟩
   · intro i j hij hj;by_cases hjn:j<n
     · exact s i j hij hjn
     · obtain rfl:j=n:=by omega
       by_cases hi:i=j - 1
       · subst hi;exact c
       · exact O.tr _ (K p (j - 1)) _ (s i (j - 1) (by omega) (by omega)) c
theorem QA(O:Ord lt){p:Array Nat}(h:Ok N p){j:Nat}(hj:j≤N)(he:∀k,i≤k→k<j→Eqv lt (K p k) (K p (j - 1)))(k:Nat):Eqv lt (K (kas_rev p i j) k) (K p k):=by
 rw[Qn h hj]
 split
 · rename_i c;exact O.eqv_trans (he _ (by omega) (by omega)) (he k c.1 c.2).symm
 · exact O.refl _
theorem Dsc.eqv(O:Ord lt){p q:Array Nat}{m:Nat}(h:Dsc lt p m)(e:∀k,Eqv lt (K q k) (K p k)):Dsc lt q m:=λi j hij hj=>O.via (e i) (e j) (h i j hij hj)
noncomputable def SG(lt:Nat→Nat→Bool)(p:Array Nat)(m q:Nat):Prop:=∀i,m - (q+1)≤i→i<m→Eqv lt (K p i) (K p (m - 1))
theorem Dsc.snoc(O:Ord lt){p:Array Nat}(h1:1≤n)(s:Dsc lt p n)(c:lt (K p (n - 1)) (K p n)=false):Dsc lt p (n+1):=by
 intro i j hij hj;by_cases hjn:j<n
 · exact s i j hij hjn
 · obtain rfl:j=n:=by omega
   by_cases hi:i=j - 1
   · subst hi;exact c
   · exact O.tr _ (K p (j - 1)) _ c (s i (j - 1) (by omega) (by omega))
theorem Pj(O:Ord lt):∀(f:Nat)(p:Array Nat)(n q:Nat),Ok N p→q+1≤n→n+f≤N→Dsc lt p n→SG lt p n q→
 Kl lt N (kas_desc f p n q) (λr=>Ok N r.1∧n≤r.2.1∧r.2.1≤n+f∧Dsc lt r.1 r.2.1∧SG lt r.1 r.2.1 r.2.2∧r.2.2+1≤r.2.1)
 | 0,p,n,q,h,h1,h2,s,e=>⟨h,Ah _,Ah _,s,e,h1⟩
 | f+1,p,n,q,h,h1,h2,s,e=>by
  refine⟨h.below (by omega),h.below (by omega),?_⟩;cases c:lt (p.getD n 0) (p.getD (n - 1) 0) with
  | true=>
   have c':lt (K p (n - 1)) (K p n)=false:=O.as _ _ c;have s':=s.snoc O (by omega) c';show Kl lt N (if q>0 then kas_desc f (kas_rev p (n - (q+1)) n) (n+1) 0 else kas_desc f p (n+1) 0) _
   have t1:∀p',SG lt p' (n+1) 0:=λp' i hi1 hi2=>by
    obtain rfl:i=n:=by omega
    exact O.refl _
   split
   · refine Lx (λm hm=>?_) _ (Pj O f (kas_rev p (n - (q+1)) n) (n+1) 0 (h.rev _ _) (by omega) (by omega) (s'.eqv O (QA O h (by omega) e)) (t1 _));obtain⟨a1,a2,a3,a4⟩:=hm;exact⟨a1,by omega,by omega,a4⟩
   · refine Lx (λm hm=>?_) _ (Pj O f p (n+1) 0 h (by omega) (by omega) s' (t1 _));obtain⟨a1,a2,a3,a4⟩:=hm;exact⟨a1,by omega,by omega,a4⟩
  | false=>
   show Kl lt N (KasT.ask (p.getD (n - 1) 0) (p.getD n 0) λd=>if d=true then KasT.ret (p,n,q) else kas_desc f p (n+1) (q+1)) _
   refine⟨h.below (by omega),h.below (by omega),?_⟩;cases d:lt (p.getD (n - 1) 0) (p.getD n 0) with
   | true=>exact⟨h,Ah _,by show n≤n+(f+1);omega,s,e,h1⟩
   | false=>
    show Kl lt N (kas_desc f p (n+1) (q+1)) _;refine Lx (λm hm=>?_) _ (Pj O f p (n+1) (q+1) h (by omega) (by omega) (s.snoc O (by omega) d) ?_)
    · obtain⟨a1,a2,a3,a4⟩:=hm;exact⟨a1,by omega,by omega,a4⟩
    · intro i hi1 hi2;have en:Eqv lt (K p (n - 1)) (K p n):=⟨d,c⟩;by_cases hin:i=n
      · subst hin;exact O.refl _
      · exact O.eqv_trans (e i (by omega) (by omega)) en
theorem U6(O:Ord lt){p:Array Nat}{nrem:Nat}(h:Ok N p)(h1:1≤n)(h2:n≤nrem)(h3:nrem≤N)(s:Dsc lt p n):
 Kl lt N (kas_tail3 n nrem p) (λr=>Ok N r.2∧1≤r.1∧r.1≤nrem∧Srt lt r.2 r.1):=by
 unfold kas_tail3;refine NA _ (Lx (λm hm=>?_) _ (Qu O (h.rev 0 n) (nrem - n) n h1 (by omega) ?_))
 · obtain⟨a1,a2,a3,_⟩:=hm;exact⟨h.rev 0 n,by show 1≤m;omega,by show m≤nrem;omega,a3⟩
 · intro i j hij hj;rw[Qn h (by omega),Qn h (by omega),if_pos (by omega),if_pos (by omega)];exact s _ _ (by omega) (by omega)
theorem Wq(O:Ord lt){p:Array Nat}{nrem:Nat}(h:Ok N p)(h1:1≤n)(h2:n+1≤nrem)(h3:nrem≤N)(s:Dsc lt p (n+1)):
 Kl lt N (kas_descPart n nrem p) (λr=>Ok N r.2∧1≤r.1∧r.1≤nrem∧Srt lt r.2 r.1):=by
 unfold kas_descPart;refine NA _ (Lx (λr hr=>?_) _ (Pj O (nrem - (n+1)) p (n+1) 0 h (by omega) (by omega) s λi i1 i2=>?_))
 · obtain⟨a1,a2,a3,a4,a5,a6⟩:=hr
   split
   · exact U6 O (a1.rev _ _) (by omega) (by omega) h3 (a4.eqv O (QA O a1 (by omega) a5))
   · exact U6 O a1 (by omega) (by omega) h3 a4
 · obtain rfl:i=n:=by omega
   exact O.refl _
theorem Zn(O:Ord lt){p:Array Nat}{nrem:Nat}(h:Ok N p)(h1:1≤nrem)(h3:nrem≤N):
 Kl lt N (kas_count nrem p) (λr=>Ok N r.2∧1≤r.1∧r.1≤nrem∧Srt lt r.2 r.1):=by
 unfold kas_count;refine NA _ (Lx (λn hn=>?_) _ (Qu O h (nrem - 1) 1 (Ah _) (by omega) λi j hij hj=>absurd hj (by omega)));obtain⟨a1,a2,a3,a4⟩:=hn
 split
 · exact⟨h,a1,by show n≤nrem;omega,a3⟩
 · rename_i ne;have hlt:n<nrem:=by
    have:n≠nrem:=λz=>ne (by rw[z];simp);omega
   have c:=a4 (by omega);have c':=O.as _ _ c
   split
   · refine⟨h.below (by omega),h.below (by omega),?_⟩;cases d:lt (p.getD 0 0) (p.getD (n - 1) 0) with
     | true=>exact⟨h,a1,by show n≤nrem;omega,a3⟩
     | false=>
      show Kl lt N (kas_descPart n nrem (kas_rev p 0 n)) _;have al:∀k,0≤k→k<n→Eqv lt (K p k) (K p (n - 1)):=by
       intro k _ hk;have u1:lt (K p (n - 1)) (K p k)=false:=by
        by_cases z:k=n - 1
        · subst z;exact O.rfl' _
        · exact a3 k (n - 1) (by omega) (by omega)
       have u0:lt (K p k) (K p 0)=false:=by
        by_cases z:k=0
        · subst z;exact O.rfl' _
        · exact a3 0 k (by omega) hk
       exact⟨O.tr _ (K p 0) _ d u0,u1⟩
      refine Wq O (h.rev 0 n) a1 (by omega) h3 ?_;have dn:Dsc lt p n:=λi j hij hj=>O.via (al i (by omega) (by omega)) (al j (by omega) hj) (O.rfl' _);exact(dn.snoc O a1 c').eqv O (QA O h (by omega) al)
   · refine Wq O h a1 (by omega) h3 ?_;refine Dsc.snoc O a1 (λi j hij hj=>absurd hj (by omega)) c'
theorem QS(O:Ord lt){p:Array Nat}(h:Ok N p){k:Nat}(hk:k<N)(s:Srt lt p k):∀(f l r:Nat),l≤r→r≤k→r - l≤f→(∀i,i<l→lt (K p k) (K p i)=false)→(∀i,r≤i→i<k→lt (K p k) (K p i)=true)→
 Kl lt N (kas_place p k f l r) (λL=>L≤k∧(∀i,i<L→lt (K p k) (K p i)=false)∧∀i,L≤i→i<k→lt (K p k) (K p i)=true)
 | 0,l,r,h1,h2,h3,a,b=>by
  obtain rfl:l=r:=by omega
  exact⟨h2,a,b⟩
 | f+1,l,r,h1,h2,h3,a,b=>by
  unfold kas_place
  split
  · obtain rfl:l=r:=by omega
    exact⟨h2,a,b⟩
  · refine⟨h.below hk,h.below (by omega),?_⟩;cases c:lt (p.getD k 0) (p.getD ((l+r) / 2) 0) with
    | true=>
     show Kl lt N (kas_place p k f l ((l+r) / 2)) _;refine QS O h hk s f l _ (by omega) (by omega) (by omega) a λi i1 i2=>?_;cases d:lt (K p k) (K p i) with
     | true=>rfl
     | false=>
      have:lt (K p k) (K p ((l+r) / 2))=false:=by
       by_cases z:i=(l+r) / 2
       · rw[←z];exact d
       · exact O.tr _ (K p i) _ (s _ _ (by omega) i2) d
      rw[show lt (K p k) (K p ((l+r) / 2))=true from c] at this;cases this
    | false=>
     show Kl lt N (kas_place p k f ((l+r) / 2+1) r) _;refine QS O h hk s f _ r (by omega) h2 (by omega) (λi hi=>?_) b;by_cases z:i=(l+r) / 2
     · rw[z];exact c
     · exact O.tr _ (K p ((l+r) / 2)) _ (s _ _ (by omega) (by omega)) c
theorem Te(O:Ord lt):∀(f:Nat)(p:Array Nat)(k:Nat),Ok N p→k+f≤N→1≤k→Srt lt p k→Kl lt N (kas_bin f p k) (λq=>Ok N q∧Srt lt q (k+f))
 | 0,p,k,h,_,_,s=>⟨h,s⟩
 | f+1,p,k,h,h1,h2,s=>by
  unfold kas_bin;refine NA _ (Lx (λl hl=>?_) _ (QS O h (by omega) s k 0 k (by omega) (Ah _) (by omega) (λi hi=>absurd hi (by omega)) λi i1 i2=>absurd i2 (by omega)));obtain⟨l1,a,b⟩:=hl;have e:k+1+f=k+(f+1):=by omega
  rw[←e];refine Te O f _ (k+1) (h.bub k (k - l)) (by omega) (by omega) λi j hij hj=>?_;rw[SK h (by omega) l1,SK h (by omega) l1];by_cases jl:j=l
  · rw[if_pos jl,if_neg (by omega),if_neg (by omega)];exact a i (by omega)
  · rw[if_neg jl];by_cases jm:l<j∧j≤k
    · rw[if_pos jm];by_cases il:i=l
      · rw[if_pos il];exact O.as _ _ (b (j - 1) (by omega) (by omega))
      · rw[if_neg il];by_cases im:l<i∧i≤k
        · rw[if_pos im];exact s _ _ (by omega) (by omega)
        · rw[if_neg im];exact s _ _ (by omega) (by omega)
    · rw[if_neg jm,if_neg (by omega),if_neg (by omega)];exact s _ _ hij (by omega)
theorem sort_ok(O:Ord lt)(h1:1≤N):Kl lt N (kas_sort N) (λq=>Ok N q∧Srt lt q N):=by
 unfold kas_sort;refine NA _ (Lx (λr hr=>?_) _ (Zn O (p:=(BU N).toArray) ⟨by simp⟩ h1 (Ah _)));obtain⟨a1,a2,a3,a4⟩:=hr
 split
 · have e:max r.1 1=r.1:=by omega
   rw[e];refine Lx (λq hq=>?_) _ (Te O (N - r.1) r.2 r.1 a1 (by omega) a2 a4);rw[show r.1+(N - r.1)=N by omega] at hq;exact hq
 · have e:r.1=N:=by omega
   rw[e] at a4;exact⟨a1,a4⟩
open PySem in
theorem sat_wp{α:Type}{cmp:Nat→Nat→(Bool→Shared→Prop)→Shared→Prop}{Q:α→Prop}{G:α→Shared→Prop}(hc:∀i j C,i<N→j<N→C (lt i j) s→cmp i j C s)(hq:∀a,Q a→G a s):
 ∀t:KasT α,Kl lt N t Q→t.kasWp cmp G s
 | .ret a,h=>hq a h
 | .ask i j k,⟨h1,h2,h⟩=>hc i j _ h1 h2 (sat_wp hc hq (k _) h)
end KS
end L2
set_option maxHeartbeats 1000000
namespace L2
open PySem PySem.Spec PyProof.Rows PySem.W
open PySem PySem.Spec PyProof.Rows PySem.W
theorem Wf{α:Type}{f:α→Addr}:∀{ps:List α}{us:List Value},Vals (ps.map λp=>V.ref (f p)) us→us=ps.map λp=>Value.ref (f p)
 | [],_,h=>by cases h;rfl
 | p::ps,_,h=>by
  rw[Ax] at h;cases h with
  | cons r h=> obtain rfl:_=Value.ref (f p):=r;rw[Wf h];rfl
theorem Zk{α:Type}(d:α){ps:List α}{p:Array Nat}(h:KS.Ok ps.length p):(p.toList.map λi=>ps.getD i d).Perm ps:=by
 have e:(BU ps.length).map (λi=>ps.getD i d)=ps:=by
  apply List.ext_getElem
  · simp
  · intro i h1 h2;simp[h2]
 have:=h.perm.map (λi=>ps.getD i d);rw[e] at this;exact this
theorem YN{α β:Type}(f:α→β)(d:α)(e:β)(ps:List α)(h:i<ps.length):(ps.map f).getD i e=f (ps.getD i d):=by simp[h]
open PySem.AutoSeq1 (wpAny_loadPart')
open PySem.MeetsSeq PySem.MeetsSeq2 PySem.MeetsSeq3 PySem.SeqRoads2
noncomputable def LtAt(A:BE)(s:Shared)(y x:Value)(b:Bool):Prop:=
 ∀(prog:Bp)(w:World)(E:Value→Shared→Prop)(Q:Value→Shared→Prop),Q (.bool b) s→wpAny (model prog w) A (richCompare .Lt y x) Q E s
structure FirstAt(A:BE)(s:Shared)(items items2:Array Value)(b:Bool)(j:Nat):Prop where
 le1:j≤items.size
 le2:j≤items2.size
 same:∀i(h1:i<items.size)(h2:i<items2.size),i<j→DZ A s items[i] items2[i] true
 fin:((items.size≤j∨items2.size≤j)∧b=decide (items.size<items2.size))∨∃(h1:j<items.size)(h2:j<items2.size),DZ A s items[j] items2[j] false∧LtAt A s items[j] items2[j] b
theorem zhW(l b:Addr)(items items2:Array Value)(n n2:Nat)(dd dd2:Option Addr)(sl sl2:Array (Option Value))(c:Bool)(j k:Nat):
 ∀i:Nat,j - i=k→i≤j→∀(A:BE)(R:Result→Shared→Prop)(s:Shared),s.heap.get? l=some {cls:= .type "list",dict:=dd,data:= .seq items n,slots:=sl}→s.heap.get? b=some {cls:= .type "list",dict:=dd2,data:= .seq items2 n2,slots:=sl2}→
  FirstAt A.in1 s items items2 c j→R (.ok (.ret (.bool c))) s→
  wpAny (model P w) A.in1 (Builtin.«list.__eq__.loop» ⟨[.ref l,.ref b,rawInt i,rawInt 0],[]⟩) (λfin s'=>match fin with | .done f=>R (.ok f) s' | .again c'=>c'.quiet=true∧codeAny (model P w) A c' R s') (λe s'=>R (.error e) s') s:=by
 induction k with
 | zero=>
  intro i hk hij A R s hl hb F h;obtain rfl:i=j:=by omega
  obtain⟨hp,g,d,tk,os⟩:=s;rcases F.fin with⟨hs,hc⟩ | ⟨h1,h2,he,hlt⟩
  · wp_walk using AC hl,AC hb
    by_cases c1:i<items.size
    · have o1:items[((i:Nat):Int).toNat]?=some items[i]:=by simp[c1]
      have o2:items2[((i:Nat):Int).toNat]?=none:=by simp;omega
      rw[o1,o2]
      wp_walk using AC hl,AC hb
      show R (.ok (.ret (.bool (decide (items.size<items2.size))))) _;rw[←hc];exact h
    · have o1:items[((i:Nat):Int).toNat]?=none:=by simp;omega
      rw[o1]
      wp_walk using AC hl,AC hb
      show R (.ok (.ret (.bool (decide (items.size<items2.size))))) _;rw[←hc];exact h
  · wp_walk using AC hl,AC hb
    have o1:items[((i:Nat):Int).toNat]?=some items[i]:=by simp[h1]
    have o2:items2[((i:Nat):Int).toNat]?=some items2[i]:=by simp[h2]
    rw[o1,o2];refine Aa (he _ _ _ _ ?_)
    wp_walk using AC hl,AC hb
    rw[o1,o2];refine Aa (hlt _ _ _ _ ?_)
    wp_walk
    exact h
 | succ k ih=>
  intro i hk hij A R s hl hb F h;obtain⟨hp,g,d,tk,os⟩:=s
  wp_walk using AC hl,AC hb
  have f1:=F.le1;have f2:=F.le2;have lt1:i<items.size:=by omega
  have KU:i<items2.size:=by omega
  have o1:items[((i:Nat):Int).toNat]?=some items[i]:=by simp[lt1]
  have o2:items2[((i:Nat):Int).toNat]?=some items2[i]:=by simp[KU]
  have hc:((i:Int)+1)=((i+1:Nat):Int):=by push_cast;rfl
  rw[o1,o2];refine Aa (F.same i lt1 KU (by omega) _ _ _ _ ?_)
  wp_walk
  rw[hc];exact⟨Bj plain_eq_loop _,Bf entry_eq_loop (by rw[AO plain_eq_loop _];exact ih (i+1) (by omega) (by omega) A R _ hl hb F h)⟩
theorem zkS(l b:Addr)(items items2:Array Value)(n n2:Nat)(dd dd2:Option Addr)(sl sl2:Array (Option Value)){c:Bool}{j:Nat}(A:BE)(R:Result→Shared→Prop)(s:Shared)
 (hl:s.heap.get? l=some {cls:= .type "list",dict:=dd,data:= .seq items n,slots:=sl}) (hb:s.heap.get? b=some {cls:= .type "list",dict:=dd2,data:= .seq items2 n2,slots:=sl2})
 (F:FirstAt A.in1 s items items2 c j) (h:R (.ok (.ret (.bool c))) s):
 wpAny (model P w) A.in1 (Builtin.«list.__lt__» ⟨[.ref l,.ref b],[]⟩) (λfin s'=>match fin with | .done f=>R (.ok f) s' | .again c'=>c'.quiet=true∧codeAny (model P w) A c' R s') (λe s'=>R (.error e) s') s:=by
 obtain⟨hp,g,d,tk,os⟩:=s;have f3:=En
 wp_walk using AC hl,AC hb
 exact⟨Bj plain_eq_loop _,Bf entry_eq_loop (by rw[AO plain_eq_loop _];exact zhW l b items items2 n n2 dd dd2 sl sl2 c j _ 0 rfl (AK _) A R _ hl hb F h)⟩
theorem Wn{l:Addr}{items items2:Array Value}{c:Bool}{j:Nat}{E:Value→Shared→Prop}{Q:Value→Shared→Prop}(hl:s.heap.IsList l items)(hb:s.heap.IsList b items2)(FA:FirstAt A.in1 s items items2 c j)(h:Q (.bool c) s):
 wpAny (model P w) A (call (.builtin "list.__lt__") [.ref l,.ref b]) Q E s:=by
 obtain⟨⟨c1,dd,data,sl⟩,ho,hc,n,hd⟩:=id hl;obtain⟨⟨c2,dd2,data2,sl2⟩,ho2,hc2,n2,hd2⟩:=id hb;simp only at hc hd hc2 hd2;subst hc hd hc2 hd2;refine E7 (Di F.slot_list_lt.plain F.entry_list_lt (F.slot_list_lt.check _ _ _ _ _ _ _ _ ⟨_,ho,rfl⟩ (F.args_list_lt_2 _ _) ?_));exact zkS l b items items2 n n2 dd dd2 sl sl2 A (wants Q E) s ho ho2 FA h
theorem LtAt.lists{l:Addr}{items items2:Array Value}{c:Bool}{j:Nat}(hl:s.heap.IsList l items)(hb:s.heap.IsList b items2)(hu:A.units<cLine)(FA:FirstAt A.in1 s items items2 c j):LtAt A s (.ref l) (.ref b) c:=by intro P w E Q h;obtain⟨o,ho,hc,_⟩:=id hl;obtain⟨o2,ho2,hc2,_⟩:=id hb;exact BQ (op:= .Lt) ⟨_,ho,hc⟩ ⟨_,ho2,hc2⟩ F.slot_list_lt (Wn hl hb FA ⟨(λx=>nomatch x),h⟩) hu
theorem LtAt.tuples{l:Addr}{items items2:Array Value}{c:Bool}{j:Nat}(hl:s.heap.IsTuple l items)(hb:s.heap.IsTuple b items2)(hu:A.units<cLine)(FA:FirstAt A.in1 s items items2 c j):LtAt A s (.ref l) (.ref b) c:=by
 intro P w E Q h;obtain⟨⟨c1,dd,data,sl⟩,ho,hc,n,hd⟩:=id hl;obtain⟨⟨c2,dd2,data2,sl2⟩,ho2,hc2,n2,hd2⟩:=id hb;simp only at hc hd hc2 hd2;subst hc hd hc2 hd2;refine BQ (op:= .Lt) ⟨_,ho,rfl⟩ ⟨_,ho2,rfl⟩ F.slot_tuple_lt (AH F.slot_tuple_lt ⟨_,ho,rfl⟩ F.entry_tuple_lt ?_ (F.args_tuple_lt_2 _ _)) hu;obtain⟨hp,g,d,tk,os⟩:=s;have f2:=FQ;have hZ:(items.toList.zip items2.toList).length=min items.size items2.size:=by simp
 have f1:=FA.le1;have f2':=FA.le2
 wp_walk using AC ho,AC ho2,CP _ (λrest b s'=>s'=⟨hp,g,d,tk,os⟩∧((b.1=none∧∃i,i≤j∧rest=(items.toList.zip items2.toList).drop i)∨(b.1=some (PySem.Fin.done (.ret (.bool c)))∧rest=[]))) _
 case turn=>
  rintro⟨y,x⟩ rest b' s' ⟨rfl,⟨hb',i,hij,hz⟩ | ⟨_,hz⟩⟩
  · have lt0:i<(items.toList.zip items2.toList).length:=by
     rcases CV i (items.toList.zip items2.toList).length with h' | h'
     · exact h'
     · rw[Eo h'] at hz;cases hz
    have h1:i<items.size:=by omega
    have h2:i<items2.size:=by omega
    rw[Bu lt0] at hz;injection hz with hyx hrest
    have hy:y=items[i]:=by have:=congrArg Prod.fst hyx;simpa using this
    have hx:x=items2[i]:=by have:=congrArg Prod.snd hyx;simpa using this
    subst hy hx;rcases CV i j with h3 | h3
    · refine Aa (FA.same i h1 h2 h3 _ _ _ _ ?_)
      wp_walk
      exact⟨rfl,.inl ⟨rfl,i+1,h3,hrest⟩⟩
    · obtain rfl:i=j:=by omega
      rcases FA.fin with⟨hs,hc⟩ | ⟨_,_,he,hlt⟩
      · omega
      · refine Aa (he _ _ _ _ ?_);simp only[G5,if_true];refine Aa (BA ?_);refine Aa (hlt _ _ _ _ ?_)
        wp_walk
        exact⟨_,rfl,(λx=>nomatch x),h⟩
  · cases hz
 case fin=>
  rintro⟨b1,b2⟩ s' ⟨rfl,⟨hb',i,hij,hz⟩ | ⟨hb',_⟩⟩
  · simp only at hb';subst hb'
    wp_walk
    refine⟨_,rfl,?_⟩;have hlen:(items.toList.zip items2.toList).length≤i:=by
     rcases CV i (items.toList.zip items2.toList).length with h' | h'
     · rw[Bu h'] at hz;cases hz
     · exact h'
    rcases FA.fin with⟨hs,hc⟩ | ⟨h1,h2,_,_⟩
    · have e:CC .Lt items.size items2.size=Value.bool c:=by rw[hc];rfl
      rw[e];exact⟨(λx=>nomatch x),h⟩
    · omega
  · simp only at hb';subst hb'
    wp_walk
    exact⟨_,rfl,(λx=>nomatch x),h⟩
 case h=>exact⟨rfl,.inl ⟨rfl,0,AK _,rfl⟩⟩
theorem LtAt.ints(a b:Int)(t u:Tok):LtAt A s (.int a t) (.int b u) (decide (a<b)):=λP w E Q h=>by exact(wpAny_lt_int (prog:=P) (w:=w) (A:=A) (E:=E) (t:=t) (u:=u) h)
theorem LtAt.bools(a b:Bool):LtAt A s (.bool a) (.bool b) (!a && b):=λP w E Q h=>by refine lt_bool (p:=a) (q:=b) (prog:=P) (w:=w) (A:=A) (E:=E) ?_;cases a<;>cases b<;>exact h
theorem LtAt.strs(a b:Str)(t u:Tok):LtAt A s (.str a t) (.str b u) (decide (a.cps.toList<b.cps.toList)):=λP w E Q h=>by exact lt_str (x:=a) (y:=b) (t:=t) (u:=u) (prog:=P) (w:=w) (A:=A) (E:=E) h
mutual
noncomputable def I_:PD→PD→Bool
 | .bl a,.bl b=>!a && b
 | .int a,.int b=>decide (a<b)
 | .str a,.str b=>decide (a.cps.toList<b.cps.toList)
 | .lst xs,.lst ys=>J9 xs ys
 | .tup xs,.tup ys=>J9 xs ys
 | _,_=>false
noncomputable def J9:List PD→List PD→Bool
 | [],[]=>false
 | [],_::_=>true
 | _::_,[]=>false
 | x::xs,y::ys=>if IK x y=true then J9 xs ys else I_ x y
end
mutual
noncomputable def IN:PD→PD→Bool
 | .bl _,.bl _=>true
 | .int _,.int _=>true
 | .str _,.str _=>true
 | .lst xs,.lst ys=>JJ xs ys
 | .tup xs,.tup ys=>JJ xs ys
 | _,_=>false
noncomputable def JJ:List PD→List PD→Bool
 | x::xs,y::ys=>if IK x y=true then JJ xs ys else IN x y
 | _,_=>true
end
mutual
theorem Y_(I:Inv X pins σ H s):∀(A:BE)(d e:PD)(v w:V)(u y:Value),Rep X.K H d v→Rep X.K H e w→RelV v u→RelV w y→A.units+Jv d<cLine→IN d e=true→LtAt A s u y (I_ d e)
 | A,.bl c,.bl b,v,w,u,y,h,h',r,r',z,ok=>by rw[Rep] at h h';subst h h';cases r;cases r';rw[I_];exact LtAt.bools c b
 | A,.int c,.int b,v,w,u,y,h,h',r,r',z,ok=>by rw[Rep] at h h';subst h h';obtain⟨t,rfl⟩:=r;obtain⟨t',rfl⟩:=r';rw[I_];exact LtAt.ints c b t t'
 | A,.str c,.str b,v,w,u,y,h,h',r,r',z,ok=>by rw[Rep] at h h';subst h h';obtain⟨t,rfl⟩:=r;obtain⟨t',rfl⟩:=r';rw[I_];exact LtAt.strs c b t t'
 | A,.lst ds,.lst es,v,w,u,y,h,h',r,r',z,ok=>by rw[Rep] at h h';obtain⟨a,xs,rfl,q,qs⟩:=h;obtain⟨b,ys,rfl,q',qs'⟩:=h';cases r;cases r';obtain⟨its,rv,p,_⟩:=I.list q;obtain⟨its',rv',p',_⟩:=I.list q';rw[Jv] at z;rw[I_];rw[IN] at ok;obtain⟨j,F⟩:=Oi I A.in1 ds es xs ys its its' qs qs' rv rv' (by rw[Bq];omega) ok;exact LtAt.lists p.isList p'.isList (by omega) F
 | A,.tup ds,.tup es,v,w,u,y,h,h',r,r',z,ok=>by rw[Rep] at h h';obtain⟨a,xs,rfl,q,qs⟩:=h;obtain⟨b,ys,rfl,q',qs'⟩:=h';cases r;cases r';obtain⟨its,rv,p,_⟩:=I.tuple q;obtain⟨its',rv',p',_⟩:=I.tuple q';rw[Jv] at z;rw[I_];rw[IN] at ok;obtain⟨j,F⟩:=Oi I A.in1 ds es xs ys its its' qs qs' rv rv' (by rw[Bq];omega) ok;exact LtAt.tuples p p' (by omega) F
 | A,.non,e,v,w,u,y,h,h',r,r',z,ok=>by cases e<;>simp[IN] at ok
 | A,.bl _,.non,v,w,u,y,h,h',r,r',z,ok=>by simp[IN] at ok
 | A,.bl _,.int _,v,w,u,y,h,h',r,r',z,ok=>by simp[IN] at ok
 | A,.bl _,.str _,v,w,u,y,h,h',r,r',z,ok=>by simp[IN] at ok
 | A,.bl _,.lst _,v,w,u,y,h,h',r,r',z,ok=>by simp[IN] at ok
 | A,.bl _,.tup _,v,w,u,y,h,h',r,r',z,ok=>by simp[IN] at ok
 | A,.int _,.non,v,w,u,y,h,h',r,r',z,ok=>by simp[IN] at ok
 | A,.int _,.bl _,v,w,u,y,h,h',r,r',z,ok=>by simp[IN] at ok
 | A,.int _,.str _,v,w,u,y,h,h',r,r',z,ok=>by simp[IN] at ok
 | A,.int _,.lst _,v,w,u,y,h,h',r,r',z,ok=>by simp[IN] at ok
 | A,.int _,.tup _,v,w,u,y,h,h',r,r',z,ok=>by simp[IN] at ok
 | A,.str _,.non,v,w,u,y,h,h',r,r',z,ok=>by simp[IN] at ok
 | A,.str _,.bl _,v,w,u,y,h,h',r,r',z,ok=>by simp[IN] at ok
 | A,.str _,.int _,v,w,u,y,h,h',r,r',z,ok=>by simp[IN] at ok
 | A,.str _,.lst _,v,w,u,y,h,h',r,r',z,ok=>by simp[IN] at ok
 | A,.str _,.tup _,v,w,u,y,h,h',r,r',z,ok=>by simp[IN] at ok
 | A,.lst _,.non,v,w,u,y,h,h',r,r',z,ok=>by simp[IN] at ok
 | A,.lst _,.bl _,v,w,u,y,h,h',r,r',z,ok=>by simp[IN] at ok
 | A,.lst _,.int _,v,w,u,y,h,h',r,r',z,ok=>by simp[IN] at ok
 | A,.lst _,.str _,v,w,u,y,h,h',r,r',z,ok=>by simp[IN] at ok
 | A,.lst _,.tup _,v,w,u,y,h,h',r,r',z,ok=>by simp[IN] at ok
 | A,.tup _,.non,v,w,u,y,h,h',r,r',z,ok=>by simp[IN] at ok
 | A,.tup _,.bl _,v,w,u,y,h,h',r,r',z,ok=>by simp[IN] at ok
 | A,.tup _,.int _,v,w,u,y,h,h',r,r',z,ok=>by simp[IN] at ok
 | A,.tup _,.str _,v,w,u,y,h,h',r,r',z,ok=>by simp[IN] at ok
 | A,.tup _,.lst _,v,w,u,y,h,h',r,r',z,ok=>by simp[IN] at ok
theorem Oi(I:Inv X pins σ H s):∀(A:BE)(ds es:List PD)(vs ws:List V)(us ys:List Value),Reps X.K H ds vs→Reps X.K H es ws→Vals vs us→Vals ws ys→A.units+JF ds<cLine→JJ ds es=true→
 ∃j,FirstAt A s us.toArray ys.toArray (J9 ds es) j
 | A,[],es,vs,ws,us,ys,h,h',r,r',z,ok=>by
  rw[Reps] at h;subst h;cases r;have l1:=h'.length;have l2:=r'.length;refine⟨0,AK _,AK _,λi h1 h2 h3=>absurd h3 (DK _),.inl ⟨.inl (by simp),?_⟩⟩;cases es with
  | nil=> rw[J9];rw[Reps] at h';subst h';cases r';rfl
  | cons e es=>rw[J9];simp at l1 l2;simp;omega
 | A,d::ds,[],vs,ws,us,ys,h,h',r,r',z,ok=>by rw[Reps] at h';subst h';cases r';refine⟨0,AK _,AK _,λi h1 h2 h3=>absurd h3 (DK _),.inl ⟨.inr (by simp),?_⟩⟩;rw[J9];simp
 | A,d::ds,e::es,vs,ws,us,ys,h,h',r,r',z,ok=>by
  rw[Reps] at h h';obtain⟨x,vr,rfl,g1,g2⟩:=h;obtain⟨x',vr',rfl,g1',g2'⟩:=h';cases r with
  | @cons _ u1 _ ur ra rb=>
   cases r' with
   | @cons _ y1 _ yr ra' rb'=>
    rw[JF] at z;rw[JJ] at ok;have he:=MQ I A d e x x' _ _ g1 g1' ra ra' (by omega);rw[J9];by_cases hq:IK d e=true
    · rw[if_pos hq] at ok ⊢;rw[hq] at he;obtain⟨j,F⟩:=Oi I A ds es vr vr' _ _ g2 g2' rb rb' (by omega) ok;have f1:=F.le1;have f2:=F.le2;have f3:=F.same;have f4:=F.fin;simp only[Av] at f1 f2 f3 f4;refine⟨j+1,by simpa using f1,by simpa using f2,λi h1 h2 h3=>?_,?_⟩
      · cases i with
        | zero=>exact he
        | succ i=>simpa using f3 i (by simpa using h1) (by simpa using h2) (by omega)
      · rcases f4 with⟨hs,hc⟩ | ⟨h1,h2,k1,k2⟩
        · refine .inl ⟨by simpa using hs,?_⟩;rw[hc];simp
        · exact .inr ⟨by simpa using h1,by simpa using h2,by simpa using k1,by simpa using k2⟩
    · rw[if_neg hq] at ok ⊢;rw[Bool.not_eq_true] at hq;rw[hq] at he;have zz:A.units+Jv d<cLine:=by omega
      exact⟨0,AK _,AK _,λi h1 h2 h3=>absurd h3 (DK _),.inr ⟨by simp,by simp,he,Y_ I A d e x x' _ _ g1 g1' ra ra' zz ok⟩⟩
end
open PySem PySem.Spec PyProof.Rows PySem.W
section
variable{o:HO}
theorem Inv.track7(I:Inv X pins σ H s)(hn:IJ X pins H a)(h0:X.s₀.heap.get? a=none)(new:ObjOk X.prog X.w (IC H a o) s.heap a o):Inv X pins σ (IC H a o) s:=by
 obtain⟨hn,hl,_,_,hc,hp⟩:=hn;refine⟨I.ok,I.os,I.bare,⟨I.base.keep,I.base.slot,λb ob q n hx=>?_,I.base.there,λb xs q=>?_,λb ob u q=>?_,λb ps q=>?_⟩,I.loc,I.cell,?_,λx c e=>?_,λp hp'=>?_,λb u q=>?_,I.len⟩
 · have:b≠a:=λz=>by rw[z,h0] at q;cases q
   rw[IZ this];exact I.base.free b ob q n hx
 · have:=I.base.tups b xs q;rw[IZ (JY this hn)];exact this
 · have:=I.base.frzs b ob u q;rw[IZ (JY this hn)];exact this
 · obtain⟨m,this⟩:=I.base.tbls b ps q;exact⟨m,by rw[IZ (JY this hn)];exact this⟩
 · rw[IZ hl.symm];exact I.free
 · rw[IZ (hc x c e)];exact I.freeC x c e
 · obtain⟨e,n,r⟩:=I.pin p hp';exact⟨e,by rw[IZ (hp p hp')];exact n,r⟩
 · by_cases hb:b=a
   · subst hb;rw[IE] at q;cases q;exact new
   · rw[IZ hb] at q;exact(I.hok b u q).stay (λc v _ r=>r) (λc r=>by rw[IZ (JY r hn)];exact r) λc xs r=>by rw[IZ (JY r hn)];exact r
mutual
theorem Rep.same{K:Ae}{H':Hp}(h:Same H H'):∀(d:PD)(v:V),Rep K H d v→Rep K H' d v
 | .non,v,q=>by rw[Rep] at q ⊢;exact q
 | .bl _,v,q=>by rw[Rep] at q ⊢;exact q
 | .int _,v,q=>by rw[Rep] at q ⊢;exact q
 | .str _,v,q=>by rw[Rep] at q ⊢;exact q
 | .lst ds,v,q=>by rw[Rep] at q ⊢;obtain⟨a,xs,rfl,q1,q2⟩:=q;exact⟨a,xs,rfl,h.seq q1,Reps.same h ds xs q2⟩
 | .tup ds,v,q=>by rw[Rep] at q ⊢;obtain⟨a,xs,rfl,q1,q2⟩:=q;exact⟨a,xs,rfl,h.seqT q1,Reps.same h ds xs q2⟩
theorem Reps.same{K:Ae}{H':Hp}(h:Same H H'):∀(ds:List PD)(vs:List V),Reps K H ds vs→Reps K H' ds vs
 | [],vs,q=>by rw[Reps] at q ⊢;exact q
 | d::ds,vs,q=>by rw[Reps] at q ⊢;obtain⟨x,r,e,q1,q2⟩:=q;exact⟨x,r,e,Rep.same h d x q1,Reps.same h ds r q2⟩
end
theorem zjr{prog:Bp}{w:World}{E:Value→Shared→Prop}{l:Addr}{items items2:Array Value}{c:Bool}{j:Nat}{Q:Bool→Shared→Prop}(hl:s.heap.IsList l items)(hb:s.heap.IsList b items2)(hu:A.units<cLine)(FA:FirstAt A.in1 s items items2 c j)(h:Q c s):
 wpAny (model prog w) A (keyLt' oneType' (.ref l) (.ref b)) Q E s:=by
 obtain⟨o,ho,hc,_⟩:=id hl;rw[keyLt'_oneType,oneLt'_eq];simp only[if_true];refine Aa (wpAny_cRoomFor hu ?_);refine Aa (wpAny_callSpecialIfBound?_slot ⟨o,ho,hc⟩ F.slot_list_lt (Wn hl hb FA ?_));exact Bk h
theorem zjF{M:Model}{l:Addr}{items:Array Value}(hl:h.IsList l items):Looks M h (typeOf (.ref l)) (.type "list"):=by obtain⟨o,ho,hc,_⟩:=hl;rw[←hc];exact(Looks.ld ho).andThen .now
end
open PySem PySem.Spec PyProof.Rows PySem.W
noncomputable abbrev Cx.in2(X:Cx):Cx:={X with A:=X.A.in1.in1,xe:=λ_ _=>False}
theorem Cx.Ok.in2(ok:X.Ok):X.in2.Ok:=⟨ok.mod,ok.kind,ok.glob,ok.blt,ok.above,ok.inj,ok.has,ok.cab,ok.hd,ok.frames,ok.stk,ok.exf,ok.bs,ok.bsz,ok.noex,ok.exfs,ok.funs,ok.frf⟩
theorem Inv.in2(I:Inv X pins σ H s):Inv X.in2 pins σ H s:=⟨I.ok.in2,I.os,I.bare,I.base,I.loc,I.cell,I.free,I.freeC,I.pin,I.hok,I.len⟩
theorem Inv.out2(ok:X.Ok)(I:Inv X.in2 pins σ H s):Inv X pins σ H s:=⟨ok,I.os,I.bare,I.base,I.loc,I.cell,I.free,I.freeC,I.pin,I.hok,I.len⟩
noncomputable def Qi(ps:List (Addr×PD))(d:PD):Value→Bool
 | .ref a=>(ps.find? λp=>decide (p.1=a)).any λp=>IK p.2 d
 | _=>false
section
variable{o:Obj}{kvs:List (IV×V)}
end
section
variable{tg:Expr}
end
section
variable{p:Addr}{g:TG}{tc:TT}{te:TE}{Q:VK}{o:Obj}{kvs:List (IV×V)}{fs:List Str}
end
noncomputable def Y1:List V→Hp→VK→Prop:=λxs H Q=>∃(a:Addr)(kvs:List (IV×V))(fs:List Str),xs=[.ref a]∧Rd H a (.dK kvs)∧kvs.map (·.1)=fs.map Sum.inr∧fs.length<64∧
 ∀(p:Addr)(ms:List Str),ms.Perm fs→ms.Nodup→sortedS ms=true→H p=none→Q (.ref p) (IC H p (.lst (ms.map V.str)))
theorem zf4(hc:X.calm=true):KH X (.builtin "sorted") Y1:=by
 intro pins s σ H xs us Q I r h;obtain⟨a,kvs,fs,rfl,hH,hfs,h64,q⟩:=h;obtain⟨u,rfl,rx⟩:=KA r;cases rx;obtain⟨hz,hS,vs,rk,m⟩:kvs.length≤Ay∧(a==BC)=false∧∃vs,KV kvs vs∧s.heap.DictOf (JW X.prog X.w) a vs:=by
  rcases hH with hH | ⟨o,hH⟩
  · exact I.hok a _ hH
  · exact(show ObjOk X.prog X.w H s.heap a (.frz o (.dK kvs)) from I.hok a _ hH).2
 obtain⟨ep,D⟩:=m.dictAt;have hlen:kvs.length=vs.length:=Eu rk;have hfl:kvs.length=fs.length:=by have:=congrArg Be hfs;simpa using this
 have keys:vs.map (·.1)=fs.map Sum.inr:=by
  rw[←hfs];clear hfs D m hlen hfl hz hH;unfold KV at rk
  induction rk with
  | nil=>rfl
  | cons r t ih=>rw[Ax,Ax,ih,r.1]
 have hnd:fs.Nodup:=by have:=D.nodup;rw[keys] at this;exact List.Pairwise.of_map _ (λ_ _ z e=>z (by rw[e])) this
 refine FG kind_sorted plain_sorted entry_sorted (args_sorted1 _) ?_;unfold FP;refine Aa (m:=checkCount "sorted" 1 1 _) (Ac ?_);refine Aa (zg4 (knd:=JW X.prog X.w) (by simpa using I.ok.hd hc) hS D (by omega) λh1 tk1 ws hwl hws hsz hk=>?_);have hv:StrsAre ws fs:=WB (prog:=X.prog) (w:=X.w) fs ws (by omega) λi v f h2 h3=>by
  obtain⟨k,u,h4,h5⟩:=hws i v h2;have:(vs.map (·.1))[i]?=some k:=by rw[Af,h4];rfl
  rw[keys,Af,h3] at this;cases this;exact h5
 refine Aa (Fq ?_ (by rw[sizeLine_eq];omega));have hoL:(h1.push (Bo "list" ws.toArray 0)).get? h1.objs.size=some (Bo "list" ws.toArray 0):=Ak _ rfl;show wpAny _ _ (holding _ _>>=_) _ _ {s with heap:=h1.push (Bo "list" ws.toArray 0),toks:=tk1}
 refine Aa (AN (AH G4 ⟨_,hoL,rfl⟩ Gh (list_sort_treeK strKind_oneLt hoL hv.keysOf (λv₁ v₂ rest e=>keyKind_strs (by rw[←e];exact hv)) (by omega) λst' a1 a2=>⟨_,rfl,?_⟩) (args_list_sort _)));obtain⟨ms,m1,m2,m3⟩:=sorted_out_str hv a1 a2;obtain⟨e,he⟩:=sortedHeap_at (out:=(arrOf st').map (·.2)) hoL;refine Ac ⟨_,rfl,?_⟩;have hn1:H h1.objs.size=none:=I.hok.fresh (Bv hsz);refine⟨.ref h1.objs.size,IC H h1.objs.size (.lst (ms.map V.str)),I.laid (t':=tk1) (λb o eb=>?_) (Bv hsz) ?_,rfl,q _ ms m2 (m2.nodup_iff.mpr hnd) m3 hn1⟩
 · have hb:b<h1.objs.size:=Am (hk b o eb);rw[sortedHeap_old (Ar hb) (by rw[size_push'];exact De hb)];exact Ad _ (hk b o eb)
 · have hml:ms.length=fs.length:=m2.length_eq;exact⟨by rw[Ab,sizeLine_eq];omega,((arrOf st').map (·.2)).toList,e,Qd m1,by rw[Array.toArray_toList];exact he⟩
noncomputable def KG(bs:List (Str×V)):List (IV×V):=bs.map λx=>((Sum.inr x.1:IV),x.2)
noncomputable def JG(bs:List (Str×V))(f:Str):Option V:=(bs.find? λx=>decide (x.1=f)).map (·.2)
theorem MS(f:Str):∀bs:List (Str×V),Jb (KG bs) (.inr f:IV)=JG bs f
 | []=>rfl
 | x::bs=>by
  have ih:=MS f bs;unfold KG Jb JG at*;by_cases h:x.1=f
  · simp[Cz,h]
  · simp[Cz,h] at ih ⊢;exact ih
theorem YX(bs:List (Str×V)):(KG bs).map (·.1)=(bs.map (·.1)).map Sum.inr:=by unfold KG;rw[Bx,Bx];rfl
noncomputable def Ko(bs:List (Str×V))(f:Str)(v:V):List (Str×V):=if(bs.any λx=>decide (x.1=f))=true then bs.map (λx=>if x.1=f then(x.1,v) else x) else bs++[(f,v)]
theorem QU(bs:List (Str×V))(f:Str)(v:V):Ja (KG bs) (.inr f:IV) v=KG (Ko bs f v):=by
 unfold Ja Ko KG;have e:((bs.map λx=>((Sum.inr x.1:IV),x.2)).any λkv=>decide (kv.1=(Sum.inr f:IV)))=bs.any λx=>decide (x.1=f):=by rw[FR];congr 1;funext x;simp
 rw[e]
 split
 · rw[Bx,Bx];refine DF λx _=>?_;simp only[Function.comp];by_cases h:x.1=f
   · rw[if_pos (by rw[h]),if_pos h]
   · rw[if_neg (λz=>h (by injection z)),if_neg h]
 · rw[Aq];rfl
theorem V1(bs:List (Str×V))(f:Str)(v:V):(Ko bs f v).map (·.1)=if f∈bs.map (·.1) then bs.map (·.1) else bs.map (·.1)++[f]:=by
 unfold Ko;have e:(bs.any λx=>decide (x.1=f))=true↔f∈bs.map (·.1):=by
  rw[List.any_eq_true,AB];constructor
  · rintro⟨x,hx,h⟩;exact⟨x,hx,of_decide_eq_true h⟩
  · rintro⟨x,hx,h⟩;exact⟨x,hx,decide_eq_true h⟩
 by_cases h:f∈bs.map (·.1)
 · rw[if_pos (e.mpr h),if_pos h,Bx];refine DF λx _=>?_;simp only[Function.comp]
   split<;>rfl
 · rw[if_neg (λz=>h (e.mp z)),if_neg h,Aq];rfl
theorem zjm{bs:List (Str×V)}(h:(bs.map (·.1)).Nodup)(f:Str)(v:V):((Ko bs f v).map (·.1)).Nodup:=by
 rw[V1]
 split
 · exact h
 · rename_i hn;exact U0 h hn
theorem zl5(bs:List (Str×V))(f:Str)(v:V):(Ko bs f v).length≤bs.length+1:=by
 unfold Ko
 split
 · rw[Ab];omega
 · rw[A6];simp
theorem YQ(bs:List (Str×V))(f:Str)(v:V)(g:Str):JG (Ko bs f v) g=if g=f then some v else JG bs g:=by
 rw[←MS,←QU,QO,MS];by_cases h:g=f
 · subst h;rw[if_pos rfl,if_pos rfl]
 · rw[if_neg h,if_neg (λz=>h (by injection z))]
theorem YO{bs:List (Str×V)}{f:Str}:f∈bs.map (·.1)↔(JG bs f).isSome=true:=by
 unfold JG;rw[Fy,List.find?_isSome,AB];constructor
 · rintro⟨x,hx,h⟩;exact⟨x,hx,decide_eq_true h⟩
 · rintro⟨x,hx,h⟩;exact⟨x,hx,of_decide_eq_true h⟩
noncomputable abbrev JD:=Option Int×Option Int
noncomputable def Kq:Option JD→Option JD→Option JD
 | none,o=>o
 | some s,none=>some s
 | some s,some t=>some (Kr s.1 t.1,Ks s.2 t.2)
structure IsMet(w1 w2 m:List WP):Prop where
 len:m.length≤w1.length+w2.length
 asc:(m.map (·.1)).Pairwise Jq
 sp:∀f,IR m f=Kq (IR w1 f) (IR w2 f)
noncomputable def NR(w1:List WP)(p:WP):Bool:=match IR w1 p.1 with
 | none=>false
 | some s=>J4 (Kr s.1 p.2.1) (Ks s.2 p.2.2)
noncomputable def KY(w1 w2:List WP):Bool:=w2.any (NR w1)
theorem Ol{w:List WP}(h:(w.map (·.1)).Pairwise Jq)(p:List PP):IX w p=true↔∀f s,IR w f=some s→∃n,JX p f=some n∧Jr s.1 s.2 n=true:=by
 unfold IX;rw[List.all_eq_true];constructor
 · intro q f s hs;obtain⟨x,hx,e1,e2⟩:=M3 hs;have:=q x hx;unfold Lw at this;rw[e1] at this;cases e:JX p f with
   | none=>rw[e] at this;cases this
   | some n=>rw[e,e2] at this;exact⟨n,rfl,this⟩
 · intro q x hx;obtain⟨n,h1,h2⟩:=q x.1 x.2 (Op h hx);rw[RH h1];exact h2
theorem VB{w1 w2 m:List WP}(h1:(w1.map (·.1)).Pairwise Jq)(h2:(w2.map (·.1)).Pairwise Jq)(h:IsMet w1 w2 m)(p:List PP):IX m p=(IX w1 p && IX w2 p):=by
 rw[Bm,AF,Ol h.asc,Ol h1,Ol h2];constructor
 · intro q;refine⟨λf s hs=>?_,λf s hs=>?_⟩
   · cases e:IR w2 f with
     | none=>exact q f s (by rw[h.sp,hs,e];rfl)
     | some t=> obtain⟨n,n1,n2⟩:=q f (Kr s.1 t.1,Ks s.2 t.2) (by rw[h.sp,hs,e];rfl);have:=NT s.1 s.2 t.1 t.2 n;rw[this,AF] at n2;exact⟨n,n1,n2.1⟩
   · cases e:IR w1 f with
     | none=>exact q f s (by rw[h.sp,hs,e];rfl)
     | some t=> obtain⟨n,n1,n2⟩:=q f (Kr t.1 s.1,Ks t.2 s.2) (by rw[h.sp,hs,e];rfl);have:=NT t.1 t.2 s.1 s.2 n;rw[this,AF] at n2;exact⟨n,n1,n2.2⟩
 · rintro⟨q1,q2⟩ f s hs;rw[h.sp] at hs;cases e1:IR w1 f with
   | none=> rw[e1] at hs;exact q2 f s hs
   | some t=>
    cases e2:IR w2 f with
    | none=>rw[e1,e2] at hs;cases hs;exact q1 f _ e1
    | some u=> rw[e1,e2] at hs;cases hs;obtain⟨n,n1,n2⟩:=q1 f t e1;obtain⟨n',n1',n2'⟩:=q2 f u e2;rw[n1] at n1';cases n1';refine⟨n,n1,?_⟩;rw[NT,n2,n2'];rfl
theorem V9{w:List WP}{x:WP}(h:(w.map (·.1)).Pairwise Jq)(hx:x∈w):IR w x.1=some x.2:=Op h hx
theorem UR:∀{m m':List WP},(m.map (·.1)).Pairwise Jq→(m'.map (·.1)).Pairwise Jq→(∀f,IR m f=IR m' f)→m=m'
 | [],[],_,_,_=>rfl
 | [],y::r,_,_,h=>by have:=h y.1;simp[IR] at this
 | x::r,[],_,_,h=>by have:=h x.1;simp[IR] at this
 | x::r,y::r',h1,h2,h=>by
  have hx:=V9 h1 (x:=x) (by simp);have hy:=V9 h2 (x:=y) (by simp);have g1:=h1;have g2:=h2;rw[Ax,BV] at g1 g2;have e:x.1=y.1:=by
   rw[h x.1] at hx;rw[←h y.1] at hy;obtain⟨u,hu,u1,_⟩:=M3 hx;obtain⟨v,hv,v1,_⟩:=M3 hy;rcases Aw.mp hu with rfl | hu
   · exact u1.symm
   · rcases Aw.mp hv with rfl | hv
     · exact v1
     · have k1:=g2.1 _ (Az (f:=(·.1)) hu);have k2:=g1.1 _ (Az (f:=(·.1)) hv);rw[u1] at k1;rw[v1] at k2;exact absurd (P0 k1 k2) (D_ _)
  have e2:x=y:=by rw[h x.1,e,hy] at hx;exact Prod.ext e (A4 hx).symm
  subst e2;have tails:∀f,IR r f=IR r' f:=λf=>by
   by_cases hf:x.1=f
   · have n1:IR r f=none:=by
      cases e:IR r f with
      | none=>rfl
      | some s=>obtain⟨u,hu,u1,_⟩:=M3 e;have:=g1.1 _ (Az (f:=(·.1)) hu);rw[u1,hf] at this;exact absurd this (D_ _)
     have n2:IR r' f=none:=by
      cases e:IR r' f with
      | none=>rfl
      | some s=>obtain⟨u,hu,u1,_⟩:=M3 e;have:=g2.1 _ (Az (f:=(·.1)) hu);rw[u1,hf] at this;exact absurd this (D_ _)
     rw[n1,n2]
   · have:=h f;unfold IR at this ⊢;rw[Ep (by simpa using hf),Ep (by simpa using hf)] at this;exact this
  rw[UR g1.2 g2.2 tails]
theorem VL{lo hi:Option Int}:Ke lo hi=!J4 lo hi:=by cases lo<;>cases hi<;>simp only[Ke,J4,G5];rw[Bm];simp
noncomputable def Lm(p:WP):PD:= .tup [.str p.1,dE p.2.1,dE p.2.2]
noncomputable def dW(w:List WP):PD:= .tup (w.map Lm)
theorem TN{K:Ae}:∀ps:List (Addr×WP),(∀p∈ps,H p.1=some (.tup [.str p.2.1,eV p.2.2.1,eV p.2.2.2]))→Reps K H ((ps.map (·.2)).map Lm) (ps.map λp=>V.ref p.1)
 | [],_=>by show Reps K H [] [];rw[Reps]
 | p::ps,h=>by show Reps K H (Lm p.2::_) (V.ref p.1::_);rw[Reps];refine⟨_,_,rfl,?_,TN ps λq hq=>h q (As _ hq)⟩;unfold Lm;rw[Rep];refine⟨p.1,_,rfl,SqT.of (h p Ao),?_⟩;rw[Reps];refine⟨_,_,rfl,by rw[Rep],?_⟩;rw[Reps];refine⟨_,_,rfl,TM _,?_⟩;rw[Reps];exact⟨_,_,rfl,TM _,by rw[Reps]⟩
theorem Lp{K:Ae}{w:List WP}(h:WishAt H a w):Rep K H (dW w) (.ref a):=by obtain⟨ps,rfl,h1,h2⟩:=h;unfold dW;rw[Rep];exact⟨a,_,rfl,SqT.of h1,TN ps h2⟩
theorem Zp(p:WP):Jv (Lm p)=1:=by unfold Lm;simp[Jv,JF,Zq]
theorem UW:∀w:List WP,JF (w.map Lm)≤1
 | []=>by show JF []≤1;rw[JF];omega
 | p::w=>by rw[Ax,JF,Zp];have:=UW w;omega
theorem Ny(w:List WP):Jv (dW w)≤2:=by unfold dW;rw[Jv];have:=UW w;omega
theorem Ug(a b:Option Int):IK (dE a) (dE b)=decide (a=b):=by cases a<;>cases b<;>simp only[dE,IK]<;>rw[Bm]<;>simp
theorem Yw(p q:WP):IK (Lm p) (Lm q)=decide (p=q):=by obtain⟨f,a,b⟩:=p;obtain⟨g,c,d⟩:=q;unfold Lm;rw[IK,Jy,Jy,Jy,Jy,Ug,Ug,IK,Bm];simp
theorem Uh:∀w w':List WP,Jy (w.map Lm) (w'.map Lm)=decide (w=w')
 | [],[]=>by rw[BH,Jy];rfl
 | [],y::r=>by rw[BH,Ax,Jy];rfl;all_goals simp
 | x::r,[]=>by rw[BH,Ax,Jy];rfl;all_goals simp
 | x::r,y::r'=>by rw[Ax,Ax,Jy,Yw,Uh r r',Bm];simp
theorem Nx(w w':List WP):IK (dW w) (dW w')=decide (w=w'):=by unfold dW;rw[IK,Uh]
structure STo{α:Type}(l:α→α→Bool):Prop where
 ir:∀a,l a a=false
 tr:∀a b c,l a b=true→l b c=true→l a c=true
 tot:∀a b,a≠b→l a b=true∨l b a=true
theorem STo.as{α:Type}{l:α→α→Bool}(h:STo l){a b:α}(q:l a b=true):l b a=false:=by
 cases e:l b a with
 | false=>rfl
 | true=>have:=h.tr a b a q e;rw[h.ir] at this;cases this
theorem STo.ntr{α:Type}[DecidableEq α]{l:α→α→Bool}(h:STo l){a b c:α}(h1:l b a=false)(h2:l c b=false):l c a=false:=by
 cases e:l c a with
 | false=>rfl
 | true=>
  by_cases hab:a=b
  · subst hab;rw[e] at h2;cases h2
  · rcases h.tot a b hab with z | z
    · have:=h.tr c a b e z;rw[h2] at this;cases this
    · rw[h1] at z;cases z
theorem STo.ord{α:Type}[DecidableEq α]{l:α→α→Bool}(h:STo l)(k:Nat→α):KS.Ord λi j=>l (k i) (k j):=
 ⟨λa b q=>h.as q,λa b c h1 h2=>h.ntr h1 h2⟩
noncomputable def M8(a b:Int):Bool:=decide (a<b)
theorem sto_int:STo M8:=⟨λa=>by simp[M8],λa b c h1 h2=>by simp[M8] at*;omega,λa b h=>by simp[M8];omega⟩
noncomputable def Qg(a b:Str):Bool:=decide (a.cps.toList<b.cps.toList)
theorem sto_str:STo Qg:=⟨λa=>decide_eq_false (D_ _),λa b c h1 h2=>decide_eq_true (List.lt_trans (of_decide_eq_true h1) (of_decide_eq_true h2)),λa b h=>by
 by_cases q:Jq a b
 · exact .inl (decide_eq_true q)
 · exact .inr (decide_eq_true (QE q h))⟩
noncomputable def Kc{α β:Type}[DecidableEq α](l:α→α→Bool)(m:β→β→Bool)(x y:α×β):Bool:=if x.1=y.1 then m x.2 y.2 else l x.1 y.1
theorem STo.pair{α β:Type}[DecidableEq α]{l:α→α→Bool}{m:β→β→Bool}(h:STo l)(k:STo m):STo (Kc l m) where
 ir:=λa=>by simp[Kc,k.ir]
 tr:=λ⟨a,a'⟩ ⟨b,b'⟩ ⟨c,c'⟩ h1 h2=>by
  simp only[Kc] at*;by_cases e1:a=b
  · subst e1;rw[if_pos rfl] at h1;by_cases e2:a=c
    · subst e2;rw[if_pos rfl] at h2 ⊢;exact k.tr _ _ _ h1 h2
    · rw[if_neg e2] at h2 ⊢;exact h2
  · rw[if_neg e1] at h1;by_cases e2:b=c
    · subst e2;rw[if_neg e1];exact h1
    · rw[if_neg e2] at h2;have:=h.tr _ _ _ h1 h2;by_cases e3:a=c
      · subst e3;rw[h.ir] at this;cases this
      · rw[if_neg e3];exact this
 tot:=λ⟨a,a'⟩ ⟨b,b'⟩ hn=>by
  simp only[Kc];by_cases e:a=b
  · subst e;rw[if_pos rfl,if_pos rfl];exact k.tot _ _ λz=>hn (by rw[z])
  · rw[if_neg e,if_neg (BI e)];exact h.tot _ _ e
noncomputable def J6{α:Type}[DecidableEq α](l:α→α→Bool):List α→List α→Bool
 | [],[]=>false
 | [],_::_=>true
 | _::_,[]=>false
 | x::xs,y::ys=>if x=y then J6 l xs ys else l x y
theorem STo.list{α:Type}[DecidableEq α]{l:α→α→Bool}(h:STo l):STo (J6 l) where
 ir:=λa=>by
  induction a with
  | nil=>rfl
  | cons x xs ih=>simp[J6,ih]
 tr:=λa=>by
  induction a with
  | nil=>
   intro b c h1 h2;cases b with
   | nil=>simp[J6] at h1
   | cons y ys=>
    cases c with
    | nil=>simp[J6] at h2
    | cons z zs=>rfl
  | cons x xs ih=>
   intro b c h1 h2;cases b with
   | nil=>simp[J6] at h1
   | cons y ys=>
    cases c with
    | nil=>simp[J6] at h2
    | cons z zs=>
     simp only[J6] at*;by_cases e1:x=y
     · subst e1;rw[if_pos rfl] at h1;by_cases e2:x=z
       · subst e2;rw[if_pos rfl] at h2 ⊢;exact ih _ _ h1 h2
       · rw[if_neg e2] at h2 ⊢;exact h2
     · rw[if_neg e1] at h1;by_cases e2:y=z
       · subst e2;rw[if_neg e1];exact h1
       · rw[if_neg e2] at h2;have:=h.tr _ _ _ h1 h2;by_cases e3:x=z
         · subst e3;rw[h.ir] at this;cases this
         · rw[if_neg e3];exact this
 tot:=λa=>by
  induction a with
  | nil=>
   intro b hn;cases b with
   | nil=>exact absurd rfl hn
   | cons y ys=>exact .inl rfl
  | cons x xs ih=>
   intro b hn;cases b with
   | nil=>exact .inr rfl
   | cons y ys=>
    simp only[J6];by_cases e:x=y
    · subst e;rw[if_pos rfl,if_pos rfl];exact ih _ λz=>hn (by rw[z])
    · rw[if_neg e,if_neg (BI e)];exact h.tot _ _ e
noncomputable def La:Option Int→Int×Int
 | none=>(0,0)
 | some l=>(1,l)
noncomputable def Lb:Option Int→Int×Int
 | none=>(1,0)
 | some h=>(0,h)
noncomputable def d2(p:Int×Int):PD:= .tup [.int p.1,.int p.2]
noncomputable def Kx(p:WP):PD:= .tup [.str p.1,d2 (La p.2.1),d2 (Lb p.2.2)]
noncomputable def Ll(w:List WP):PD:= .lst (w.map Kx)
noncomputable abbrev SD:=Str×(Int×Int)×(Int×Int)
noncomputable def ky(p:WP):SD:=(p.1,La p.2.1,Lb p.2.2)
noncomputable def KU:Int×Int→Int×Int→Bool:=Kc M8 M8
noncomputable def K2:SD→SD→Bool:=Kc Qg (Kc KU KU)
theorem sto_ky:STo (J6 K2):=(sto_str.pair ((sto_int.pair sto_int).pair (sto_int.pair sto_int))).list
theorem Pm(p q:Int×Int):IK (d2 p) (d2 q)=decide (p=q):=by obtain⟨a,b⟩:=p;obtain⟨c,d⟩:=q;unfold d2;rw[IK,Jy,Jy,Jy,IK,IK,Bm];simp
theorem Ui(p q:Int×Int):I_ (d2 p) (d2 q)=KU p q:=by
 obtain⟨a,b⟩:=p;obtain⟨c,d⟩:=q;unfold d2 KU Kc M8;rw[I_,J9,IK,J9,IK,J9,I_,I_];by_cases h:a=c
 · subst h;simp;intro z;omega
 · simp[h]
theorem Uz(p q:Int×Int):IN (d2 p) (d2 q)=true:=by
 obtain⟨a,b⟩:=p;obtain⟨c,d⟩:=q;unfold d2;rw[IN,JJ,JJ,JJ,IN,IN]
 all_goals simp
theorem zl3(p q:WP):IK (Kx p) (Kx q)=decide (ky p=ky q):=by unfold Kx ky;rw[IK,Jy,Jy,Jy,Jy,Pm,Pm,IK,Bm];simp
theorem zl1(p q:WP)(hn:ky p≠ky q):I_ (Kx p) (Kx q)=K2 (ky p) (ky q):=by
 have hn':=hn;unfold Kx K2 Kc;unfold ky at*;rw[I_,J9,J9,J9,J9,Pm,Pm,Ui,Ui,IK,I_];by_cases h:p.1=q.1
 · simp only[h,beq_self_eq_true,if_true];by_cases h2:La p.2.1=La q.2.1
   · simp only[h2,decide_true,if_true];by_cases h3:Lb p.2.2=Lb q.2.2
     · exact absurd (by rw[h,h2,h3]) hn'
     · simp[h3]
   · simp[h2]
 · simp[h,Qg]
theorem Zb(p q:WP):IN (Kx p) (Kx q)=true:=by
 unfold Kx;rw[IN,JJ,JJ,JJ,JJ,Uz,Uz,IN]
 all_goals simp
theorem Va:∀w w':List WP,JJ (w.map Kx) (w'.map Kx)=true
 | [],w'=>by rw[BH,JJ];all_goals simp
 | x::r,[]=>by rw[BH,JJ];all_goals simp
 | x::r,y::r'=>by rw[Ax,Ax,JJ,Zb,Va r r'];simp
theorem Yn(w w':List WP):IN (Ll w) (Ll w')=true:=by unfold Ll;rw[IN,Va]
theorem Vk:∀w w':List WP,J9 (w.map Kx) (w'.map Kx)=J6 K2 (w.map ky) (w'.map ky)
 | [],[]=>by rw[BH,J9];rfl
 | [],y::r=>by rw[BH,Ax,J9];rfl
 | x::r,[]=>by rw[BH,Ax,J9];rfl
 | x::r,y::r'=>by
  rw[Ax,Ax,J9,zl3,Vk r r',Ax,Ax,J6];by_cases h:ky x=ky y
  · rw[if_pos (decide_eq_true h),if_pos h]
  · rw[if_neg (by simpa using h),if_neg h,zl1 x y h]
theorem Yy(w w':List WP):I_ (Ll w) (Ll w')=J6 K2 (w.map ky) (w'.map ky):=by unfold Ll;rw[I_,Vk]
theorem Z2(p:WP):Jv (Kx p)=2:=by unfold Kx d2;simp[Jv,JF]
theorem VD:∀w:List WP,JF (w.map Kx)≤2
 | []=>by show JF []≤2;rw[JF];omega
 | p::w=>by rw[Ax,JF,Z2];have:=VD w;omega
theorem Zu(w:List WP):Jv (Ll w)≤3:=by unfold Ll;rw[Jv];have:=VD w;omega
noncomputable def T0:Sp:=λvs H Q _=>∃o:Option Int,vs=[eV o]∧∀t H',Same H H'→H' t=some (.tup [.int (La o).1,.int (La o).2])→Q (.ref t) H'
noncomputable def U8:Sp:=λvs H Q _=>∃o:Option Int,vs=[eV o]∧∀t H',Same H H'→H' t=some (.tup [.int (Lb o).1,.int (Lb o).2])→Q (.ref t) H'
noncomputable def TB(K:Ae):Sp:=λvs H Q _=>∃(a:Addr)(w:List WP),vs=[.ref a]∧WishAt H a w∧WOk w∧∀v H',Same H H'→Rep K H' (Ll w) v→Q v H'
noncomputable def DictW(H:Hp)(d:Addr)(w:List WP):Prop:=∃bs:List (Str×V),H d=some (.dK (KG bs))∧bs.map (·.1)=w.map (·.1)∧∀f:Str,match IR w f with
 | none=>JG bs f=none
 | some s=>∃t,JG bs f=some (.ref t)∧H t=some (.tup [eV s.1,eV s.2])
theorem DictW.sp{d:Addr}{w:List WP}(h:DictW H d w):DictSp H d w:=by
 obtain⟨bs,h1,h2,h3⟩:=h;refine⟨KG bs,h1,?_,λf=>?_⟩
 · have:=congrArg Be h2;simp at this;unfold KG;rw[Ab];omega
 · have:=h3 f;rw[MS];exact this
noncomputable def Ws:Sp:=λvs H Q _=>∃(a:Addr)(w:List WP),vs=[.ref a]∧WishAt H a w∧WOk w∧∀d H',Same H H'→H d=none→DictW H' d w→Q (.ref d) H'
noncomputable def Tu:Sp:=λvs H Q _=>∃(a b:Addr)(w1 w2:List WP),vs=[.ref a,.ref b]∧WishAt H a w1∧WishAt H b w2∧WOk w1∧WOk w2∧w1.length+w2.length≤60∧
 (KY w1 w2=true→∀H',Same H H'→Q .non H')∧(KY w1 w2=false→∀r m H',IsMet w1 w2 m→Same H H'→WishAt H' r m→Q (.ref r) H')
noncomputable def RkAt(H:Hp)(q:Addr×Addr×Addr×WP):Prop:=H q.1=some (.tup [.str q.2.2.2.1,.ref q.2.1,.ref q.2.2.1])∧H q.2.1=some (.tup [.int (La q.2.2.2.2.1).1,.int (La q.2.2.2.2.1).2])∧H q.2.2.1=some (.tup [.int (Lb q.2.2.2.2.2).1,.int (Lb q.2.2.2.2.2).2])
theorem RkAt.keep{H':Hp}{q:Addr×Addr×Addr×WP}(h:RkAt H q)(s:Tups H H'):RkAt H' q:=⟨s _ _ h.1,s _ _ h.2.1,s _ _ h.2.2⟩
theorem TL{K:Ae}{t:Addr}{p:Int×Int}(h:H t=some (.tup [.int p.1,.int p.2])):Rep K H (d2 p) (.ref t):=by unfold d2;rw[Rep];refine⟨t,_,rfl,SqT.of h,?_⟩;rw[Reps];refine⟨_,_,rfl,by rw[Rep],?_⟩;rw[Reps];exact⟨_,_,rfl,by rw[Rep],by rw[Reps]⟩
theorem Um{K:Ae}:∀qs:List (Addr×Addr×Addr×WP),(∀q∈qs,RkAt H q)→Reps K H ((qs.map (·.2.2.2)).map Kx) (qs.map λq=>V.ref q.1)
 | [],_=>by show Reps K H [] [];rw[Reps]
 | q::qs,h=>by show Reps K H (Kx q.2.2.2::_) (V.ref q.1::_);rw[Reps];refine⟨_,_,rfl,?_,Um qs λr hr=>h r (As _ hr)⟩;obtain⟨h1,h2,h3⟩:=h q Ao;unfold Kx;rw[Rep];refine⟨q.1,_,rfl,SqT.of h1,?_⟩;rw[Reps];refine⟨_,_,rfl,by rw[Rep],?_⟩;rw[Reps];refine⟨_,_,rfl,TL h2,?_⟩;rw[Reps];exact⟨_,_,rfl,TL h3,by rw[Reps]⟩
theorem XU{K:Ae}{r:Addr}{qs:List (Addr×Addr×Addr×WP)}(e:H r=some (.lst (qs.map λq=>V.ref q.1)))(h:∀q∈qs,RkAt H q):Rep K H (Ll (qs.map (·.2.2.2))) (.ref r):=by unfold Ll;rw[Rep];exact⟨r,_,rfl,SqL.of e,Um qs h⟩
theorem Vr{l:List Str}(h:l.Pairwise Jq):l.Nodup:=h.imp λh e=>Mv h e
theorem V7(g:Str→JD)(f:Str):∀ms:List Str,IR (ms.map λf=>(f,g f)) f=if f∈ms then some (g f) else none
 | []=>rfl
 | x::ms=>by
  have ih:=V7 g f ms;unfold IR at*;by_cases h:x=f
  · subst h;simp
  · rw[Ax,Ep (by simpa using h),ih];by_cases h2:f∈ms
    · rw[if_pos h2,if_pos (As _ h2)]
    · rw[if_neg h2,if_neg (λz=>(Aw.mp z).elim (λe=>h e.symm) h2)]
noncomputable def Nr(w1 w2:List WP)(f:Str):JD:=(Kq (IR w1 f) (IR w2 f)).getD (none,none)
noncomputable def LC(w1 w2:List WP)(ms:List Str):List WP:=ms.map λf=>(f,Nr w1 w2 f)
theorem UY{w1 w2:List WP}{ms:List Str}(asc:ms.Pairwise Jq)(hk:∀f,f∈ms↔(Kq (IR w1 f) (IR w2 f)).isSome=true)(hl:ms.length≤w1.length+w2.length):IsMet w1 w2 (LC w1 w2 ms):=by
 refine⟨by unfold LC;rw[Ab];exact hl,?_,λf=>?_⟩
 · unfold LC;rw[Bx];have:((λx:WP=>x.1)∘λf=>(f,Nr w1 w2 f))=id:=rfl;rw[this,List.map_id];exact asc
 · unfold LC;rw[V7];cases e:Kq (IR w1 f) (IR w2 f) with
   | none=>rw[if_neg (λz=>by have:=(hk f).mp z;rw[e] at this;cases this)]
   | some s=> rw[if_pos ((hk f).mpr (by rw[e];rfl))];unfold Nr;rw[e];rfl
theorem YZ{K:Ae}{z p:Addr}{Q:VK}{js:J5}{cap:St}{te:TE}(base:List WP)(hb:base.length≤100)(e:SqL K H z ((base.map (·.1)).map V.str))(hp:H p=none)(hσ:Kf js σ=none::cap)
 (he:∀x∈base,∀H'(R:VK),Same H H'→(∀t,H' t=none→R (.ref t) (IC H' t (.tup [.str x.1,eV x.2.1,eV x.2.2])))→te (some (.str x.1)::cap) H' R)
 (hq:∀H'(qs:List (Addr×WP)),Same H H'→qs.map (·.2)=base→H' p=some (.lst (qs.map λq=>V.ref q.1))→(∀q∈qs,H' q.1=some (.tup [.str q.2.1,eV q.2.2.1,eV q.2.2.2]))→Q (.ref p) H'):Lf (Ln K z) p js (KI 0) Ky te σ H Q:=by
 have s0:=IM hp (.lst []);refine Lj (xs:=(base.map (·.1)).map V.str) (λi σ' ys H'=>(∃v,σ'=v::cap)∧Same H H'∧H' p=some (.lst ys)∧∃qs:List (Addr×WP),ys=qs.map (λq=>V.ref q.1)∧qs.map (·.2)=base.take i∧∀q∈qs,H' q.1=some (.tup [.str q.2.1,eV q.2.2.1,eV q.2.2.2])) ⟨⟨_,hσ⟩,s0,IE,[],rfl,rfl,λq hq=>by simp at hq⟩ ?_ ?_ ?_
 · rintro i σ' ys H' hi ⟨_,s,h1,qs,rfl,h3,_⟩;refine⟨s.seq e,h1,?_⟩;have:=congrArg Be h3;rw[Ab,AE] at this;rw[Ab];exact J7 (by omega)
 · rintro i x σ' ys H' N hx ⟨⟨v,rfl⟩,s,h1,qs,rfl,h3,h4⟩ hN;rw[Af,Af] at hx;cases e1:base[i]? with
   | none=>rw[e1] at hx;cases hx
   | some m=>
    rw[e1] at hx;obtain rfl:V.str m.1=x:=A4 hx;refine he m (Ag e1) H' _ s λt ht=>?_;have st:=IM ht (.tup [.str m.1,eV m.2.1,eV m.2.2]);have h5:=st _ _ h1;have tl:=LJ (o:= .lst (qs.map (λq=>V.ref q.1)++[V.ref t])) h5;refine⟨h5,hN _ _ _ ⟨⟨_,rfl⟩,JP (s.trans st) hp,IE,qs++[(t,m)],?_,?_,?_⟩⟩
    · rw[Aq];rfl
    · rw[Aq,h3,Jt e1];rfl
    · intro q hq;rcases A3.mp hq with z | z
      · exact tl _ _ (st _ _ (h4 q z))
      · rw[Aj.mp z];exact tl _ _ IE
 · rintro σ' ys H' ⟨_,s,h1,qs,rfl,h3,h4⟩;refine hq H' qs s ?_ h1 h4;rw[h3,A0 (by simp)]
theorem ZG{w:List WP}{f:Str}(h:f∈w.map (·.1)):∃s,IR w f=some s:=by
 cases e:IR w f with
 | some s=>exact⟨s,rfl⟩
 | none=> obtain⟨x,hx,hf⟩:=AB.mp h;exact absurd hf (V8 e x hx)
open PySem PySem.Spec PyProof.Rows PySem.W
noncomputable def WT:R2:=λx y H Q=>∃a b xs ys,x= .ref a∧y= .ref b∧H a=some (.tup xs)∧H b=some (.tup ys)∧xs.length+ys.length≤Ay∧∀p H',Same H H'→H' p=some (.tup (xs++ys))→Q (.ref p) H'
theorem Pk:J2 X (binaryOp .Add) WT:=by
 intro pins s σ H x y v u Q I rx ry h;obtain⟨a,b,xs,ys,rfl,rfl,ha,hb,hz,q⟩:=h;cases rx;cases ry;obtain⟨its,r1,p1,_⟩:=I.tuple (SqT.of ha);obtain⟨its2,r2,p2,_⟩:=I.tuple (SqT.of hb);by_cases hx:xs=[]
 · subst hx;cases r1;obtain⟨⟨cls,dd,data,sl⟩,ho,hc,n,hd⟩:=id p1;obtain⟨⟨cls2,dd2,data2,sl2⟩,ho2,hc2,n2,hd2⟩:=id p2;simp only at hc hd hc2 hd2;subst hc hd hc2 hd2;exact concat_meets ⟨_,ho,rfl⟩ ⟨_,ho2,rfl⟩ noFill_tuple_add seq_tuple_add El Eb (DS _ _)
    (tuple_addW0 a b _ _ n n2 dd dd2 sl sl2 rfl) ⟨ho,ho2,⟨.ref b,H,I,rfl,q b H (Same.refl _) hb⟩⟩
 · refine HT.cat_tup p1 p2 (λz=>hx (r1.nil_iff.mp z)) (λz=>⟨.ref a,H,I,rfl,q a H (Same.refl _) (by rw[r2.nil_iff.mp z,Du];exact ha)⟩) (λz=>?_) (by rw[←r1.length,←r2.length];exact hz);have hn:=I.hok.fresh (Ah _);refine⟨.ref s.heap.objs.size,_,I.laid (t':=s.toks) (o:= .tup (xs++ys)) (λb ob q=>Ad _ q) (Ah _) ?_,rfl,q _ _ (IM hn _) IE⟩;exact⟨by rw[A6];exact hz,_,r1.append r2,IsTupP.new _ _⟩
noncomputable def Sa:V→Option Int→Option Int→Hp→VK→Prop:=λx lo hi H Q=>∃a xs,x= .ref a∧H a=some (.tup xs)∧∀p H',Same H H'→H' p=some (.tup (J3 xs lo hi))→Q (.ref p) H'
theorem zjP{lo hi:Option Int}(h:HT.sIx xs.length 0 lo=0∧HT.sIx xs.length xs.length hi=xs.length):J3 xs lo hi=xs:=by unfold J3;rw[h.1,h.2,EU,Nat.sub_zero];exact A0 (Ah _)
theorem Pg:NL X Sa:=by intro pins s σ H x v vl vu lo hi sl Q I rx hs pl pu h;obtain⟨a,xs,rfl,ha,q⟩:=h;exact Uq pins s σ H (.ref a) v vl vu lo hi sl Q I rx hs pl pu ⟨a,xs,rfl,SqT.of ha,λhw=>q a H (Same.refl _) (by rw[zjP hw];exact ha),λ_ p hp=>q p _ (IM hp _) IE⟩
theorem VS{k:Int}(e:k=(n:Int)):J3 xs none (some k)=xs.take n:=by
 subst e;unfold J3;rw[HT.sIx_none,HT.sIx_nat,EU,Nat.sub_zero];by_cases h:n≤xs.length
 · rw[Nat.min_eq_left h]
 · rw[Nat.min_eq_right (by omega),A0 (Ah _),A0 (by omega)]
theorem VR{k:Int}(e:k=(n:Int)):J3 xs (some k) none=xs.drop n:=by
 subst e;unfold J3;rw[HT.sIx_none,HT.sIx_nat];by_cases h:n≤xs.length
 · rw[Nat.min_eq_left h];exact A0 (by simp)
 · rw[Nat.min_eq_right (by omega),Nat.sub_self,List.take_zero,Gu (by omega)]
open PySem PySem.Spec PyProof.Rows PySem.W
theorem zkU{xs ys:Array Value}{b:Bool}{j:Nat}{Q:Bool→Shared→Prop}(F:FirstAt A s xs ys b j)(h:Q b s):∀k i,j - i=k→i≤j→KatLex prog w A false (decide (xs.size<ys.size)) Q ((xs.toList.zip ys.toList).drop i) i s:=by
 intro k
 induction k with
 | zero=>
  intro i hk hij;obtain rfl:i=j:=by omega
  rcases F.fin with⟨hs,hc⟩ | ⟨h1,h2,he,hlt⟩
  · rw[Eo (by simp;omega)];exact kat_nil (hc ▸ h)
  · rw[Bu (by simp;omega)];simp only[List.getElem_zip,ED];refine kat_cons (he _ _ _ _ (kat_no ?_));rw[Bool.false_and];exact kat_one _ _ (hlt _ _ _ _ h)
 | succ k ih=> intro i hk hij;have f1:=F.le1;have f2:=F.le2;rw[Bu (by simp;omega)];simp only[List.getElem_zip,ED];exact kat_cons (F.same i (by omega) (by omega) (by omega) _ _ _ _ (kat_yes (ih (i+1) (by omega) (by omega))))
theorem U7{M:Model}:∀ks:List Value,(∀k∈ks,∃a o xs n f,k= .ref a∧h.get? a=some o∧o.cls= .type "tuple"∧o.data= .seq xs n∧xs[0]?=some f∧Looks M h (typeOf f) (.type "tuple"))→∃fs,KatTups h ks fs∧fs.length=ks.length∧∀v∈fs,Looks M h (typeOf v) (.type "tuple")
 | [],_=>⟨[],.nil,rfl,λv hv=>by simp at hv⟩
 | k::ks,hp=>by
  obtain⟨fs,h1,h2,h3⟩:=U7 ks λq hq=>hp q (As _ hq);obtain⟨a,o,xs,n,f,rfl,e,c,d,g,l⟩:=hp k Ao;refine⟨f::fs,.cons e c d g h1,by rw[AA,h2,AA],λv hv=>?_⟩;rcases Aw.mp hv with z | z
  · rw[z];exact l
  · exact h3 v z
noncomputable def Pd(n:Nat):Prop:=∀(prog:Bp)(w:World)(A:BE)(E:Value→Shared→Prop)(s:Shared)(κ:SortKind)(lt:Nat→Nat→Bool)(ks us:List Value),ks.length=n→us.length=n→2≤n→KS.Ord lt→
 (∀i j i' j',i<n→j<n→i'<n→j'<n→us[i]?=us[i']?→us[j]?=us[j']?→lt i j=lt i' j')→
 (∀i j,i<n→j<n→∀C:Bool→Shared→Prop,C (lt i j) s→wpAny (model prog w) A (keyLt' κ (ks.getD i Value.none) (ks.getD j Value.none)) C (λ_ _=>False) s)→
 wpAny (model prog w) A (sortRuns'.run (SortSt.mk' κ (ks.toArray.zip us.toArray) #[] 7 none)) (λr s'=>s'=s∧∃p:Array Nat,arrOf r.2=p.map (kas_item (ks.toArray.zip us.toArray))∧failedOf r.2=none∧KS.Ok n p∧KS.Srt lt p n) E s
theorem Ye(h:n<64):Pd n:=by
 intro prog w A E s κ lt ks us hk hu h2 O _ hc;subst hu;have tree:(kas_sort us.length).kasWp (kas_ask prog w A κ ks) (λp s2=>s2=s∧KS.Ok us.length p∧KS.Srt lt p us.length) s:=
  KS.sat_wp (λi j C hi hj hC=>hc i j hi hj C hC) (λp hp=>⟨rfl,hp⟩) _ (KS.sort_ok O (by omega))
 exact A5 (kat_run (Q:=λst' s2=>∃p:Array Nat,p.size=us.length∧arrOf st'=p.map (kas_item (ks.toArray.zip us.toArray))∧failedOf st'=none∧s2=s∧KS.Ok us.length p∧KS.Srt lt p us.length)
  hk h2 h (λp' st' s2 a1 a2 a3 a4=>⟨p',a1,a2,a3,a4⟩) tree) (λr s2 ⟨p,_,a2,a3,a4,a5,a6⟩=>⟨a4,p,a2,a3,a5,a6⟩) λ_ _ e=>e
noncomputable def Q2(n:Nat)(kd:Nat→PD):Prop:=n<2∨(∀i,∃ds,kd i= .lst ds)∨∀i,i<n→∃d ds,kd i= .tup (.tup d::ds)
section
variable{o:HO}
theorem zk2{kS:Addr}{f:Value}{vs:List V}{us:List Value}{kd:Nat→PD}{e1:Nat}{P:PySem.Fin→Shared→Prop}{E:Value→Shared→Prop}
 (I:Inv X ((a,Bo "list" #[] e1)::(kS,Bo "list" #[] 0)::pins) σ H s) (Fa:IJ X pins H a) (Fk:IJ X pins H kS) (ha0:X.s₀.heap.get? a=none) (hak:kS≠a) (rv:Vals vs us) (h64:us.length≤1000) (S:Pd us.length) (hcons:∀i j:Nat,i<us.length→j<us.length→us[i]?=us[j]?→kd i=kd j)
 (turn:∀i v u,vs[i]?=some v→us[i]?=some u→∀pins' s' H',Inv X pins' σ H' s'→Same H H'→wpAny (model X.prog X.w) X.A (call f [u]) (EP X pins' σ λkv H''=>Same H' H''∧Rep X.K H'' (kd i) kv) (λ_ _=>False) s')
 (hl:Q2 us.length kd) (hd:∀i,X.A.units+2+Jv (kd i)<cLine)
 (hok:∀i j,i<us.length→j<us.length→IN (kd i) (kd j)=true) (O:KS.Ord λi j=>I_ (kd i) (kd j))
 (h:∀(p:Array Nat)s' H',KS.Ok us.length p→KS.Srt (λi j=>I_ (kd i) (kd j)) p us.length→Same H H'→H' a=none→Inv X pins σ (IC H' a (.lst (p.toList.map λi=>vs.getD i .non))) s'→P (.done (.ret .none)) s'):
 wpAny (model X.prog X.w) X.A (ksk_rest a f false us.toArray e1 (.ref kS)) P E s:=by
 have lv:=rv.length;unfold ksk_rest;refine Aa (BA ?_);rw[List.forIn_toArray];refine Aa (ksk_fold (λi s'=>∃H' kvs kA e,Inv X ((a,Bo "list" #[] e1)::(kS,Bo "list" kA e)::pins) σ H' s'∧Same H H'∧Vals kvs kA.toList∧kvs.length=i∧∀j kv,kvs[j]?=some kv→Rep X.K H' (kd j) kv) us 0 s
  ⟨H,[],#[],0,I,Same.refl _,.nil,rfl,λj kv e=>by simp at e⟩ ?step ?done)
 case step=>
  rintro j x s' hx ⟨H1,kvs,kA,e,I1,S1,rk,lk,rp⟩;simp only[Nat.zero_add] at lk ⊢;have hj:j<us.length:=(An.mp hx).1;obtain⟨v,hv⟩:∃v,vs[j]?=some v:=⟨_,Al (by omega)⟩;refine Aa (CH (A5 (turn j v x hv hx _ s' H1 I1 S1) (λu s2 he=>?_) λ_ _ hF=>hF.elim));obtain⟨kv,H2,I2,r2,S2,R2⟩:=he;dsimp only;obtain⟨nk,nk1,nk2,nk3,nk4⟩:=I2.pin (kS,Bo "list" kA e) (Ai _ (.tail _ (.head _)));obtain⟨na,na1,na2,na3,na4⟩:=I2.pin (a,Bo "list" #[] e1) (Ai _ (.head _));have hz:kA.size=j:=by
   have h1:kvs.length=kA.size:=by have:=rk.length;simpa using this
   rw[←h1,lk]
  have s1:=AQ s2.heap kS (AI (·.push u));obtain⟨c2,hc2⟩:∃c2,(s2.heap.update kS (AI (·.push u))).get? kS=some (Bo "list" (kA.push u) c2):=⟨_,get?_update_seq nk (·.push u)⟩;refine Aa (listUpdate_at nk rfl ?_ (by rw[sizeLine_eq];omega) (AD (Nat.le_of_eq (Array.size_push ..)) (by rw[sizeLine_eq];omega)));have I3:Inv X pins σ H2 s2:=I2.pins_of λp hp=>I2.pin p (Ai _ (.tail _ (.tail _ hp)));have I4:Inv X pins σ H2 {s2 with heap:=s2.heap.update kS (AI (·.push u)),toks:=s2.toks}:=I3.turned (it:=kS) (λb o hb q=>(s1.2 b hb).trans q) nk1 nk2 Fk.2.2.2.1 Fk.2.2.2.2.1 Fk.2.2.2.2.2
  refine Ac ⟨rfl,H2,kvs++[kv],kA.push u,c2,I4.pins_of λp hp=>?_,S1.trans S2,?_,by rw[A6];simp[lk],λi kv' e'=>?_⟩
  · rcases Aw.mp hp with rfl | hp
    · exact⟨(s1.2 a hak.symm).trans na,na1,na2,na3,na4⟩
    · rcases Aw.mp hp with rfl | hp
      · exact⟨hc2,nk1,nk2,nk3,λv z=>by cases z⟩
      · exact I4.pin p (Ai _ hp)
  · rw[F8];exact rk.append (.cons r2 .nil)
  · rcases CV i kvs.length with h1 | h1
    · rw[FC h1] at e';exact Rep.same S2 _ _ (rp i kv' e')
    · rw[Fj h1] at e';have:i=kvs.length:=by
       rcases CV (i - kvs.length) 1 with h2 | h2
       · omega
       · rw[CB (by simpa using h2)] at e';cases e'
      subst this;simp at e';subst e';rw[lk];exact R2
 case done=>
  rintro s' ⟨H1,kvs,kA,e,I1,S1,rk,lk,rp⟩;rw[Nat.zero_add] at lk;obtain⟨nk,nk1,nk2,nk3,nk4⟩:=I1.pin (kS,Bo "list" kA e) (Ai _ (.tail _ (.head _)));obtain⟨na,na1,na2,na3,na4⟩:=I1.pin (a,Bo "list" #[] e1) (Ai _ (.head _));refine Aa (listItems_at nk rfl ?_);obtain⟨ks,rfl⟩:∃ks:List Value,kA=ks.toArray:=⟨kA.toList,by simp⟩;simp only[EO] at rk;have lks:ks.length=us.length:=by have:=rk.length;omega
  have key:(∀i,i<us.length→∀kv,Rep X.K H1 (kd i) kv→∃l,kv=V.ref l)→∀i,i<us.length→∃(l:Addr)(kv:V),ks.getD i Value.none= .ref l∧kvs[i]?=some kv∧RelV kv (.ref l)∧Rep X.K H1 (kd i) kv:=λhrf i hi=>by obtain⟨kv,hkv⟩:∃kv,kvs[i]?=some kv:=⟨_,Al (by omega)⟩;obtain⟨u,h1,h2⟩:=Vals.get rk hkv;have h3:=rp i kv hkv;obtain⟨l,rfl⟩:=hrf i hi kv h3;cases h2;exact⟨l,_,by rw[AS,h1];rfl,hkv,rfl,h3⟩
  have tail:∀(st':SortSt)(p:Array Nat),arrOf st'=p.map (kas_item (ks.toArray.zip us.toArray))→failedOf st'=none→KS.Ok us.length p→KS.Srt (λi j=>I_ (kd i) (kd j)) p us.length→wpAny (model X.prog X.w) X.A (ksk_tail a false e1 (.ref kS) st') P E s':=by
   intro st' p har hf ok srt;have hout:=kat_snds lks har;have hp:=ok.size;have s1:=AQ s'.heap kS (AI λ_=>(#[]:Array Value));have na':(s'.heap.update kS (AI λ_=>(#[]:Array Value))).get? a=some (Bo "list" #[] e1):=(s1.2 a hak.symm).trans na;have s2:=AQ (s'.heap.update kS (AI λ_=>(#[]:Array Value))) a (AI λ_=>(arrOf st').map (·.2));obtain⟨c2,hc2⟩:∃c2,((s'.heap.update kS (AI λ_=>(#[]:Array Value))).update a (AI λ_=>(arrOf st').map (·.2))).get? a=some (Bo "list" ((arrOf st').map (·.2)) c2):=
    ⟨_,get?_update_seq na' λ_=>(arrOf st').map (·.2)⟩
   unfold ksk_tail;dsimp only;refine Aa (listUpdate_at nk rfl ?_ (by rw[Av,sizeLine_eq];omega) (AK _));refine Aa (Ch ?_);refine Aa (seqEpoch_at na' rfl ?_);refine Aa (listUpdate_at na' rfl ?_ (AK _) (by simp only[AR,if_false];rw[hout];show(p.toList.map λi=>us.getD i Value.none).length≤_;rw[Ab,A9,hp,sizeLine_eq];omega));rw[hf];simp only[bne_self_eq_false,AR,if_false];have I3:Inv X pins σ H1 s':=I1.pins_of λp hp=>I1.pin p (Ai _ (.tail _ (.tail _ hp)));have I4:Inv X pins σ H1 {s' with heap:=s'.heap.update kS (AI λ_=>(#[]:Array Value)),toks:=s'.toks}:=I3.turned (it:=kS) (λb o hb q=>(s1.2 b hb).trans q) nk1 nk2 Fk.2.2.2.1 Fk.2.2.2.2.1 Fk.2.2.2.2.2
   have I5:Inv X pins σ H1 {s' with heap:=(s'.heap.update kS (AI λ_=>(#[]:Array Value))).update a (AI λ_=>(arrOf st').map (·.2)),toks:=s'.toks}:=Inv.turned (s:={s' with heap:=s'.heap.update kS (AI λ_=>(#[]:Array Value)),toks:=s'.toks}) (t':=s'.toks) (it:=a) I4 (λb o hb q=>(s2.2 b hb).trans q) na1 na2 Fa.2.2.2.1 Fa.2.2.2.2.1 Fa.2.2.2.2.2
   refine Ac (h p _ H1 ok srt S1 na1 (I5.track7 ⟨na1,Fa.2⟩ ha0 ?_));refine⟨by rw[Ab,A9,hp,sizeLine_eq];omega,p.toList.map λi=>us.getD i Value.none,c2,?_,?_⟩
   · have:∀l:List Nat,Vals (l.map λi=>vs.getD i .non) (l.map λi=>us.getD i Value.none):=λl=>by
      induction l with
      | nil=>exact .nil
      | cons i l ih=>
       refine .cons ?_ ih;show RelV (vs.getD i .non) (us.getD i Value.none);rcases CV i vs.length with h1 | h1
       · obtain⟨u,g1,g2⟩:=Vals.get rv (Al h1);rw[AS,AS,g1,Al h1];exact g2
       · rw[AS,AS,CB h1,CB (by omega)];rfl
     exact this _
   · rw[hout] at hc2 ⊢;exact hc2
  unfold ksk_end;dsimp only;simp only[AR,if_false];have hsz:us.toArray.size=us.length:=by simp
  by_cases h2:us.toArray.size<2
  · rw[if_pos h2,if_pos h2];refine Aa (Ac ?_);rw[StateT.run_pure];refine Aa (Ac ?_);have e1:=kas_range (ks.toArray.zip us.toArray);have e2:(ks.toArray.zip us.toArray).size=us.length:=by simp[lks]
    rw[e2] at e1;exact tail _ (BU us.length).toArray e1.symm rfl ⟨by simp⟩ (λi j hij hj=>absurd hj (by rw[hsz] at h2;omega))
  · rw[if_neg h2,if_neg h2];rw[hsz] at h2;obtain⟨κ,hkind,hgo⟩:∃κ,(∀Q:SortKind→Shared→Prop,Q κ s'→wpAny (model X.prog X.w) X.A (keyKind' ks.toArray) Q E s')∧∀i j,i<us.length→j<us.length→∀C:Bool→Shared→Prop,C (I_ (kd i) (kd j)) s'→wpAny (model X.prog X.w) X.A (keyLt' κ (ks.getD i Value.none) (ks.getD j Value.none)) C (λ_ _=>False) s':=by
     rcases hl with z | hl | hl
     · omega
     · have key:=key λi _ kv r=>by
        obtain⟨ds,e⟩:=hl i;rw[e,Rep] at r;obtain⟨l,xs,z,_⟩:=r;exact⟨l,z⟩
       refine⟨oneType',λQ q=>kas_kind (T:= .type "list") (by omega) (λv hv=>?_) (by rfl) (by rfl) q,λi j hi hj C hC=>?_⟩
       · obtain⟨i,hi,rfl⟩:=DG hv;obtain⟨l,kv,g1,g2,g3,g4⟩:=key i (by omega);rw[AS,Al hi] at g1;obtain⟨ds,hds⟩:=hl i;rw[hds,Rep] at g4;obtain⟨l',xs,rfl,g5,_⟩:=g4;cases g3;obtain⟨its,_,pl,_⟩:=I1.list g5;rw[show ks[i]= .ref _ from g1];exact zjF pl.isList
       · obtain⟨l1,kv1,a1,a2,a3,a4⟩:=key i hi;obtain⟨l2,kv2,b1,b2,b3,b4⟩:=key j hj;rw[a1,b1];have k1:=hok i j hi hj;have hdi:=hd i;obtain⟨ds,hds⟩:=hl i;obtain⟨es,hes⟩:=hl j;rw[hds,hes] at k1 hC;rw[hds] at a4 hdi;rw[hes] at b4;rw[Rep] at a4 b4;obtain⟨m1,xs,rfl,q1,q2⟩:=a4;obtain⟨m2,ys,rfl,q3,q4⟩:=b4;cases a3;cases b3;obtain⟨its,r1,p1,_⟩:=I1.list q1;obtain⟨its',r2,p2,_⟩:=I1.list q3;rw[Jv] at hdi;rw[IN] at k1;rw[I_] at hC;obtain⟨n,FA⟩:=Oi I1 X.A.in1 ds es xs ys its its' q2 q4 r1 r2 (by rw[Bq];omega) k1;exact zjr p1.isList p2.isList (by omega) FA hC
     · have key:=key λi hi kv r=>by
        obtain⟨d,ds,e⟩:=hl i hi;rw[e,Rep] at r;obtain⟨l,xs,z,_⟩:=r;exact⟨l,z⟩
       refine⟨tuples' false,λQ q=>?_,λi j hi hj C hC=>?_⟩
       · obtain⟨fs,f1,f2,f3⟩:=U7 (M:=model X.prog X.w) (h:=s'.heap) ks λv hv=>by
          obtain⟨i,hi,rfl⟩:=DG hv;obtain⟨l,kv,g1,g2,g3,g4⟩:=key i (by omega);rw[AS,Al hi] at g1;obtain⟨d,ds,hds⟩:=hl i (by omega);rw[hds,Rep] at g4;obtain⟨l',xs,rfl,g5,g6⟩:=g4;cases g3;obtain⟨its,rv,⟨o,e,c,n,hd⟩,_⟩:=I1.tuple g5;rw[Reps] at g6;obtain⟨x,vr,rfl,g7,_⟩:=g6;rw[Rep] at g7;obtain⟨l2,xs2,rfl,g8,_⟩:=g7;cases rv with
          | cons ra rb=> cases ra;obtain⟨its2,_,⟨o2,e2,c2,_⟩,_⟩:=I1.tuple g8;refine⟨_,o,_,n,_,g1,e,c,hd,rfl,?_⟩;rw[←c2];exact(Looks.ld e2).andThen .now
         exact kat_kind (T:= .type "tuple") f1 (by omega) f3 (by rfl) q
       · obtain⟨l1,kv1,a1,a2,a3,a4⟩:=key i hi;obtain⟨l2,kv2,b1,b2,b3,b4⟩:=key j hj;rw[a1,b1];have k1:=hok i j hi hj;have hdi:=hd i;obtain⟨d,ds,hds⟩:=hl i hi;obtain⟨e,es,hes⟩:=hl j hj;rw[hds,hes] at k1 hC;rw[hds] at a4 hdi;rw[hes] at b4;rw[Rep] at a4 b4;obtain⟨m1,xs,rfl,q1,q2⟩:=a4;obtain⟨m2,ys,rfl,q3,q4⟩:=b4;cases a3;cases b3;obtain⟨its,r1,⟨o1,e1,_,n1,d1⟩,_⟩:=I1.tuple q1;obtain⟨its',r2,⟨o2,e2,_,n2,d2⟩,_⟩:=I1.tuple q3;rw[Jv] at hdi;rw[IN] at k1;rw[I_] at hC;obtain⟨n,FA⟩:=Oi I1 X.A _ _ xs ys its its' q2 q4 r1 r2 (by omega) k1;exact kat_lt e1 d1 e2 d2 (zkU FA hC _ 0 rfl (AK _))
    refine Aa (hkind _ ?_);refine Aa (A5 (S _ _ _ E s' κ (λi j=>I_ (kd i) (kd j)) ks us lks rfl (by omega) O (λi j i' j' h1 h2 h3 h4 e1 e2=>?_) hgo) ?_ λ_ _ e=>e)
    · show I_ (kd i) (kd j)=I_ (kd i') (kd j');rw[hcons i i' h1 h3 e1,hcons j j' h2 h4 e2]
    · rintro⟨⟨⟩,st'⟩ s2 ⟨rfl,p,har,hf,ok,srt⟩;exact tail st' p har hf ok srt
end
open PySem PySem.Spec PyProof.Rows PySem.W
noncomputable def N7(M:Nat)(K:Ae)(sp:Sp):List V→Hp→VK→Prop:=λxs H Q=>∃(l:Addr)(vs:List V)(kd:Nat→PD),xs=[.ref l]∧SqL K H l vs∧vs.length≤M∧(∀v∈vs,∃a,v= .ref a)∧(∀i j:Nat,i<vs.length→j<vs.length→vs[i]?=vs[j]?→kd i=kd j)∧
 (∀i v,vs[i]?=some v→∀H1,Same H H1→∀Q1:VK,(∀kv H2,Same H1 H2→Rep K H2 (kd i) kv→Q1 kv H2)→sp [v] H1 Q1 E0)∧
 Q2 vs.length kd∧(∀i,Jv (kd i)≤20)∧(∀i j,i<vs.length→j<vs.length→IN (kd i) (kd j)=true)∧KS.Ord (λi j=>I_ (kd i) (kd j))∧
 ∀(r:Addr)(p:Array Nat)(H':Hp),KS.Ok vs.length p→KS.Srt (λi j=>I_ (kd i) (kd j)) p vs.length→Same H H'→H r=none→H' r=some (.lst (p.toList.map λi=>vs.getD i .non))→Q (.ref r) H'
noncomputable def U5(M:Nat)(K:Ae)(sp:Sp)(t:TA):TE:=λσ H Q=>t σ H λvs H1=>N7 M K sp vs H1 Q
theorem zf3{k M:Nat}(hM:M≤1000)(S:∀n,n≤M→Pd n){f:Addr}{fd:BP}{sp:Sp}(F:FnOk X.prog X.w X.K X.mg X.base Jc k f fd [x] sp)(hb:Binds X.K fd [x] [])(hr:Room (k+2) X.A):Pc X (.builtin "sorted") [BG "key"] (λxs zs H Q=>zs=[.ref f]∧N7 M X.K sp xs H Q):=by
 intro pins s σ H xs zs us ws Q I r1 r2 h;obtain⟨rfl,l,vs,kd,rfl,hq,h64,hrf,hco,turn,hl,hd,hok,O,q⟩:=h;obtain⟨u,rfl,ru⟩:=KA r1;obtain⟨z,rfl,rz⟩:=KA r2;cases ru;cases rz;obtain⟨its,rv,pl,hz⟩:=I.list hq;have lv:=rv.length;show wpAny _ _ (call (.builtin "sorted") [.ref l] [(BG "key",.ref f)]) _ _ _;refine call_function_entry_kw kind_sorted plain_sorted entry_sorted (ksk_s1 _ _) ?_;unfold FP;refine Aa (m:=checkCount "sorted" 1 1 _) (Ac ?_);refine Aa (collect_list pl.isList ?_ (by omega));refine Aa (Fq ?_ (by omega));have hsz:((s.heap.push (Bo "list" #[] 0)).update s.heap.objs.size (AI (· ++its.toArray))).objs.size=s.heap.objs.size+1:=by rw[Heap.size_update,size_push']
 have hoL:(((s.heap.push (Bo "list" #[] 0)).update s.heap.objs.size (AI (· ++its.toArray))).push (Bo "list" its.toArray 0)).get? (s.heap.objs.size+1)=some (Bo "list" its.toArray 0):=by rw[←hsz];exact Ak _ rfl
 have keep:∀b o,s.heap.get? b=some o→(((s.heap.push (Bo "list" #[] 0)).update s.heap.objs.size (AI (· ++its.toArray))).push (Bo "list" its.toArray 0)).get? b=some o:=λb o q=>by have hlt:b<s.heap.objs.size:=Am q;rw[Heap.get?_push_ne _ _ _ (by rw[hsz];exact Ar (De hlt)),GQ _ _ _ _ (Ar hlt),Heap.get?_push_ne _ _ _ (Ar hlt)];exact q
 show wpAny _ _ _ _ _ {s with heap:=((s.heap.push (Bo "list" #[] 0)).update s.heap.objs.size (AI (· ++its.toArray))).push (Bo "list" its.toArray 0)}
 rw[hsz];generalize hg:((s.heap.push (Bo "list" #[] 0)).update s.heap.objs.size (AI (· ++its.toArray))).push (Bo "list" its.toArray 0)=g at hoL keep ⊢;refine Aa (AN (wpAny_call_entry_kw G4 ⟨_,hoL,rfl⟩ Gh ?body (ksk_l1 _ _)))
 case body=>
  show wpAny (model X.prog X.w) X.A.in1.in1 (Builtin.«list.sort» ⟨[.ref (s.heap.objs.size+1)],[(BG "key",.ref f)]⟩) _ _ _;rw[ksk_t1];unfold ksk_tree;have ha:s.heap.objs.size+1<g.objs.size:=Am hoL;refine Aa (listItems_at hoL rfl ?_);refine Aa (listUpdate_at hoL rfl ?_ (by rw[Av,sizeLine_eq];omega) (AK _));obtain⟨e1,ho1⟩:∃e1,(g.update (s.heap.objs.size+1) (AI λ_=>#[])).get? (s.heap.objs.size+1)=some (Bo "list" #[] e1):=⟨_,get?_update_seq hoL (λ_=>#[])⟩;refine Aa (seqEpoch_at ho1 rfl ?_);refine Aa (ET ?_ (by show its.length≤_;rw[sizeLine_eq];omega));refine Aa (Fq ?_ (AK _));refine AN ?_;have ho6:(((g.update (s.heap.objs.size+1) (AI λ_=>#[])).push (Bo "tuple" its.toArray 0)).push (Bo "list" #[] 0)).get? (s.heap.objs.size+1)=some (Bo "list" #[] e1):=
   Ad _ (Ad _ ho1)
  have hkS:((g.update (s.heap.objs.size+1) (AI λ_=>#[])).push (Bo "tuple" its.toArray 0)).objs.size=g.objs.size+1:=by rw[size_push',Heap.size_update]
  have hok6:(((g.update (s.heap.objs.size+1) (AI λ_=>#[])).push (Bo "tuple" its.toArray 0)).push (Bo "list" #[] 0)).get? (g.objs.size+1)=some (Bo "list" #[] 0):=by rw[←hkS];exact Ak _ rfl
  have kept:∀b o,s.heap.get? b=some o→(((g.update (s.heap.objs.size+1) (AI λ_=>#[])).push (Bo "tuple" its.toArray 0)).push (Bo "list" #[] 0)).get? b=some o:=λb o q=>by refine Ad _ (Ad _ ?_);rw[GQ _ _ _ _ (Ar (De (Am q)))];exact keep b o q
  show wpAny _ _ (ksk_rest _ _ _ _ _ (.ref ((g.update (s.heap.objs.size+1) (AI λ_=>#[])).push (Bo "tuple" its.toArray 0)).objs.size)) _ _ {s with heap:=((g.update (s.heap.objs.size+1) (AI λ_=>#[])).push (Bo "tuple" its.toArray 0)).push (Bo "list" #[] 0)}
  rw[hkS];generalize((g.update (s.heap.objs.size+1) (AI λ_=>#[])).push (Bo "tuple" its.toArray 0)).push (Bo "list" #[] 0)=g6 at ho6 hok6 kept ⊢;have Fa:IJ X.in2 pins H (s.heap.objs.size+1):=I.in2.fpOk (CS _) (I.hok.fresh (CS _));have hle:s.heap.objs.size≤g.objs.size+1:=by omega
  have hne:g.objs.size+1≠s.heap.objs.size+1:=by omega
  have h64':its.length≤1000:=by omega
  have hcons:∀i j:Nat,i<its.length→j<its.length→its[i]?=its[j]?→kd i=kd j:=λi j hi hj e=>by refine hco i j (by omega) (by omega) ?_;obtain⟨v1,hv1⟩:∃v,vs[i]?=some v:=⟨_,Al (by omega)⟩;obtain⟨v2,hv2⟩:∃v,vs[j]?=some v:=⟨_,Al (by omega)⟩;obtain⟨u1,g1,g2⟩:=Vals.get rv hv1;obtain⟨u2,g3,g4⟩:=Vals.get rv hv2;obtain⟨a1,rfl⟩:=hrf v1 (Ag hv1);obtain⟨a2,rfl⟩:=hrf v2 (Ag hv2);rw[g1,g3] at e;cases g2;cases g4;cases e;rw[hv1,hv2]
  have Fk:IJ X.in2 pins H (g.objs.size+1):=I.in2.fpOk hle (I.hok.fresh hle);have I6:Inv X.in2 pins σ H {s with heap:=g6}:=Inv.kept (t':=s.toks) I.in2 kept
  refine zk2 (X:=X.in2) (pins:=pins) (σ:=σ) (H:=H) (vs:=vs) (kd:=kd) (I6.pins_of λp hp=>?_) Fa Fk (G9 (Nat.le_succ_of_le I.sz)) hne rv h64' (S _ (by omega)) hcons (λi v u hv hu pins' s' H' I' S'=>?_) (by rw[←lv];exact hl) (λi=>?_) (by rw[←lv];exact hok) O λp s' H' ok srt S' hn I'=>?_
  · rcases Aw.mp hp with rfl | hp
    · exact⟨ho6,Fa.1,Fa.2.1,Fa.2.2.1,λv z=>by cases z⟩
    · rcases Aw.mp hp with rfl | hp
      · exact⟨hok6,Fk.1,Fk.2.1,Fk.2.2.1,λv z=>by cases z⟩
      · exact I6.pin p (Ai _ hp)
  · obtain⟨u',h1,h2⟩:=Vals.get rv hv;rw[hu] at h1;cases h1;exact TQ (X:=X.in2) F (Room.in1 (Room.in1 hr)) hb .nil SW I' (.cons h2 .nil) (turn i v hv H' S' _ λkv H2 s2 r2=>⟨s2,r2⟩)
  · have:=hd i;have:=hr.un;show X.A.units+1+1+2+Jv (kd i)<cLine;omega
  · refine⟨_,rfl,?_⟩;refine Ac ⟨_,rfl,?_⟩;rw[←lv] at ok srt;exact⟨.ref _,_,I'.out2 I.ok,rfl,q _ p _ ok srt (JP S' Fa.1) Fa.1 IE⟩
theorem zkE{k M:Nat}(hM:M≤1000)(S:∀n,n≤M→Pd n){px:Str}{sp:Sp}{t:TA}{p1 p2 p3 pos:Pos}(G:Jk X.prog X.w X.K X.mg X.base k x [px] sp)(hr:Room (k+2) X.A)(hg:Gl X "sorted")(hm:X.mg "sorted"=none)(hx:Gl X x)(ha:PA X [e] t)(hks:(x==("__debug__":Str))=false:=by decide)
 (he:backTo pos (AL [e] X.env)=(false,eval e X.env)::backTo pos (AL [] X.env):=by rfl) (hpl:(backTo pos (AL [e] X.env)).any (·.1)=false:=by rfl):
 PE X (.Call (.Name "sorted" p1) [e] [⟨some "key",.Name x p2,p3⟩] pos) (U5 M X.K sp t):=by
 obtain⟨f,fd,h1,h2,h3,h4⟩:=G;have:=Rf (p:=p1) (pos:=pos) (zf3 hM S h1 h2 hr) hg hm P6 ha (Q8 (nm:=some "key") (kpos:=p3) (Pl (v:= .ref f) (pos:=p2) hx h4 rfl hks) Qy) rfl (by decide) (by decide) he hpl rfl rfl;intro pins s σ H Q I h;refine this pins s σ H Q I ?_;have e0:(λ(vs:List V)(H1:Hp)=>N7 M X.K sp vs H1 Q)=(λvs H1=>[V.ref f]=[V.ref f]∧N7 M X.K sp vs H1 Q):=by funext vs H1;simp
 have h':t σ H (λvs H1=>N7 M X.K sp vs H1 Q):=h;rw[e0] at h';exact h'
theorem Wa{k:Nat}{px:Str}{sp:Sp}{t:TA}{p1 p2 p3 pos:Pos}(G:Jk X.prog X.w X.K X.mg X.base k x [px] sp)(hr:Room (k+2) X.A)(hg:Gl X "sorted")(hm:X.mg "sorted"=none)(hx:Gl X x)(ha:PA X [e] t)(hks:(x==("__debug__":Str))=false:=by decide)
 (he:backTo pos (AL [e] X.env)=(false,eval e X.env)::backTo pos (AL [] X.env):=by rfl) (hpl:(backTo pos (AL [e] X.env)).any (·.1)=false:=by rfl):
 PE X (.Call (.Name "sorted" p1) [e] [⟨some "key",.Name x p2,p3⟩] pos) (U5 63 X.K sp t):=zkE (by decide) (λn h=>Ye (by omega)) G hr hg hm hx ha hks he hpl
section
variable{base:Heap}{l:List Env}{H':Hp}{s0 s':Shared}{C t:Addr}{B h':Heap}
end
section
variable{H':Hp}{s':Shared}{C:Addr}
end
noncomputable def del(H:Hp)(a:Addr):Hp:=λb=>if b=a then none else H b
section
variable{e C:Addr}
end
section
variable{g:Array GenState}{d:Drawn}{t:Nat}{os:OsState}{nm q:Str}{C N:Addr}{bs bm bmB:List Value}{hdct:Bool}{sn:List Str}{sub:List Value}
variable{ab:Bool}{col:Option Bool}{dd:Option Addr}{k0 k1 k2 k3 k5:Option Value}{B newId initId:String}{rest:List Value}
end
section
variable{g:Array GenState}{d:Drawn}{t:Nat}{os:OsState}{nm q:Str}{C N:Addr}{bs bm bmB:List Value}{hdct:Bool}{sn:List Str}{sub:List Value}
variable{ab:Bool}{col:Option Bool}{dd:Option Addr}{k0 k1 k2 k3 k5:Option Value}{B newId initId:String}{rest:List Value}
end
section
variable{K:Ae}{mg:Str→Option Value}{base:Heap}{N:List Str}{qual:Str}{f:Addr}{cd:Value}{outer:List Env}{E:XK}
end
section
variable{K:Ae}{mg:Str→Option Value}{base:Heap}{N:List Str}{qual:Str}{f:Addr}{cd:Value}{outer:List Env}{E:XK}
end
section
variable{E:XK}{C fI:Addr}{fd:BP}{k:Nat}{e1:Expr}{t:TA}{np cpos:Pos}
end
section
variable{o:HO}
end
section
variable{pins':List (Addr×Obj)}{RR:St→Value→Hp→Prop}
end
section
variable{base:Heap}{l:List Env}{H':Hp}{s0 s':Shared}{C t:Addr}{B:Heap}
end
section
variable{M:Model}{g:Array GenState}{d:Drawn}{t:Nat}{os:OsState}{nm q nm0 q0:Str}{C N C0 N0 e:Addr}{bs bm bs0 bm0:List Value}{hdct hdct0:Bool}{sn sn0:List Str}{sub sub0:List Value}
variable{ab ab0:Bool}{col col0:Option Bool}{dd dd0:Option Addr}{k0 k1 k2 k3 k5 j0 j1 j2 j3 j5:Option Value}{newId newId0:String}{oe:Obj}
end
section
variable{C0:Addr}{n:Str}{body suite:List Stmt}{b₀:Stmt}{np hpos:Pos}{tb:(St→Value→Hp→Prop)→TS}{ts:TS}
end
open PySem.W (Looks looks_findIn looks_mroIn looks_typeIn)
section
variable{K:Ae}{g:Array GenState}{d:Drawn}{t:Nat}{os:OsState}{C:Addr}
end
noncomputable def Mm:V→Value
 | .ref D=> .ref D
 | .ty n=> .type n
 | _=> .none
noncomputable def Qz:V→Bool
 | .ref _=>true
 | .ty _=>true
 | _=>false
theorem Zm{c:V}(h:Qz c=true)(r:RelV c u):u=Mm c:=by
 cases c with
 | ref D=>exact r
 | ty n=>exact r
 | _=>cases h
theorem VQ:∀{cs:List V}{us:List Value},cs.all Qz=true→Vals cs us→us=cs.map Mm
 | [],_,_,.nil=>rfl
 | c::cs,_,h,.cons r rs=>by rw[C5,AF] at h;rw[Zm h.1 r,VQ h.2 rs];rfl
end L2
namespace WB
end WB
namespace WB
end WB
namespace L2
section
variable{te:TE}{p2 p3 p4:Pos}
end
end L2
namespace WB
end WB
namespace L2
inductive DX where
 | non
 | bl (b:Bool)
 | int (i:Int)
 | str (x:Str)
 | lst (ds:List DX)
 | tup (ds:List DX)
 | dic
mutual
noncomputable def pd:DX→PyData
 | .non=> .none
 | .bl b=> .bool b
 | .int i=> .int i
 | .str x=> .str x
 | .lst ds=> .list (Sk ds)
 | .tup ds=> .tuple (Sk ds)
 | .dic=> .dict []
noncomputable def Sk:List DX→List PyData
 | []=>[]
 | d::ds=>pd d::Sk ds
end
open PySem.AutoSeq1 (wpAny_loadPart')
open PySem.MeetsSeq PySem.MeetsSeq2 PySem.MeetsSeq3 PySem.SeqRoads2
noncomputable def EqIn(P:Bp)(w:World)(A:BE)(s:Shared)(y x:Value):Prop:=∀(E:Value→Shared→Prop)(Q:Bool→Shared→Prop),Q true s→wpAny (model P w) A (eqBool y x) Q E s
theorem zh2(l b:Addr)(items items2:Array Value)(n n2:Nat)(dd dd2:Option Addr)(sl sl2:Array (Option Value))(hsz:items.size=items2.size)(k:Nat):
 ∀i:Nat,items.size - i=k→∀(A:BE)(R:Result→Shared→Prop)(s:Shared),s.heap.get? l=some {cls:= .type "list",dict:=dd,data:= .seq items n,slots:=sl}→s.heap.get? b=some {cls:= .type "list",dict:=dd2,data:= .seq items2 n2,slots:=sl2}→
  (∀j(h1:j<items.size)(h2:j<items2.size),EqIn P w A.in1 s items[j] items2[j])→R (.ok (.ret (.bool true))) s→
  wpAny (model P w) A.in1 (Builtin.«list.__eq__.loop» ⟨[.ref l,.ref b,rawInt i,rawInt 2],[]⟩) (λfin s'=>match fin with | .done f=>R (.ok f) s' | .again c'=>c'.quiet=true∧codeAny (model P w) A c' R s') (λe s'=>R (.error e) s') s:=by
 induction k with
 | zero=>
  intro i hk A R s hl hb he h;obtain⟨hp,g,d,tk,os⟩:=s
  wp_walk using AC hl,AC hb
  have o1:items[((i:Nat):Int).toNat]?=none:=by simp;omega
  have o2:items2[((i:Nat):Int).toNat]?=none:=by simp;omega
  rw[o1,o2]
  wp_walk using AC hl,AC hb
  show R (.ok (.ret (.bool (items.size==items2.size)))) _;rw[hsz];simpa using h
 | succ k ih=>
  intro i hk A R s hl hb he h;obtain⟨hp,g,d,tk,os⟩:=s
  wp_walk using AC hl,AC hb
  have lt1:i<items.size:=by omega
  have KU:i<items2.size:=by omega
  have o1:items[((i:Nat):Int).toNat]?=some items[i]:=by simp[lt1]
  have o2:items2[((i:Nat):Int).toNat]?=some items2[i]:=by simp[KU]
  have hc:((i:Int)+1)=((i+1:Nat):Int):=by push_cast;rfl
  rw[o1,o2];refine Aa (he i lt1 KU _ _ ?_)
  wp_walk
  rw[hc];exact⟨Bj plain_eq_loop _,Bf entry_eq_loop (by rw[AO plain_eq_loop _];exact ih (i+1) (by omega) A R _ hl hb he h)⟩
theorem X_(l b:Addr)(items items2:Array Value)(n n2:Nat)(dd dd2:Option Addr)(sl sl2:Array (Option Value))(hsz:items.size=items2.size)(A:BE)(R:Result→Shared→Prop)(s:Shared)
 (hl:s.heap.get? l=some {cls:= .type "list",dict:=dd,data:= .seq items n,slots:=sl}) (hb:s.heap.get? b=some {cls:= .type "list",dict:=dd2,data:= .seq items2 n2,slots:=sl2})
 (he:∀j(h1:j<items.size)(h2:j<items2.size),EqIn P w A.in1 s items[j] items2[j]) (h:R (.ok (.ret (.bool true))) s):
 wpAny (model P w) A.in1 (Builtin.«list.__eq__» ⟨[.ref l,.ref b],[]⟩) (λfin s'=>match fin with | .done f=>R (.ok f) s' | .again c'=>c'.quiet=true∧codeAny (model P w) A c' R s') (λe s'=>R (.error e) s') s:=by
 obtain⟨hp,g,d,tk,os⟩:=s;have f3:=En;have hne:¬(items.size !=items2.size)=true:=by simp[hsz]
 wp_walk using AC hl,AC hb
 exact⟨Bj plain_eq_loop _,Bf entry_eq_loop (by rw[AO plain_eq_loop _];exact zh2 l b items items2 n n2 dd dd2 sl sl2 hsz _ 0 rfl A R _ hl hb he h)⟩
theorem Q9{l:Addr}{items items2:Array Value}{E:Value→Shared→Prop}{Q:Value→Shared→Prop}(hl:s.heap.IsList l items)(hb:s.heap.IsList b items2)(hsz:items.size=items2.size)(hu:A.units<cLine)
 (he:∀j(h1:j<items.size)(h2:j<items2.size),EqIn P w A.in1 s items[j] items2[j]) (h:Q (.bool true) s):wpAny (model P w) A (richCompare .Eq (.ref l) (.ref b)) Q E s:=by
 obtain⟨⟨c1,dd,data,sl⟩,ho,hc,n,hd⟩:=id hl;obtain⟨⟨c2,dd2,data2,sl2⟩,ho2,hc2,n2,hd2⟩:=id hb;simp only at hc hd hc2 hd2;subst hc hd hc2 hd2;refine BQ (op:= .Eq) ⟨_,ho,rfl⟩ ⟨_,ho2,rfl⟩ F.slot_list_eq ?_ hu;refine E7 (Di F.slot_list_eq.plain F.entry_list_eq (F.slot_list_eq.check _ _ _ _ _ _ _ _ ⟨_,ho,rfl⟩ (F.args_list_eq_2 _ _) ?_));exact X_ l b items items2 n n2 dd dd2 sl sl2 hsz A (wants (λv s'=>v≠ .notImplemented∧Q v s') E) s ho ho2 he (show Value.bool true≠Value.notImplemented∧Q (.bool true) s from⟨(λx=>nomatch x),h⟩)
open PySem PySem.Spec PyProof.Rows PySem.Calls
section
variable{κ:Type}[DecidableEq κ]{knd:KeyKind P w κ}
end
inductive DY where
 | non
 | bl (b:Bool)
 | int (i:Int)
 | str (x:Str)
 | lst (ds:List DY)
 | tup (ds:List DY)
mutual
noncomputable def RepY(H:Hp):DY→V→Prop
 | .non,v=>v= .non
 | .bl b,v=>v= .bl b
 | .int i,v=>v= .int i
 | .str x,v=>v= .str x∧x.length≤900
 | .lst ds,v=>∃a xs,v= .ref a∧H a=some (.lst xs)∧ds.length≤900∧RepYs H ds xs
 | .tup ds,v=>∃a xs,v= .ref a∧H a=some (.tup xs)∧ds.length≤900∧RepYs H ds xs
noncomputable def RepYs(H:Hp):List DY→List V→Prop
 | [],xs=>xs=[]
 | d::ds,xs=>∃x r,xs=x::r∧RepY H d x∧RepYs H ds r
end
mutual
theorem RepY.same{H':Hp}(s:Same H H'):∀(d:DY){v:V},RepY H d v→RepY H' d v
 | .non,v,h=>by rw[RepY] at*;exact h
 | .bl b,v,h=>by rw[RepY] at*;exact h
 | .int i,v,h=>by rw[RepY] at*;exact h
 | .str x,v,h=>by rw[RepY] at*;exact h
 | .lst ds,v,h=>by rw[RepY] at*;obtain⟨a,xs,e,h1,h0,h2⟩:=h;exact⟨a,xs,e,s _ _ h1,h0,RepYs.same s ds h2⟩
 | .tup ds,v,h=>by rw[RepY] at*;obtain⟨a,xs,e,h1,h0,h2⟩:=h;exact⟨a,xs,e,s _ _ h1,h0,RepYs.same s ds h2⟩
theorem RepYs.same{H':Hp}(s:Same H H'):∀(ds:List DY){xs:List V},RepYs H ds xs→RepYs H' ds xs
 | [],xs,h=>by rw[RepYs] at*;exact h
 | d::ds,xs,h=>by rw[RepYs] at*;obtain⟨x,r,e,h1,h2⟩:=h;exact⟨x,r,e,RepY.same s d h1,RepYs.same s ds h2⟩
end
theorem RepYs.length:∀{ds:List DY}{xs:List V},RepYs H ds xs→xs.length=ds.length
 | [],xs,h=>by rw[RepYs] at h;rw[h];rfl
 | d::ds,xs,h=>by rw[RepYs] at h;obtain⟨x,r,rfl,_,h⟩:=h;rw[AA,AA,RepYs.length h]
theorem RepYs.get:∀{ds:List DY}{xs:List V}{i:Nat}{x:V},RepYs H ds xs→xs[i]?=some x→∃d,ds[i]?=some d∧RepY H d x
 | [],xs,i,x,h,e=>by rw[RepYs] at h;subst h;simp at e
 | d::ds,xs,0,x,h,e=>by rw[RepYs] at h;obtain⟨y,r,rfl,h1,h2⟩:=h;simp at e;subst e;exact⟨d,rfl,h1⟩
 | d::ds,xs,i+1,x,h,e=>by rw[RepYs] at h;obtain⟨y,r,rfl,h1,h2⟩:=h;simp at e;obtain⟨d',e1,e2⟩:=RepYs.get h2 e;exact⟨d',by simpa using e1,e2⟩
mutual
noncomputable def JB:DY→Nat
 | .lst ds=>KJ ds+1
 | .tup ds=>KJ ds+1
 | _=>0
noncomputable def KJ:List DY→Nat
 | []=>0
 | d::ds=>max (JB d) (KJ ds)
end
theorem Wm:KH X (.builtin "isinstance") (λxs H Q=>∃x t tp cs b,xs=[x,.ref tp]∧TyOf X.K H x (.type t)∧H tp=some (.tup cs)∧cs.all Qz=true∧PySem.W.kitAny X.K (.type t) (cs.map Mm)=some b∧Q (.bl b) H):=by
 intro pins s σ H xs us Q I r h;obtain⟨x,t,tp,cs,b,rfl,ty,ht,hc,e,q⟩:=h;obtain⟨u,w',rfl,ru,rw'⟩:=Nt r;cases(show w'=Value.ref tp from rw');obtain⟨_,its,rv,o,h1,h2,h3,n,h4⟩:=(show ObjOk X.prog X.w H s.heap tp (.tup cs) from I.hok tp _ ht);obtain⟨oc,od,oda,osl⟩:=o;dsimp only at h2 h3 h4;subst h2 h3 h4;have hi:its=cs.map Mm:=VQ hc rv;subst hi;have fin:∀tk,EP X pins σ Q (.bool b) {s with toks:=tk}:=λtk=>⟨.bl b,H,I.tok tk,rfl,q⟩
 generalize ht':(Value.type t)=T at ty e;cases ty with
 | non=>cases(show u=Value.none from ru);exact Co PySem.W.kitx_none I.kIn True.intro h1 e (λz=>nomatch z) fin
 | bl y=>cases(show u=Value.bool y from ru);exact Co PySem.W.kitx_bool I.kIn True.intro h1 e (λz=>nomatch z) fin
 | int i=>obtain⟨t,q⟩:=(show ∃t,u=Value.int i t from ru);cases q;exact Co PySem.W.kitx_int I.kIn True.intro h1 e (λz=>nomatch z) fin
 | str y=>obtain⟨t,q⟩:=(show ∃t,u=Value.str y t from ru);cases q;exact Co PySem.W.kitx_str I.kIn True.intro h1 e (λz=>nomatch z) fin
 | flt y=>obtain⟨t,q⟩:=(show ∃t,u=Value.float y t from ru);cases q;exact Co PySem.W.kitx_float I.kIn True.intro h1 e (λz=>nomatch z) fin
 | @lst a xs ea=> cases(show u=Value.ref a from ru);obtain⟨_,_,n,_,g1⟩:=(show ObjOk X.prog X.w H s.heap a (.lst xs) from I.hok a _ ea);exact Co Ef I.kIn ⟨_,g1,rfl⟩ h1 e (λz=>nomatch z) fin
 | @tup a xs ea=> cases(show u=Value.ref a from ru);obtain⟨_,_,_,o,g1,g2,_⟩:=(show ObjOk X.prog X.w H s.heap a (.tup xs) from I.hok a _ ea);exact Co PySem.W.kitx_tuple I.kIn ⟨o,g1,g2⟩ h1 e (λz=>nomatch z) fin
 | @dK a kvs ea=> cases(show u=Value.ref a from ru);obtain⟨_,_,vs,_,p⟩:=(show ObjOk X.prog X.w H s.heap a (.dK kvs) from I.hok a _ ea);obtain⟨o,es,ep,g1,g2,_⟩:=p;exact Co Eg I.kIn ⟨o,g1,g2.1⟩ h1 e (λz=>nomatch z) fin
 | @frz a ob xs ea=> cases(show u=Value.ref a from ru);obtain⟨_,_,_,n,_,g1⟩:=(show ObjOk X.prog X.w H s.heap a (.frz ob (.lst xs)) from I.hok a _ ea);exact Co Ef I.kIn ⟨_,g1,rfl⟩ h1 e (λz=>nomatch z) fin
 | @dT a kvs ea=> cases(show u=Value.ref a from ru);obtain⟨_,_,xs,_,o,es,ep,g1,g2,_⟩:=(show ObjOk X.prog X.w H s.heap a (.dT kvs) from I.hok a _ ea);exact Co Eg I.kIn ⟨o,g1,g2.1⟩ h1 e (λz=>nomatch z) fin
 | ins=>cases ht'
noncomputable def NJ(b g:Addr)(H:Hp):Hp:=λa=>if a=b∨a=g then none else H a
noncomputable def Q0(D:Nat)(sp:Nat→Sp):Sp:=λvs H Q E=>∃n,n≤D∧sp n vs H Q E
section
variable{K:Ae}{mg:Str→Option Value}{base:Heap}
noncomputable def WX:Sp:=λ_ _ _ _=>False
theorem TK{st:Stmt}{f:Addr}{fd:BP}{N ps:List Str}(F:Fun K x x st f fd)(S:FnScope N ps (IQ st))(b:Binds K fd ps [])(M:mg x=some (.ref f))(L:Nat)(sp:Nat→Sp)
 (step:∀n sp0,(∀m,n=m+1→sp0=sp m)→Jk P w K mg base (L+1+n) x ps sp0→FnOk P w K mg base Jc (L+1+n+1) f fd ps (sp n)):∀n,FnOk P w K mg base Jc (L+1+n+1) f fd ps (sp n)
 | 0=>step 0 WX (λm z=>by cases z) ⟨f,fd,F.ok (k:=L) S (λ_ _ _ _ h=>h.elim) (λ_ _ _ _ _ _ _ _ _ h=>h.elim),b,F.kp,M⟩
 | n+1=>step (n+1) (sp n) (λm z=>by cases z;rfl) ⟨f,fd,TK F S b M L sp step n,b,F.kp,M⟩
theorem Yi{f:Addr}{fd:BP}{ps:List Str}{L D:Nat}{sp:Nat→Sp}(h:∀n,FnOk P w K mg base Jc (L+1+n+1) f fd ps (sp n)):FnOk P w K mg base Jc (L+D+2) f fd ps (Q0 D sp):=
 ⟨λvs H Q E ⟨n,_,q⟩=>(h n).len vs H Q E q,λA outer s H args us vs Q E hr he hb hv ⟨n,hn,q⟩=>(h n).run A outer s H args us vs Q E (hr.mono (by omega)) he hb hv q⟩
end
noncomputable def Oy(K:Ae):R2:=λx y H Q=>∃p xs i v,x= .ref p∧y= .int i∧(SqL K H p xs∨SqT K H p xs)∧Km xs i=some v∧Q v H
theorem Yb:Nl X (Oy X.K):=by
 intro value slice pins s σ H x y v u Q I rx ry h hs;obtain⟨p,xs,i,z,rfl,rfl,hq,he,q⟩:=h;rcases hq with hq | hq
 · exact JV value slice pins s σ H _ _ v u Q I rx ry ⟨p,xs,i,z,rfl,rfl,hq,he,q⟩ hs
 · exact JM value slice pins s σ H _ _ v u Q I rx ry ⟨p,xs,i,z,rfl,rfl,hq,he,q⟩ hs
theorem U2(K:Ae)(h:X.K=K):Nl X (Oy K):=by subst h;exact Yb
noncomputable def eD:Option Int→DY
 | none=> .non
 | some i=> .int i
theorem Uk(H:Hp)(o:Option Int):RepY H (eD o) (eV o):=by
 cases o with
 | none=>show RepY H .non .non;rw[RepY]
 | some i=>show RepY H (.int i) (.int i);rw[RepY]
theorem Zr(o:Option Int):JB (eD o)=0:=by cases o<;>rfl
theorem RepYs.nil:RepYs H [] []:=by rw[RepYs]
theorem RepYs.cons{d:DY}{ds:List DY}{x:V}(h:RepY H d x)(hs:RepYs H ds xs):RepYs H (d::ds) (x::xs):=by rw[RepYs];exact⟨x,xs,rfl,h,hs⟩
theorem Y3{ds:List DY}(h:H a=some (.lst xs))(hs:RepYs H ds xs)(hl:xs.length≤900):RepY H (.lst ds) (.ref a):=by rw[RepY];exact⟨a,xs,rfl,h,by rw[←hs.length];exact hl,hs⟩
theorem Pp{ds:List DY}(h:H a=some (.tup xs))(hs:RepYs H ds xs)(hl:xs.length≤900):RepY H (.tup ds) (.ref a):=by rw[RepY];exact⟨a,xs,rfl,h,by rw[←hs.length];exact hl,hs⟩
theorem PM:∀{ds:List DY}{m:Nat},(∀d∈ds,JB d≤m)→KJ ds≤m
 | [],m,_=>by rw[KJ];exact AK _
 | d::ds,m,h=>by rw[KJ];have h1:=h d (Ao ..);have h2:=PM λe he=>h e (As _ he);omega
theorem Rk:∀{ds:List DY}{d:DY},d∈ds→JB d≤KJ ds
 | [],d,h=>nomatch h
 | e::ds,d,h=>by
  rw[KJ];rcases Aw.mp h with rfl | h
  · omega
  · have:=Rk h;omega
theorem Pa{a b:Option Int}(h:eV a=eV b):a=b:=by cases a<;>cases b<;>simp[eV] at h ⊢;exact h
theorem Vx:∀ps qs:List (Addr×WP),(∀p∈ps,H p.1=some (.tup [.str p.2.1,eV p.2.2.1,eV p.2.2.2]))→(∀p∈qs,H p.1=some (.tup [.str p.2.1,eV p.2.2.1,eV p.2.2.2]))→(ps.map λp=>V.ref p.1)=(qs.map λp=>V.ref p.1)→ps.map (·.2)=qs.map (·.2)
 | [],[],_,_,_=>rfl
 | [],_::_,_,_,h=>by simp at h
 | _::_,[],_,_,h=>by simp at h
 | p::ps,q::qs,h1,h2,h=>by
  rw[Ax,Ax,EE] at h;have e1:p.1=q.1:=by injection h.1
  have a1:=h1 p Ao;have a2:=h2 q Ao;rw[e1,a2] at a1;have e2:p.2=q.2:=by obtain⟨_,f,lo,hi⟩:=p;obtain⟨_,f',lo',hi'⟩:=q;simp only[F7,HO.tup.injEq,EE,V.str.injEq,and_true] at a1;obtain⟨z1,z2,z3⟩:=a1;rw[z1,Pa z2,Pa z3]
  rw[Ax,Ax,e2,Vx ps qs (λx hx=>h1 x (As _ hx)) (λx hx=>h2 x (As _ hx)) h.2]
theorem WishAt.inj{w w':List WP}(h:WishAt H a w)(h':WishAt H a w'):w=w':=by obtain⟨ps,rfl,e,f⟩:=h;obtain⟨qs,rfl,e',f'⟩:=h';rw[e] at e';simp only[F7,HO.tup.injEq] at e';exact Vx ps qs f f' e'
theorem Mb{t u:TS}{D:Ends}(M:St→Hp→Prop)(h1:∀Z:St→Hp→Prop,(∀σ' H',M σ' H'→Z σ' H')→t {D with nx:=Z} σ H)(h2:∀σ' H',M σ' H'→u D σ' H'):M_ t u D σ H:=h1 (u D) h2
theorem MY{v:V}{Q:St→Hp→Prop}(h:Q (σ.set i (some v)) H):KI i v σ H Q:=h
theorem WishAt.tyN{w:List WP}(h:WishAt H a w):∃xs,H a=some (.tup xs)∧xs.length=w.length:=by obtain⟨ps,rfl,e,_⟩:=h;exact⟨_,e,by simp⟩
structure WsAt(H:Hp)(l:Addr)(ws:List (Addr×List WP)):Prop where
 at':H l=some (.lst (ws.map λx=>V.ref x.1))
 ok:∀x∈ws,WishAt H x.1 x.2∧WOk x.2
 len:ws.length≤800
theorem WsAt.same{H':Hp}{l:Addr}{ws:List (Addr×List WP)}(h:WsAt H l ws)(s:Same H H'):WsAt H' l ws:=⟨s _ _ h.at',λx hx=>⟨(h.ok x hx).1.same s,(h.ok x hx).2⟩,h.len⟩
noncomputable def Ur:Sp:=λvs H Q _=>∃(l:Addr)(ws:List (Addr×List WP)),vs=[.ref l]∧WsAt H l ws∧∀H',Same H H'→Q (.bl true) H'
noncomputable def UJ:Sp:=λvs H Q _=>∃(l:Addr)(ws:List (Addr×List WP)),vs=[.ref l]∧WsAt H l ws∧∀H',Same H H'→Q .non H'
noncomputable def Mu(w w':List WP):Bool:=J6 K2 (w.map ky) (w'.map ky)
theorem Ym{a b:Option Int}(h:La a=La b):a=b:=by cases a<;>cases b<;>simp[La] at h ⊢;exact h
theorem YH{a b:Option Int}(h:Lb a=Lb b):a=b:=by cases a<;>cases b<;>simp[Lb] at h ⊢;exact h
theorem XB{p q:WP}(h:ky p=ky q):p=q:=by obtain⟨f,lo,hi⟩:=p;obtain⟨f',lo',hi'⟩:=q;unfold ky at h;simp only[Prod.mk.injEq] at h ⊢;exact⟨h.1,Ym h.2.1,YH h.2.2⟩
noncomputable def Mj(p:WP):DY:= .tup [.str p.1,eD p.2.1,eD p.2.2]
noncomputable def Nd(w:List WP):DY:= .tup (w.map Mj)
theorem Wb:∀ps:List (Addr×WP),(∀p∈ps,H p.1=some (.tup [.str p.2.1,eV p.2.2.1,eV p.2.2.2]))→(∀p∈ps,p.2.1.length≤8)→RepYs H ((ps.map (·.2)).map Mj) (ps.map λp=>V.ref p.1)
 | [],_,_=>RepYs.nil
 | p::ps,h,hl=>by refine RepYs.cons ?_ (Wb ps (λx hx=>h x (As _ hx)) λx hx=>hl x (As _ hx));refine Pp (h p Ao) (RepYs.cons ?_ (RepYs.cons (Uk H _) (RepYs.cons (Uk H _) RepYs.nil))) (by simp);rw[RepY];exact⟨rfl,AD (hl p Ao) (by decide)⟩
theorem QX{w:List WP}(h:WishAt H a w)(ok:WOk w):RepY H (Nd w) (.ref a):=by obtain⟨ps,rfl,e,f⟩:=h;refine Pp e (Wb ps f λp hp=>?_) (by have:=ok.len;rw[Ab] at*;omega);exact(ok.ok p.2 (Az hp)).1.eight
theorem W1:∀ws:List (Addr×List WP),(∀x∈ws,WishAt H x.1 x.2∧WOk x.2)→RepYs H ((ws.map (·.2)).map Nd) (ws.map λp=>V.ref p.1)
 | [],_=>RepYs.nil
 | x::ws,h=>RepYs.cons (QX (h x Ao).1 (h x Ao).2) (W1 ws λy hy=>h y (As _ hy))
theorem WsAt.repY{l:Addr}{ws:List (Addr×List WP)}(h:WsAt H l ws):RepY H (.lst ((ws.map (·.2)).map Nd)) (.ref l):=
 Y3 h.at' (W1 ws h.ok) (by have:=h.len;rw[Ab];omega)
theorem VT(w:List WP):JB (Nd w)≤2:=by
 unfold Nd;rw[JB];have:KJ (w.map Mj)≤1:=PM λd hd=>by obtain⟨p,_,rfl⟩:=AB.mp hd;unfold Mj;simp only[JB,KJ,Zr];omega
 omega
theorem VU(ws:List (List WP)):JB (.lst (ws.map Nd))≤3:=by
 rw[JB];have:KJ (ws.map Nd)≤2:=PM λd hd=>by obtain⟨p,_,rfl⟩:=AB.mp hd;exact VT p
 omega
open PySem.AutoSeq1 (wpAny_loadPart')
open PySem.MeetsSeq PySem.MeetsSeq2 PySem.MeetsSeq3 PySem.SeqRoads2 PySem.Calls
theorem zhP(l b:Addr)(items items2:Array Value)(n n2:Nat)(dd dd2:Option Addr)(sl sl2:Array (Option Value))(hsz:items.size=items2.size)(k:Nat):
 ∀i:Nat,items.size - i=k→∀(A:BE)(R:Result→Shared→Prop)(s:Shared),s.heap.get? l=some {cls:= .type "list",dict:=dd,data:= .seq items n,slots:=sl}→s.heap.get? b=some {cls:= .type "list",dict:=dd2,data:= .seq items2 n2,slots:=sl2}→
  (∀j(h1:j<items.size)(h2:j<items2.size),EqIn P w A.in1 s items[j] items2[j])→R (.ok (.ret (.bool false))) s→
  wpAny (model P w) A.in1 (Builtin.«list.__eq__.loop» ⟨[.ref l,.ref b,rawInt i,rawInt 3],[]⟩) (λfin s'=>match fin with | .done f=>R (.ok f) s' | .again c'=>c'.quiet=true∧codeAny (model P w) A c' R s') (λe s'=>R (.error e) s') s:=by
 induction k with
 | zero=>
  intro i hk A R s hl hb he h;obtain⟨hp,g,d,tk,os⟩:=s
  wp_walk using AC hl,AC hb
  have o1:items[((i:Nat):Int).toNat]?=none:=by simp;omega
  have o2:items2[((i:Nat):Int).toNat]?=none:=by simp;omega
  rw[o1,o2]
  wp_walk using AC hl,AC hb
  show R (.ok (.ret (.bool (items.size !=items2.size)))) _;rw[hsz];simpa using h
 | succ k ih=>
  intro i hk A R s hl hb he h;obtain⟨hp,g,d,tk,os⟩:=s
  wp_walk using AC hl,AC hb
  have lt1:i<items.size:=by omega
  have KU:i<items2.size:=by omega
  have o1:items[((i:Nat):Int).toNat]?=some items[i]:=by simp[lt1]
  have o2:items2[((i:Nat):Int).toNat]?=some items2[i]:=by simp[KU]
  have hc:((i:Int)+1)=((i+1:Nat):Int):=by push_cast;rfl
  rw[o1,o2];refine Aa (he i lt1 KU _ _ ?_)
  wp_walk
  rw[hc];exact⟨Bj plain_eq_loop _,Bf entry_eq_loop (by rw[AO plain_eq_loop _];exact ih (i+1) (by omega) A R _ hl hb he h)⟩
theorem XE(l b:Addr)(items items2:Array Value)(n n2:Nat)(dd dd2:Option Addr)(sl sl2:Array (Option Value))(hsz:items.size=items2.size)(A:BE)(R:Result→Shared→Prop)(s:Shared)
 (hl:s.heap.get? l=some {cls:= .type "list",dict:=dd,data:= .seq items n,slots:=sl}) (hb:s.heap.get? b=some {cls:= .type "list",dict:=dd2,data:= .seq items2 n2,slots:=sl2})
 (he:∀j(h1:j<items.size)(h2:j<items2.size),EqIn P w A.in1 s items[j] items2[j]) (h:R (.ok (.ret (.bool false))) s):
 wpAny (model P w) A.in1 (Builtin.«list.__ne__» ⟨[.ref l,.ref b],[]⟩) (λfin s'=>match fin with | .done f=>R (.ok f) s' | .again c'=>c'.quiet=true∧codeAny (model P w) A c' R s') (λe s'=>R (.error e) s') s:=by
 obtain⟨hp,g,d,tk,os⟩:=s;have f3:=En;have hne:¬(items.size !=items2.size)=true:=by simp[hsz]
 wp_walk using AC hl,AC hb
 exact⟨Bj plain_eq_loop _,Bf entry_eq_loop (by rw[AO plain_eq_loop _];exact zhP l b items items2 n n2 dd dd2 sl sl2 hsz _ 0 rfl A R _ hl hb he h)⟩
theorem Y5{l:Addr}{items items2:Array Value}{E:Value→Shared→Prop}{Q:Value→Shared→Prop}(hl:s.heap.IsList l items)(hb:s.heap.IsList b items2)(hsz:items.size=items2.size)(hu:A.units<cLine)
 (he:∀j(h1:j<items.size)(h2:j<items2.size),EqIn P w A.in1 s items[j] items2[j]) (h:Q (.bool false) s):wpAny (model P w) A (richCompare .NotEq (.ref l) (.ref b)) Q E s:=by
 obtain⟨⟨c1,dd,data,sl⟩,ho,hc,n,hd⟩:=id hl;obtain⟨⟨c2,dd2,data2,sl2⟩,ho2,hc2,n2,hd2⟩:=id hb;simp only at hc hd hc2 hd2;subst hc hd hc2 hd2;refine BQ (op:= .NotEq) ⟨_,ho,rfl⟩ ⟨_,ho2,rfl⟩ F.slot_list_ne ?_ hu;refine E7 (Di F.slot_list_ne.plain F.entry_list_ne (F.slot_list_ne.check _ _ _ _ _ _ _ _ ⟨_,ho,rfl⟩ (F.args_list_ne_2 _ _) ?_));exact XE l b items items2 n n2 dd dd2 sl sl2 hsz A (wants (λv s'=>v≠ .notImplemented∧Q v s') E) s ho ho2 he (show Value.bool false≠Value.notImplemented∧Q (.bool false) s from⟨(λx=>nomatch x),h⟩)
section
variable{κ:Type}[DecidableEq κ]{knd:KeyKind P w κ}
end
noncomputable def Sh:R2:=λx y H Q=>∃a b xs,x= .ref a∧y= .ref b∧H a=some (.lst xs)∧H b=some (.lst [])∧Q (.bl xs.isEmpty) H
noncomputable def Sd:R2:=λx y H Q=>∃a b xs,x= .ref a∧y= .ref b∧H a=some (.lst xs)∧H b=some (.lst [])∧Q (.bl (!xs.isEmpty)) H
theorem To(hr:KP X):J2 X (BF .Eq) Sh:=by
 intro pins s σ H x y v u Q I rx ry h;obtain⟨a,b,xs,rfl,rfl,ha,hb,q⟩:=h;cases(show v=Value.ref a from rx);cases(show u=Value.ref b from ry);unfold KP at hr;obtain⟨_,its,n,rv,hg⟩:=(show ObjOk X.prog X.w H s.heap a (.lst xs) from I.hok a _ ha);obtain⟨_,its',n',rv',hg'⟩:=(show ObjOk X.prog X.w H s.heap b (.lst []) from I.hok b _ hb);cases rv';cases xs with
 | nil=> cases rv;exact Q9 ⟨_,hg,rfl,_,rfl⟩ ⟨_,hg',rfl,_,rfl⟩ rfl (by omega) (λj k1 k2=>absurd k1 (by simp)) ⟨.bl true,H,I,rfl,q⟩
 | cons x xs=> have l:=rv.length;exact DU (l:=a) (b:=b) ⟨_,hg,rfl,_,rfl⟩ ⟨_,hg',rfl,_,rfl⟩ (by simp;intro z;rw[z] at l;simp at l) (by omega) X.prog X.w _ _ ⟨.bl false,H,I,rfl,q⟩
theorem Tp(hr:KP X):J2 X (BF .NotEq) Sd:=by
 intro pins s σ H x y v u Q I rx ry h;obtain⟨a,b,xs,rfl,rfl,ha,hb,q⟩:=h;cases(show v=Value.ref a from rx);cases(show u=Value.ref b from ry);unfold KP at hr;obtain⟨_,its,n,rv,hg⟩:=(show ObjOk X.prog X.w H s.heap a (.lst xs) from I.hok a _ ha);obtain⟨_,its',n',rv',hg'⟩:=(show ObjOk X.prog X.w H s.heap b (.lst []) from I.hok b _ hb);cases rv';cases xs with
 | nil=> cases rv;exact Y5 ⟨_,hg,rfl,_,rfl⟩ ⟨_,hg',rfl,_,rfl⟩ rfl (by omega) (λj k1 k2=>absurd k1 (by simp)) ⟨.bl false,H,I,rfl,q⟩
 | cons x xs=> have l:=rv.length;exact Fm (l:=a) (b:=b) ⟨_,hg,rfl,_,rfl⟩ ⟨_,hg',rfl,_,rfl⟩ (by simp;intro z;rw[z] at l;simp at l) (by omega) X.prog X.w _ _ ⟨.bl true,H,I,rfl,q⟩
theorem ZF{v:V}{u:TS}{D:Ends}(h:u D (σ.set i (some v)) H):M_ (L3 (tC v) (KI i)) u D σ H:=h
theorem Qv:Bh "abs"=some (.builtin "abs"):=by decide+kernel
noncomputable abbrev wM:Int:=2147483563
structure Well(H:Hp)(b g l:Addr)(n:Int):Prop where
 ex:∃(gs ls:List Int)(sd c:Int),H b=some (.lst [.ref g,.ref l,.int sd,.int c])∧H g=some (.lst (gs.map V.int))∧H l=some (.lst (ls.map V.int))∧
  gs.length≤63∧ls.length≤63∧(∀x∈ls,0≤x∧x<wM)∧0≤sd∧sd<wM∧0≤c∧c≤n
 gl:g≠l
 bg:b≠g
 bl:b≠l
theorem Well.mono{g l:Addr}{n m:Int}(B:Well H b g l n)(h:n≤m):Well H b g l m:=by obtain⟨⟨gs,ls,sd,c,h1,h2,h3,h4,h5,h6,h7,h8,h9,h10⟩,gl,bg,bl⟩:=B;exact⟨⟨gs,ls,sd,c,h1,h2,h3,h4,h5,h6,h7,h8,h9,Int.le_trans h10 h⟩,gl,bg,bl⟩
theorem Well.same{H':Hp}{g l:Addr}{n:Int}(B:Well H b g l n)(h:Same H H'):Well H' b g l n:=by obtain⟨⟨gs,ls,sd,c,h1,h2,h3,h4⟩,gl,bg,bl⟩:=B;exact⟨⟨gs,ls,sd,c,h _ _ h1,h _ _ h2,h _ _ h3,h4⟩,gl,bg,bl⟩
theorem Well.tup{g l:Addr}{n:Int}{H':Hp}(B:Well H b g l n)(s:SameB b g H H')(h:H a=some (.tup xs)):H' a=some (.tup xs):=by obtain⟨gs,ls,c,st,h1,h2,_⟩:=B.ex;exact s a _ h (LD h h1 (by intro z;cases z)) (LD h h2 (by intro z;cases z))
theorem Well.free{g l:Addr}{n:Int}(B:Well H b g l n){p:Addr}(h:H p=none):p≠b∧p≠g∧p≠l:=by obtain⟨gs,ls,c,st,h1,h2,h3,_⟩:=B.ex;exact⟨(JY h1 h).symm,(JY h2 h).symm,(JY h3 h).symm⟩
theorem Well.trk{g l:Addr}{n:Int}(B:Well H b g l n):H b≠none∧H g≠none:=by
 obtain⟨gs,ls,c,st,h1,h2,_⟩:=B.ex;refine⟨?_,?_⟩
 · rw[h1];exact GR _
 · rw[h2];exact GR _
theorem Well.back{H':Hp}{g l:Addr}{n:Int}(B:Well H' b g l n)(s:SameB b g H H'):∀a,H' a=Option.none→H a=Option.none:=λa h=>by
 cases e:H a with
 | none=>rfl
 | some o=> have h1:a≠b:=λz=>B.trk.1 (z ▸ h);have h2:a≠g:=λz=>B.trk.2 (z ▸ h);rw[s a o e h1 h2] at h;cases h
theorem Well.off{g l p:Addr}{n:Int}{o:HO}(B:Well H b g l n)(pb:p≠b)(pg:p≠g)(pl:p≠l):Well (IC H p o) b g l n:=by obtain⟨gs,ls,c,st,e1,e2,e3,r⟩:=B.ex;exact⟨⟨gs,ls,c,st,by rw[IZ pb.symm];exact e1,by rw[IZ pg.symm];exact e2,by rw[IZ pl.symm];exact e3,r⟩,B.gl,B.bg,B.bl⟩
theorem WishAt.sameW{H':Hp}{g l:Addr}{n:Int}{w:List WP}(h:WishAt H a w)(B:Well H b g l n)(s:SameB b g H H'):WishAt H' a w:=h.keep λ_ _ e=>B.tup s e
theorem Mr{m:Int}(h:m≤10^6):m<2^500:=Int.lt_of_le_of_lt h (by decide)
noncomputable def TF(K:Ae):Sp:=λvs H Q _=>∃(a:Addr)(ns:List Int),vs=[.ref a]∧SqL K H a (ns.map V.int)∧ns.length≤63∧
 ∀(b g l:Addr)(H':Hp),Well H' b g l 0→Same H H'→H b=none→H g=none→Q (.ref b) H'
noncomputable def TD:Sp:=λvs H Q _=>∃(b g l:Addr)(n many:Int),vs=[.ref b,.int many]∧Well H b g l n∧n≤2^40∧0<many∧many<2^500∧
 ∀(r:Int)(H':Hp),0≤r→r<many→Well H' b g l (n+1)→SameB b g H H'→Q (.int r) H'
noncomputable def Tv:Sp:=λvs H Q _=>∃(b g l:Addr)(n most:Int),vs=[.ref b,.int most]∧Well H b g l n∧n≤10^8∧1≤most∧most≤8∧
 ∀(x:Str)(H':Hp),FieldOk x→Well H' b g l (n+12)→SameB b g H H'→Q (.str x) H'
noncomputable def V4:Sp:=λvs H Q _=>∃(b g l:Addr)(n many:Int),vs=[.ref b,.int many]∧Well H b g l n∧n≤10^7∧1≤many∧many≤6∧
 ∀(r:Addr)(fs:List Str)(H':Hp),H r=none→H' r=some (.lst (fs.map V.str))→fs.Pairwise Jq→(∀f∈fs,FieldOk f)→1≤fs.length→(fs.length:Int)≤many→Well H' b g l (n+200)→SameB b g H H'→Q (.ref r) H'
noncomputable def TR:Sp:=λvs H Q _=>∃(b g l:Addr)(n:Int),vs=[.ref b]∧Well H b g l n∧n≤10^9∧∀(r:Int)(H':Hp), -(10^15)<r→r<10^15→Well H' b g l (n+5)→SameB b g H H'→Q (.int r) H'
noncomputable def TU:Sp:=λvs H Q _=>∃(b g l:Addr)(n:Int),vs=[.ref b]∧Well H b g l n∧n≤10^8∧
 ∀(t:Addr)(lo sz:Int)(H':Hp),H' t=some (.tup [.int lo,.int sz])→ -(10^15)<lo→lo<10^15→1≤sz→sz≤10^10→Well H' b g l (n+12)→SameB b g H H'→Q (.ref t) H'
noncomputable def Nb(fs:List Str)(w:List WP):Prop:=∀p∈w,p.1∈fs
structure NamesAt(H:Hp)(b g:Addr)(a:Addr)(fs:List Str):Prop where
 at':H a=some (.lst (fs.map V.str))
 nb:a≠b
 ng:a≠g
 len:fs.length≤6
 ok:∀f∈fs,FieldOk f
 asc:fs.Pairwise Jq
theorem NamesAt.sameB{H':Hp}{g:Addr}{fs:List Str}(h:NamesAt H b g a fs)(s:SameB b g H H'):NamesAt H' b g a fs:=⟨s _ _ h.at' h.nb h.ng,h.nb,h.ng,h.len,h.ok,h.asc⟩
noncomputable def Y0:V→Option Int→Option Int→Hp→VK→Prop:=λx lo hi H Q=>∃y:Str,x= .str y∧y.length≤100000∧∀z:Str,z.length≤y.length→(∀j,hi=some j→0≤j→(z.length:Int)≤j)→(∀c∈z.cps.toList,c∈y.cps.toList)→(∀j,lo=none→hi=some j→1≤j→1≤y.length→1≤z.length)→Q (.str z) H
theorem zjo(lo hi:Option Int)(n:Nat):(Ba lo hi 1 n).length≤n∧(∀j,hi=some j→0≤j→((Ba lo hi 1 n).length:Int)≤j)∧(∀j,lo=none→hi=some j→1≤j→1≤n→0∈Ba lo hi 1 n):=by
 refine⟨indices_len_le lo hi n,λj e h0=>?_,λj e1 e2 h1 h2=>?_⟩
 · subst e;unfold Ba sliceRange;cases lo<;>simp only[show(1:Int)>0 by decide,if_true,Ab,Df]<;>(split<;>(try split)<;>(try split)<;>(try simp only[Int.ediv_one])<;>omega)
 · subst e1 e2;unfold Ba sliceRange;simp only[show(1:Int)>0 by decide,if_true];refine AB.mpr ⟨0,CK.mpr ?_,?_⟩
   · have:¬j<0:=by omega
     simp only[this,if_false,Int.ediv_one]
     split<;>omega
   · simp
theorem QB:NL X Y0:=by
 intro pins s σ H x v vl vu lo hi sl Q I rx hs pl pu h;obtain⟨y,rfl,hl,q⟩:=h;obtain⟨t,rfl⟩:=(show ∃t,v=Value.str y t from rx);obtain⟨l,el,e1⟩:∃l:Option (Int×Tok),vl=partValue l∧l.map (·.1)=lo:=by
  cases pl with
  | none=>exact⟨none,rfl,rfl⟩
  | int i t=>exact⟨some (i,t),rfl,rfl⟩
 obtain⟨u,eu,e2⟩:∃l:Option (Int×Tok),vu=partValue l∧l.map (·.1)=hi:=by
  cases pu with
  | none=>exact⟨none,rfl,rfl⟩
  | int i t=>exact⟨some (i,t),rfl,rfl⟩
 have hS:s.heap.IsSlice sl l u none:=by obtain⟨o,h1,h2,h3⟩:=hs;exact⟨o,h1,h2,by rw[h3,el,eu];rfl⟩
 have pk:slicePicked y l u none=Ba lo hi 1 y.length:=by unfold slicePicked;rw[e1,e2];rfl
 obtain⟨p1,p2,p3⟩:=zjo lo hi y.length;have hsz:(100000:Nat)≤Ay:=by decide
 refine⟨"str",_,F.slot_str_getitem.lookup,typeIs_str s y t,?_⟩;refine getItem_meets (typeIs_str s y t) (by decide) F.slot_str_getitem F.entry_str_getitem (F.args_str_getitem_2 _ _) (meets_str_getitem_slice y t sl l u none rfl) ⟨hS,?_⟩;unfold sliceMade;rw[pk]
 split
 · rename_i hc;have hc:(Ba lo hi 1 y.length).length=y.length:=by simpa using hc
   exact⟨.str y,H,I,⟨t,rfl⟩,q y (Ah _) (λj e h0=>by have:=p2 j e h0;omega) (λc hc=>hc) λ_ _ _ _ z=>z⟩
 · have hz:(⟨((Ba lo hi 1 y.length).filterMap (y.cps[·]?)).toArray⟩:Str).length≤(Ba lo hi 1 y.length).length:=by
    show(List.filterMap _ _).toArray.size≤_;rw[Av];exact List.length_filterMap_le _ _
   refine⟨by omega,⟨.str _,H,I.tok _,⟨_,rfl⟩,q _ (by omega) (λj e h0=>by have:=p2 j e h0;omega) (λc hc=>?_) λj f1 f2 f3 f4=>?_⟩⟩
   · have hc:c∈(Ba lo hi 1 y.length).filterMap (y.cps[·]?):=by simpa using hc
     obtain⟨i,_,hi'⟩:=DQ.mp hc;exact Array.mem_toList_iff.mpr (Array.mem_of_getElem? hi')
   · have m0:=p3 j f1 f2 f3 f4;show 1≤(List.filterMap _ _).toArray.size;rw[Av];have h0:0<y.cps.size:=f4;have:y.cps[0]'h0∈(Ba lo hi 1 y.length).filterMap (y.cps[·]?):=DQ.mpr ⟨0,m0,by simp[h0]⟩;exact Er this
theorem Yu{tg:Expr}(K:Ae)(h:X.K=K){l:Expr}{tl:TE}(hl:PE X l tl)(hc:X.calm=true:=by rfl):PI X tg l (OK K tl):=by subst h;exact KQ hl
theorem Vi{tg:Expr}(K:Ae)(h:X.K=K){l:Expr}{tl:TE}(hl:PE X l tl)(hc:X.calm=true:=by rfl):PI X tg l (S_ K tl):=by subst h;exact JO hl
theorem zfZ(elt t0 i0 t1 i1:Expr)(f0 f1:List Expr)(scope:Scope)(pos:Pos)(it acc:Value)(env:Env):
 compTurn (.ListComp elt [⟨t0,i0,f0,0⟩,⟨t1,i1,f1,0⟩] scope pos) 0 it acc env=(do
  standAt i0.pos
  match ←pyNext it with
  | none=>pure (.done .next)
  | some v=>
   BO t0 it v
   assign t0 env v
   let mut ok:=true
   for c in f0 do
    if ok then ok ←isTrue c env (eval c env)
   if ok then
    let x ←eval i1 env
    standAt i1.pos
    let x ←Bc i1 env x
    let _ ←runOwn (.compStart (.ListComp elt [⟨t0,i0,f0,0⟩,⟨t1,i1,f1,0⟩] scope pos) 1 (←holding [x] (pyIter x)) acc env) env
   again (.compLoop (.ListComp elt [⟨t0,i0,f0,0⟩,⟨t1,i1,f1,0⟩] scope pos) 0 it acc env)):=by rfl
theorem zfY(elt t0 i0 t1 i1:Expr)(f0 f1:List Expr)(scope:Scope)(pos:Pos)(it acc:Value)(env:Env):
 compTurn (.ListComp elt [⟨t0,i0,f0,0⟩,⟨t1,i1,f1,0⟩] scope pos) 1 it acc env=(do
  standAt i1.pos
  match ←pyNext it with
  | none=>pure (.done .next)
  | some v=>
   BO t1 it v
   assign t1 env v
   let mut ok:=true
   for c in f1 do
    if ok then ok ←isTrue c env (eval c env)
   if ok then
    (do let _ ←call (.builtin "list.append") [acc,←eval elt env])
   again (.compLoop (.ListComp elt [⟨t0,i0,f0,0⟩,⟨t1,i1,f1,0⟩] scope pos) 1 it acc env)):=by rfl
section
variable{R:Result→Shared→Prop}
variable{elt t0 i0 t1 i1:Expr}{f0 f1:List Expr}{it acc:Value}{env:Env}
theorem zf0(I:Nat→Shared→Prop)
 (turn:∀n s,I n s→wpAny (model prog w) A (pyNext it) (λr s₁=>match r with
  | none=>R (.ok .next) s₁
  | some v=>wpAny (model prog w) A (BO t1 it v) (λ_ s₁'=>wpAny (model prog w) A (assign t1 env v) (λ_ s₂=>
   wpAny (model prog w) A (forIn f1 true λc r=>if r=true then do let ok ←isTrue c env (eval c env);pure (ForInStep.yield ok) else pure (ForInStep.yield r)) (λok s₃=>
    if ok=true then wpAny (model prog w) A (eval elt env) (λx s₄=> wpAny (model prog w) A (call (.builtin "list.append") [acc,x]) (λ_ s₅=>∃m,m<n∧I m s₅) (λ_ _=>False) s₄) (λ_ _=>False) s₃
    else ∃m,m<n∧I m s₃) (λ_ _=>False) s₂) (λ_ _=>False) s₁') (λ_ _=>False) s₁) (λ_ _=>False) s)
 (n:Nat) (h:I n s):
 codeAny (model prog w) A (.compLoop (.ListComp elt [⟨t0,i0,f0,0⟩,⟨t1,i1,f1,0⟩] scope pos) 1 it acc env) R s:=by
 refine DT rfl I (λn s hI=>?_) n h;show wpAny _ A ((compTurn (.ListComp elt [⟨t0,i0,f0,0⟩,⟨t1,i1,f1,0⟩] scope pos) 1 it acc env).onRaise (λx=>do noteFrame x env;theTreesLotGoes x)) _ _ s
 refine Em ?_;rw[zfY];refine Aa (Bz (Aa (A5 (turn n s hI) (λr s₁ h₁=>?_) λ_ _ h'=>h'.elim)));cases r with
 | none=>exact Ac h₁
 | some v=>
  refine Aa (A5 h₁ (λ_ s₁' h₁'=>?_) λ_ _ h'=>h'.elim);refine Aa (A5 h₁' (λ_ s₂ h₂=>Aa (A5 h₂ (λok s₃ h₃=>?_) λ_ _ h'=>h'.elim)) λ_ _ h'=>h'.elim);cases ok with
  | false=>exact Ac ⟨rfl,h₃⟩
  | true=> exact Aa (Aa (A5 h₃ (λx s₄ h₄=>Aa (A5 h₄ (λ_ s₅ h₅=>Ac (Ac ⟨rfl,h₅⟩)) λ_ _ h'=>h'.elim)) λ_ _ h'=>h'.elim))
theorem zf1(hs:∀x,Bc i1 env x=pure x)(I:Nat→Shared→Prop)
 (turn:∀n s,I n s→wpAny (model prog w) A (pyNext it) (λr s₁=>match r with
  | none=>R (.ok .next) s₁
  | some v=>wpAny (model prog w) A (BO t0 it v) (λ_ s₁'=>wpAny (model prog w) A (assign t0 env v) (λ_ s₂=>
   wpAny (model prog w) A (forIn f0 true λc r=>if r=true then do let ok ←isTrue c env (eval c env);pure (ForInStep.yield ok) else pure (ForInStep.yield r)) (λok s₃=>
    if ok=true then wpAny (model prog w) A (eval i1 env) (λx s₄=>wpAny (model prog w) A (pyIter x) (λj s₅=> codeAny (model prog w) A (.compStart (.ListComp elt [⟨t0,i0,f0,0⟩,⟨t1,i1,f1,0⟩] scope pos) 1 j acc env) (λr s₆=>r= .ok .next∧∃m,m<n∧I m s₆) s₅) (λ_ _=>False) s₄) (λ_ _=>False) s₃
    else ∃m,m<n∧I m s₃) (λ_ _=>False) s₂) (λ_ _=>False) s₁') (λ_ _=>False) s₁) (λ_ _=>False) s)
 (n:Nat) (h:I n s):
 codeAny (model prog w) A (.compLoop (.ListComp elt [⟨t0,i0,f0,0⟩,⟨t1,i1,f1,0⟩] scope pos) 0 it acc env) R s:=by
 refine DT rfl I (λn s hI=>?_) n h;show wpAny _ A ((compTurn (.ListComp elt [⟨t0,i0,f0,0⟩,⟨t1,i1,f1,0⟩] scope pos) 0 it acc env).onRaise (λx=>do noteFrame x env;theTreesLotGoes x)) _ _ s
 refine Em ?_;rw[zfZ];refine Aa (Bz (Aa (A5 (turn n s hI) (λr s₁ h₁=>?_) λ_ _ h'=>h'.elim)));cases r with
 | none=>exact Ac h₁
 | some v=>
  refine Aa (A5 h₁ (λ_ s₁' h₁'=>?_) λ_ _ h'=>h'.elim);refine Aa (A5 h₁' (λ_ s₂ h₂=>Aa (A5 h₂ (λok s₃ h₃=>?_) λ_ _ h'=>h'.elim)) λ_ _ h'=>h'.elim);cases ok with
  | false=>exact Ac ⟨rfl,h₃⟩
  | true=> refine Aa (A5 h₃ (λx s₄ h₄=>?_) λ_ _ h'=>h'.elim);refine Aa (Bz ?_);rw[hs];refine Aa (Ac ?_);refine Aa (AN (A5 h₄ (λj s₅ h₅=>?_) λ_ _ h'=>h'.elim));refine Aa (wpAny_runOwn (Cg h₅ λr s₆ h₆=>?_));obtain⟨rfl,h₆⟩:=h₆;exact Ac ⟨rfl,h₆⟩
theorem ze5(h0:codeAny (model prog w) A (.compLoop (.ListComp elt [⟨t0,i0,f0,0⟩,⟨t1,i1,f1,0⟩] scope pos) 1 it acc env) R s)
 (h:wpAny (model prog w) A (pyIter it) (λit' s'=>codeAny (model prog w) A (.compLoop (.ListComp elt [⟨t0,i0,f0,0⟩,⟨t1,i1,f1,0⟩] scope pos) 1 it' acc env) R s')
  (notedBy (model prog w) A env λx s'=>R (.error x) s') s):
 codeAny (model prog w) A (.compStart (.ListComp elt [⟨t0,i0,f0,0⟩,⟨t1,i1,f1,0⟩] scope pos) 1 it acc env) R s:=by
 refine Gf ?_;show wpAny _ _ ((Cj (.ListComp elt [⟨t0,i0,f0,0⟩,⟨t1,i1,f1,0⟩] scope pos) 1 it acc env).onRaise (λx=>do noteFrame x env;standAt theWindowsPlace)) _ _ s
 refine wpAny_notedAt ?_;unfold Cj;show wpAny _ _ (ask>>=_) _ _ s;refine Aa (Dm (wpAny_ite ?_))
 split
 · first
    | exact Aa (Ac (Ac (And.intro rfl h0)))
    | exact Ac (And.intro rfl h0)
 · first
    | exact Aa (BA (Aa (Bz (Aa (A5 h (λit' s' h'=>Ac (And.intro rfl h')) λ_ _ x=>x)))))
    | (refine Aa (BA ?_);show wpAny _ _ (standAt i1.pos>>=_) _ _ s;exact Aa (Bz (Aa (A5 h (λit' s' h'=>Ac (And.intro rfl h')) λ_ _ x=>x))))
end
noncomputable def Tb(J:It)(p:Addr)(g:TG)(tc:TT)(te:TE)(σ:St)(ys:List V)(H:Hp)(M:St→List V→Hp→Prop):Prop:=
 ∃W:Nat→Nat→St→List V→Hp→Prop,(∃m,W 0 m σ ys H)∧∀i m σ' zs H,W i m σ' zs H→H p=some (.lst zs)∧
  ((J.stop i H∧M σ' zs H)∨(J.go i H∧zs.length<Ay∧∀x H',J.yld i H x H'→g x σ' H' λσ2 H2=>tc σ2 H2 λb H3=>
    if b=true then te σ2 H3 λy H4=>H4 p=some (.lst zs)∧∃m',m'<m∧W (i+1) m' σ2 (zs++[y]) (IC H4 p (.lst (zs++[y])))
    else ∃m',m'<m∧W (i+1) m' σ2 zs H3))
noncomputable def Q3(J:It)(p:Addr)(js:J5)(g:TG)(tc:TT)(wi1:TI)(g1:TG)(tc1:TT)(te:TE)(σ:St)(H:Hp)(Q:VK):Prop:=
 ∃W:Nat→Nat→St→List V→Hp→Prop,(∃m,W 0 m (Kf js σ) [] (IC H p (.lst [])))∧∀i m σ' ys H,W i m σ' ys H→H p=some (.lst ys)∧
  ((J.stop i H∧Q (.ref p) H)∨(J.go i H∧∀x H',J.yld i H x H'→g x σ' H' λσ2 H2=>tc σ2 H2 λb H3=>
    if b=true then wi1 σ2 H3 λJ1 H4=>Tb J1 p g1 tc1 te σ2 ys H4 λσ3 zs H5=>∃m',m'<m∧W (i+1) m' σ3 zs H5
    else ∃m',m'<m∧W (i+1) m' σ2 ys H3))
noncomputable def RS(wi:TI)(js:J5)(g:TG)(tc:TT)(wi1:TI)(g1:TG)(tc1:TT)(te:TE):TE:=λσ H Q=>wi σ H λJ H1=>∀p,H1 p=none→Q3 J p js g tc wi1 g1 tc1 te σ H1 Q
theorem YU{X:Cx}{elt t0 i0 t1 i1:Expr}{f0 f1:List Expr}{scope:Scope}{pos:Pos}{g1:TG}{tc1:TT}{te:TE}{pins:List (Addr×Obj)}{σ:St}{H:Hp}{s:Shared}{p:Addr}{ys:List V}{J:It}{it:Addr}{fp:List Addr}{tn:Nat→Heap→Prop}{M:St→List V→Hp→Prop}
 (hc:X.calm=true) (hx:X.xe=λ_ _=>False) (hg:PG X t1 g1) (ht:Jj X f1 tc1) (he:PE X elt te) (I:Inv X pins σ H s) (T:Turn X.prog X.w X.K t1 J fp it tn) (st:tn 0 s.heap) (hf:∀b∈fp,IJ X pins H b) (hw:Tb J p g1 tc1 te σ ys H M):
 codeAny (model X.prog X.w) X.A (.compStart (.ListComp elt [⟨t0,i0,f0,0⟩,⟨t1,i1,f1,0⟩] scope pos) 1 (.ref it) (.ref p) X.env) (λr s'=>r= .ok .next∧∃σ' zs H',Inv X pins σ' H' s'∧M σ' zs H') s:=by
 obtain⟨W,⟨m0,w0⟩,turn⟩:=hw;have stat:∀{H':Hp},(∀b∈fp,H' b=none)→∀b∈fp,IJ X pins H' b:=λhn b hb=>⟨hn b hb,(hf b hb).2⟩;have loop:codeAny (model X.prog X.w) X.A (.compLoop (.ListComp elt [⟨t0,i0,f0,0⟩,⟨t1,i1,f1,0⟩] scope pos) 1 (.ref it) (.ref p) X.env) (λr s'=>r= .ok .next∧∃σ' zs H',Inv X pins σ' H' s'∧M σ' zs H') s:=by
  refine zf0 (λn s'=>∃i σ' ys H',Inv X pins σ' H' s'∧tn i s'.heap∧(∀b∈fp,H' b=none)∧W i n σ' ys H') ?_ m0 ⟨0,σ,ys,H,I,st,λb hb=>(hf b hb).1,w0⟩;rintro n s5 ⟨i,σ5,zs,H5,I5,st5,fr5,w5⟩;obtain⟨hp5,tu⟩:=turn i n σ5 zs H5 w5;rcases tu with⟨stop,qn⟩ | ⟨go,hz,step⟩
  · refine IG (T.done X rfl rfl rfl hc i pins s5 σ5 H5 (λ_ _=>False) I5 (stat fr5) st5 stop) λr s6 ⟨hr,I6⟩=>?_;subst hr;exact⟨rfl,σ5,zs,H5,I6,qn⟩
  · refine IG (T.item X rfl rfl rfl hc i pins s5 σ5 H5 (λ_ _=>False) I5 (stat fr5) st5 go) λr s6 ⟨u,hr,h6⟩=>?_;subst hr;refine IG h6 λ_ s7 ⟨x,H7,I7,r7,y7,st7,fr7⟩=>?_;have I7':=I7.pinned (stat fr7) (T.obj _ _ st7);have G:=hg _ s7 σ5 H7 x u _ I7' r7 (step x H7 y7);rw[hx] at G;refine IG G λ_ s8 ⟨σ8,H8,I8,q8⟩=>?_;have Tt:=ht _ s8 σ8 H8 _ I8 q8;rw[hx] at Tt;refine IG Tt λb s9 ⟨H9,I9,q9⟩=>?_;have again:∀{s':Shared}{ys':List V}{H':Hp},Inv X (pins++Ki fp s7.heap) σ8 H' s'→(∃m',m'<n∧W (i+1) m' σ8 ys' H')→
     ∃m,m<n∧∃i σ' ys H',Inv X pins σ' H' s'∧tn i s'.heap∧(∀b∈fp,H' b=none)∧W i m σ' ys H':=λ{s' ys' H'}I' ⟨m',hm,w'⟩=>by
     refine⟨m',hm,i+1,σ8,ys',H',I'.unpinned,T.keep _ _ _ st7 λb hb o e=>(I'.pin (b,o) (Ai _ (Ai _ (K9 hb e)))).1,λb hb=>?_,w'⟩;obtain⟨o,e,d⟩:=T.obj _ _ st7 b hb;exact(I'.pin (b,o) (Ai _ (Ai _ (K9 hb e)))).2.1
    cases b with
    | false=>exact again I9 q9
    | true=> have Ee:=he _ s9 σ8 H9 _ I9 q9;rw[hx] at Ee;show wpAny _ _ _ _ _ _;refine IG Ee λxv s10 ⟨y,H10,I10,r10,hp10,q10⟩=>?_;have Ap:=LY (X:=X) _ s10 σ8 H10 (.ref p) [y] (.ref p) [xv] (λ_ H'=>H'=IC H10 p (.lst (zs++[y]))) I10 rfl (.cons r10 .nil) ⟨p,zs,y,rfl,rfl,hp10,hz,rfl⟩;rw[hx] at Ap;refine IG Ap λ_ s11 ⟨_,H11,I11,_,e11⟩=>?_;subst e11;exact again I11 q10
 exact ze5 loop (T.self _ 0 _ _ _ st loop)
section
variable{tg iter tg1 iter1 elt:Expr}{ifs ifs1:List Expr}{wi wi1:TI}{js:J5}{g g1:TG}{tc tc1:TT}{te:TE}{N':List Str}
theorem zkY{pins:List (Addr×Obj)}{σ:St}{H:Hp}{s:Shared}{E:Value→Shared→Prop}{Q:VK}{J:It}{it:Addr}{fp:List Addr}{tn:Nat→Heap→Prop}{cl:List (Str×Addr)}
 (hc:X.calm=true) (ok:CapOk X N' js scope) (hs1:∀(e:Env)x,Bc iter1 e x=pure x)
 (h2:∀x c,cl.lookup x=some c→X.env.cells.lookup x=some c) (h3:∀p∈scope.names,p.2= .free→(cl.lookup p.1).isSome=true)
 (hg:∀cl C s₀ H₀ ex,PG (Jh X N' scope cl C s₀ H₀ ex) tg g) (ht:∀cl C s₀ H₀ ex,Jj (Jh X N' scope cl C s₀ H₀ ex) ifs tc) (hi1:∀cl C s₀ H₀ ex,PI (Jh X N' scope cl C s₀ H₀ ex) tg1 iter1 wi1) (hg1:∀cl C s₀ H₀ ex,PG (Jh X N' scope cl C s₀ H₀ ex) tg1 g1) (ht1:∀cl C s₀ H₀ ex,Jj (Jh X N' scope cl C s₀ H₀ ex) ifs1 tc1) (he:∀cl C s₀ H₀ ex,PE (Jh X N' scope cl C s₀ H₀ ex) elt te)
 (I:Inv X pins σ H s) (T:Turn X.prog X.w X.K tg J fp it tn) (st:tn 0 s.heap) (hf:∀b∈fp,IJ X pins H b)
 (hw:∀p,H p=none→Q3 J p js g tc wi1 g1 tc1 te σ H Q):
 wpAny (model X.prog X.w) X.A (newList []) (λacc s₃=>wpAny (model X.prog X.w) X.A (newFunctionEnv scope X.env.globals cl [] X.env.qual none .none (some X.env)) (λcenv s₄=>
  codeAny (model X.prog X.w) X.A (.compStart (.ListComp elt [⟨tg,iter,ifs,0⟩,⟨tg1,iter1,ifs1,0⟩] scope pos) 0 (.ref it) acc {cenv with scope:=relabel scope X.env})
   (λr s'=>r= .ok .next∧(∃m,s'.heap.Ns cenv.locals m)∧∃v H',RelV v acc∧Inv X pins σ H' s'∧IJ X pins H' cenv.locals∧Q v H') s₄) E s₃) E s:=by
 have objs:=T.obj _ _ st;refine AM ?_ (by show 0≤Ay;decide);obtain⟨W,⟨m0,w0⟩,turn⟩:=hw s.heap.objs.size (I.hok.fresh (Ah _));generalize hp:s.heap.objs.size=p at*;have kp:∀b u,s.heap.get? b=some u→(s.heap.push {cls:= .type "list",dict:=none,data:= .seq ([]:List Value).toArray}).get? b=some u:=λb u e=>Ad _ e;have I3:Inv X pins σ (IC H p (.lst [])) {s with heap:=s.heap.push {cls:= .type "list",dict:=none,data:= .seq ([]:List Value).toArray}}:=by refine I.laid (t':=s.toks) kp (by rw[hp];exact Ah _) ⟨AK _,[],0,.nil,?_⟩;have:=Ak s.heap (o:={cls:= .type "list",dict:=none,data:= .seq ([]:List Value).toArray}) rfl;rw[hp] at this;exact this
 have fne:∀b∈fp,b≠p:=λb hb=>by obtain⟨o,e,_⟩:=objs b hb;have:=Am e;rw[←hp];exact Ar this
 have hf3:∀b∈fp,IJ X pins (IC H p (.lst [])) b:=λb hb=>⟨by rw[IZ (fne b hb)];exact(hf b hb).1,(hf b hb).2⟩;have st3:tn 0 (s.heap.push {cls:= .type "list",dict:=none,data:= .seq ([]:List Value).toArray}):=T.keep _ _ _ st λb _ o e=>kp b o e;have lt3:∀b∈fp,b<(s.heap.push {cls:= .type "list",dict:=none,data:= .seq ([]:List Value).toArray}).objs.size:=λb hb=>by obtain⟨o,e,_⟩:=objs b hb;exact Am (kp b o e)
 generalize hs3:({s with heap:=s.heap.push {cls:= .type "list",dict:=none,data:= .seq ([]:List Value).toArray}}:Shared)=s3 at*
 have eh:s.heap.push {cls:= .type "list",dict:=none,data:= .seq ([]:List Value).toArray}=s3.heap:=by rw[←hs3]
 rw[eh] at st3 lt3;refine Oo ok.cells λcl h₁ hns₁ k4 oc=>?_;have I4:=Oh (cl:=cl) (h₁:=h₁) (t':=s3.toks+([]:List (Str×Value)).length) ok I3 h2 h3 hf3 lt3 k4 hns₁ oc;have st4:tn 0 h₁:=T.keep _ _ _ st3 λb _ o e=>k4 b o e;generalize hX:Jh X N' scope cl s3.heap.objs.size s3 (IC H p (.lst [])) fp=X' at I4;have hg':PG X' tg g:=by rw[←hX];exact hg _ _ _ _ _
 have ht':Jj X' ifs tc:=by rw[←hX];exact ht _ _ _ _ _
 have he':PE X' elt te:=by rw[←hX];exact he _ _ _ _ _
 have hi1':PI X' tg1 iter1 wi1:=by rw[←hX];exact hi1 _ _ _ _ _
 have hg1':PG X' tg1 g1:=by rw[←hX];exact hg1 _ _ _ _ _
 have ht1':Jj X' ifs1 tc1:=by rw[←hX];exact ht1 _ _ _ _ _
 have hs1':∀x,Bc iter1 (compEnvC scope cl s3.heap.objs.size X.env) x=pure x:=hs1 _;have eP:X'.prog=X.prog:=by rw[←hX];rfl
 have ew:X'.w=X.w:=by rw[←hX];rfl
 have eK:X'.K=X.K:=by rw[←hX];rfl
 have ec:X'.calm=true:=by rw[←hX];exact hc
 have eA:X'.A=X.A:=by rw[←hX];rfl
 have ex:X'.xe=λ_ _=>False:=by rw[←hX];rfl
 have eE:X'.env=compEnvC scope cl s3.heap.objs.size X.env:=by rw[←hX];rfl
 have eEx:X'.ex=fp:=by rw[←hX];rfl
 have eN:X'.pn=[]:=by rw[←hX];rfl
 have stat:∀{H':Hp},(∀b∈fp,H' b=none)→∀b∈fp,IJ X' [] H' b:=λ{H'}hn b hb=>by have okc:=I4.ok;refine⟨hn b hb,(okc.exf b (by rw[eEx];exact hb)).1,okc.exfs b (by rw[eEx];exact hb),.inl (by rw[eEx];exact hb),(okc.exf b (by rw[eEx];exact hb)).2,λq hq=>?_⟩;rw[eN] at hq;cases hq
 have loop:∀s₄:Shared,s₄={s3 with heap:=h₁,toks:=s3.toks+([]:List (Str×Value)).length}→
  codeAny (model X.prog X.w) X.A (.compLoop (.ListComp elt [⟨tg,iter,ifs,0⟩,⟨tg1,iter1,ifs1,0⟩] scope pos) 0 (.ref it) (.ref p) (compEnvC scope cl s3.heap.objs.size X.env))
   (λr s'=>r= .ok .next∧(∃m,s'.heap.Ns s3.heap.objs.size m)∧∃v H',RelV v (.ref p)∧Inv X pins σ H' s'∧IJ X pins H' s3.heap.objs.size∧Q v H') s₄:=by
  rintro s₄ rfl;refine zf1 hs1' (λn s'=>∃i σ' ys H',Inv X' [] σ' H' s'∧tn i s'.heap∧(∀b∈fp,H' b=none)∧W i n σ' ys H') ?_ m0 ⟨0,_,[],_,I4,st4,λb hb=>(hf3 b hb).1,w0⟩;rintro n s5 ⟨i,σ5,ys,H5,I5,st5,fr5,w5⟩;obtain⟨hp5,tu⟩:=turn i n σ5 ys H5 w5;rcases tu with⟨stop,qn⟩ | ⟨go,step⟩
  · have D:=T.done X' eP ew eK ec i [] s5 σ5 H5 (λ_ _=>False) I5 (stat fr5) st5 stop;rw[eA] at D;refine IG D λr s6 ⟨hr,I6⟩=>?_;subst hr;refine⟨rfl,?_,.ref p,H5,rfl,?_,?_,qn⟩
    · obtain⟨m,hm,_⟩:=I6.loc;rw[eE] at hm;exact⟨m,hm⟩
    · have b6:=I6.base;have ho:=I6.os;have hk:=I6.hok;have hb:=I6.bare;subst hX;exact I3.call' (ch:=fp) ho b6 hk hb λb hb'=>⟨(hf b hb').2.2.2.1,(hf b hb').2.1,(hf b hb').2.2.2.2.1,(hf b hb').2.2.2.2.2⟩
    · have fr:=I6.free;rw[eE] at fr;exact I3.fpOk (Ah _) fr
  · have D:=T.item X' eP ew eK ec i [] s5 σ5 H5 (λ_ _=>False) I5 (stat fr5) st5 go;rw[eA] at D;refine IG D λr s6 ⟨u,hr,h6⟩=>?_;subst hr;refine IG h6 λ_ s7 ⟨x,H7,I7,r7,y7,st7,fr7⟩=>?_;have I7':=I7.pinned (stat fr7) (T.obj _ _ st7);have G:=hg' _ s7 σ5 H7 x u _ I7' r7 (step x H7 y7);rw[eP,ew,eA,ex,eE] at G;refine IG G λ_ s8 ⟨σ8,H8,I8,q8⟩=>?_;have Tt:=ht' _ s8 σ8 H8 _ I8 q8;rw[eP,ew,eA,ex,eE] at Tt;refine IG Tt λb s9 ⟨H9,I9,q9⟩=>?_;have again:∀{s':Shared}{σ8:St}{ys':List V}{H':Hp},Inv X' ([]++Ki fp s7.heap) σ8 H' s'→(∃m',m'<n∧W (i+1) m' σ8 ys' H')→
     ∃m,m<n∧∃i σ' ys H',Inv X' [] σ' H' s'∧tn i s'.heap∧(∀b∈fp,H' b=none)∧W i m σ' ys H':=λ{s' σ8 ys' H'}I' ⟨m',hm,w'⟩=>by
     refine⟨m',hm,i+1,σ8,ys',H',I'.unpinned,T.keep _ _ _ st7 λb hb o e=>(I'.pin (b,o) (Ai _ (Ai _ (K9 hb e)))).1,λb hb=>?_,w'⟩;obtain⟨o,e,d⟩:=T.obj _ _ st7 b hb;exact(I'.pin (b,o) (Ai _ (Ai _ (K9 hb e)))).2.1
    cases b with
    | false=>exact again I9 q9
    | true=> have Ei:=hi1' _ s9 σ8 H9 _ I9 q9;rw[eP,ew,eA,ex,eE] at Ei;show wpAny _ _ _ _ _ _;refine IG Ei λxv s10 h10=>IG h10 λitv s11 h11=>?_;obtain⟨it1,fp1,tn1,J1,H11,e11,I11,T1,st11,f11,hw11⟩:=h11;subst e11;have In:=YU (X:=X') (elt:=elt) (t0:=tg) (i0:=iter) (t1:=tg1) (i1:=iter1) (f0:=ifs) (f1:=ifs1) (scope:=scope) (pos:=pos) ec ex hg1' ht1' he' I11 T1 st11 f11 hw11;rw[eP,ew,eA,eE] at In;refine Cg In λr s12 ⟨hr,σ12,zs,H12,I12,m12⟩=>⟨hr,?_⟩;exact again I12 m12
 exact Go (loop _ rfl) (T.self _ 0 _ _ _ st4 (loop _ rfl))
theorem zky{px:Pos}{spos:Pos}(hN:X.N.Nodup)(hi':X.N[i]?=some x)(hx:NM X.env.scope x)(hc:X.calm=true)(ok:CapOk X N' js scope)(hi:PI X tg iter wi)
 (hg:∀cl C s₀ H₀ ex,PG (Jh X N' scope cl C s₀ H₀ ex) tg g) (ht:∀cl C s₀ H₀ ex,Jj (Jh X N' scope cl C s₀ H₀ ex) ifs tc) (hi1:∀cl C s₀ H₀ ex,PI (Jh X N' scope cl C s₀ H₀ ex) tg1 iter1 wi1) (hg1:∀cl C s₀ H₀ ex,PG (Jh X N' scope cl C s₀ H₀ ex) tg1 g1) (ht1:∀cl C s₀ H₀ ex,Jj (Jh X N' scope cl C s₀ H₀ ex) ifs1 tc1) (he:∀cl C s₀ H₀ ex,PE (Jh X N' scope cl C s₀ H₀ ex) elt te)
 (hsw:swapsWith (.ListComp elt [⟨tg,iter,ifs,0⟩,⟨tg1,iter1,ifs1,0⟩] scope pos) (some (.Name x px)) spos.line X.env=pure true:=by rfl)
 (hs:∀x,Bc iter X.env x=pure x:=by intro _;rfl) (hs1:∀(e:Env)x,Bc iter1 e x=pure x:=by intro _ _;rfl) (hf:X.fn x=true∨X.env.scope.names.lookup x=some .local:=by first | exact .inl rfl | exact .inr rfl | assumption):
 PS X (.Assign [.Name x px] (.ListComp elt [⟨tg,iter,ifs,0⟩,⟨tg1,iter1,ifs1,0⟩] scope pos) spos) (L3 (RS wi js g tc wi1 g1 tc1 te) (KI i)):=by
 intro pins s σ H D I h;obtain⟨cl,c1,c2,c3⟩:=N8 (scope:=scope) I.ok.has ok.free;rw[exec_Assign_Name_used _ _ _ _ hsw];refine Aa (Bz (Aa ?_));show wpAny _ X.A (do let _ ←comprehension (.ListComp elt [⟨tg,iter,ifs,0⟩,⟨tg1,iter1,ifs1,0⟩] scope pos) scope X.env _ (newList []) false (eval iter X.env) (some (assign (.Name x px) X.env))) _ _ s
 refine Aa (A5 (Cu (use:=some (assign (.Name x px) X.env)) (Q:=λ_ s'=>SP X pins D .next s') rfl hs c1 ok.kind ok.names
  (IG (hi pins s σ H _ I h) λv s1 h1=>IG h1 λitv s2 h2=>?_)) (λ_ s' hq=>Ac (Ac hq)) λ_ _ e=>e)
 obtain⟨it,fp,tn,J,H2,e,I2,T,st2,f2,hw⟩:=h2;subst e;refine A5 (zkY (Q:=λx H1=>KI i x σ H1 D.nx) (iter:=iter) (pos:=pos) hc ok hs1 c2 c3 hg ht hi1 hg1 ht1 he I2 T st2 f2 hw) (λacc s3 h3=>A5 h3 (λcenv s4 h4=>?_) λ_ _ z=>z) λ_ _ z=>z;refine Cg h4 λr s5 h5=>?_;obtain⟨rfl,⟨m,hm⟩,v,H5,rv,I5,f5,q5⟩:=h5;obtain⟨f0,f1,f2',f3,f4,f6⟩:=f5;show wpAny _ X.A (assign (.Name x px) X.env acc) _ _ _;refine Ft (QZ I5 hN hi' hx rv (λs6 I6 ch=>?_) hf);obtain⟨a,sb,ha⟩:=ch;have na:cenv.locals≠a:=by
  rcases ha with z | z
  · rw[z];exact f1
  · exact λy=>f4 x a z y.symm
 refine⟨m,hm.sameBut sb na,λh' sb'=>⟨_,H5,I6.turned (t':=s6.toks) (λb o hb e=>(sb'.2 b hb).trans e) f0 f1 f3 f4 f6,q5⟩⟩
end
theorem Y8(elt t0 i0 t1 i1:Expr)(f0 f1:List Expr)(scope:Scope)(pos:Pos)(it acc:Value)(env:Env):
 compTurn (.SetComp elt [⟨t0,i0,f0,0⟩,⟨t1,i1,f1,0⟩] scope pos) 0 it acc env=(do
  standAt i0.pos
  match ←pyNext it with
  | none=>pure (.done .next)
  | some v=>
   BO t0 it v
   assign t0 env v
   let mut ok:=true
   for c in f0 do
    if ok then ok ←isTrue c env (eval c env)
   if ok then
    let x ←eval i1 env
    standAt i1.pos
    let x ←Bc i1 env x
    let _ ←runOwn (.compStart (.SetComp elt [⟨t0,i0,f0,0⟩,⟨t1,i1,f1,0⟩] scope pos) 1 (←holding [x] (pyIter x)) acc env) env
   again (.compLoop (.SetComp elt [⟨t0,i0,f0,0⟩,⟨t1,i1,f1,0⟩] scope pos) 0 it acc env)):=by rfl
theorem Y9(elt t0 i0 t1 i1:Expr)(f0 f1:List Expr)(scope:Scope)(pos:Pos)(it acc:Value)(env:Env):
 compTurn (.SetComp elt [⟨t0,i0,f0,0⟩,⟨t1,i1,f1,0⟩] scope pos) 1 it acc env=(do
  standAt i1.pos
  match ←pyNext it with
  | none=>pure (.done .next)
  | some v=>
   BO t1 it v
   assign t1 env v
   let mut ok:=true
   for c in f1 do
    if ok then ok ←isTrue c env (eval c env)
   if ok then
    (do let v ←eval elt env;standAt elt.pos;let _ ←call (.builtin "set.add") [acc,v])
   again (.compLoop (.SetComp elt [⟨t0,i0,f0,0⟩,⟨t1,i1,f1,0⟩] scope pos) 1 it acc env)):=by rfl
section
variable{R:Result→Shared→Prop}
variable{elt t0 i0 t1 i1:Expr}{f0 f1:List Expr}{it acc:Value}{env:Env}
theorem Y7(I:Nat→Shared→Prop)
 (turn:∀n s,I n s→wpAny (model prog w) A (pyNext it) (λr s₁=>match r with
  | none=>R (.ok .next) s₁
  | some v=>wpAny (model prog w) A (BO t1 it v) (λ_ s₁'=>wpAny (model prog w) A (assign t1 env v) (λ_ s₂=>
   wpAny (model prog w) A (forIn f1 true λc r=>if r=true then do let ok ←isTrue c env (eval c env);pure (ForInStep.yield ok) else pure (ForInStep.yield r)) (λok s₃=>
    if ok=true then wpAny (model prog w) A (eval elt env) (λx s₄=> wpAny (model prog w) A (call (.builtin "set.add") [acc,x]) (λ_ s₅=>∃m,m<n∧I m s₅) (λ_ _=>False) s₄) (λ_ _=>False) s₃
    else ∃m,m<n∧I m s₃) (λ_ _=>False) s₂) (λ_ _=>False) s₁') (λ_ _=>False) s₁) (λ_ _=>False) s)
 (n:Nat) (h:I n s):
 codeAny (model prog w) A (.compLoop (.SetComp elt [⟨t0,i0,f0,0⟩,⟨t1,i1,f1,0⟩] scope pos) 1 it acc env) R s:=by
 refine DT rfl I (λn s hI=>?_) n h;show wpAny _ A ((compTurn (.SetComp elt [⟨t0,i0,f0,0⟩,⟨t1,i1,f1,0⟩] scope pos) 1 it acc env).onRaise (λx=>do noteFrame x env;theTreesLotGoes x)) _ _ s
 refine Em ?_;rw[Y9];refine Aa (Bz (Aa (A5 (turn n s hI) (λr s₁ h₁=>?_) λ_ _ h'=>h'.elim)));cases r with
 | none=>exact Ac h₁
 | some v=>
  refine Aa (A5 h₁ (λ_ s₁' h₁'=>?_) λ_ _ h'=>h'.elim);refine Aa (A5 h₁' (λ_ s₂ h₂=>Aa (A5 h₂ (λok s₃ h₃=>?_) λ_ _ h'=>h'.elim)) λ_ _ h'=>h'.elim);cases ok with
  | false=>exact Ac ⟨rfl,h₃⟩
  | true=> exact Aa (Aa (A5 h₃ (λx s₄ h₄=>Aa (Bz (Aa (A5 h₄ (λ_ s₅ h₅=>Ac (Ac ⟨rfl,h₅⟩)) λ_ _ h'=>h'.elim)))) λ_ _ h'=>h'.elim))
theorem Y6(hs:∀x,Bc i1 env x=pure x)(I:Nat→Shared→Prop)
 (turn:∀n s,I n s→wpAny (model prog w) A (pyNext it) (λr s₁=>match r with
  | none=>R (.ok .next) s₁
  | some v=>wpAny (model prog w) A (BO t0 it v) (λ_ s₁'=>wpAny (model prog w) A (assign t0 env v) (λ_ s₂=>
   wpAny (model prog w) A (forIn f0 true λc r=>if r=true then do let ok ←isTrue c env (eval c env);pure (ForInStep.yield ok) else pure (ForInStep.yield r)) (λok s₃=>
    if ok=true then wpAny (model prog w) A (eval i1 env) (λx s₄=>wpAny (model prog w) A (pyIter x) (λj s₅=> codeAny (model prog w) A (.compStart (.SetComp elt [⟨t0,i0,f0,0⟩,⟨t1,i1,f1,0⟩] scope pos) 1 j acc env) (λr s₆=>r= .ok .next∧∃m,m<n∧I m s₆) s₅) (λ_ _=>False) s₄) (λ_ _=>False) s₃
    else ∃m,m<n∧I m s₃) (λ_ _=>False) s₂) (λ_ _=>False) s₁') (λ_ _=>False) s₁) (λ_ _=>False) s)
 (n:Nat) (h:I n s):
 codeAny (model prog w) A (.compLoop (.SetComp elt [⟨t0,i0,f0,0⟩,⟨t1,i1,f1,0⟩] scope pos) 0 it acc env) R s:=by
 refine DT rfl I (λn s hI=>?_) n h;show wpAny _ A ((compTurn (.SetComp elt [⟨t0,i0,f0,0⟩,⟨t1,i1,f1,0⟩] scope pos) 0 it acc env).onRaise (λx=>do noteFrame x env;theTreesLotGoes x)) _ _ s
 refine Em ?_;rw[Y8];refine Aa (Bz (Aa (A5 (turn n s hI) (λr s₁ h₁=>?_) λ_ _ h'=>h'.elim)));cases r with
 | none=>exact Ac h₁
 | some v=>
  refine Aa (A5 h₁ (λ_ s₁' h₁'=>?_) λ_ _ h'=>h'.elim);refine Aa (A5 h₁' (λ_ s₂ h₂=>Aa (A5 h₂ (λok s₃ h₃=>?_) λ_ _ h'=>h'.elim)) λ_ _ h'=>h'.elim);cases ok with
  | false=>exact Ac ⟨rfl,h₃⟩
  | true=> refine Aa (A5 h₃ (λx s₄ h₄=>?_) λ_ _ h'=>h'.elim);refine Aa (Bz ?_);rw[hs];refine Aa (Ac ?_);refine Aa (AN (A5 h₄ (λj s₅ h₅=>?_) λ_ _ h'=>h'.elim));refine Aa (wpAny_runOwn (Cg h₅ λr s₆ h₆=>?_));obtain⟨rfl,h₆⟩:=h₆;exact Ac ⟨rfl,h₆⟩
theorem Uo(d:Nat)(hd:d=0∨d=1)(h0:codeAny (model prog w) A (.compLoop (.SetComp elt [⟨t0,i0,f0,0⟩,⟨t1,i1,f1,0⟩] scope pos) d it acc env) R s)
 (h:wpAny (model prog w) A (pyIter it) (λit' s'=>codeAny (model prog w) A (.compLoop (.SetComp elt [⟨t0,i0,f0,0⟩,⟨t1,i1,f1,0⟩] scope pos) d it' acc env) R s')
  (notedBy (model prog w) A env λx s'=>R (.error x) s') s):
 codeAny (model prog w) A (.compStart (.SetComp elt [⟨t0,i0,f0,0⟩,⟨t1,i1,f1,0⟩] scope pos) d it acc env) R s:=by
 rcases hd with rfl | rfl
 all_goals
  refine Gf ?_;show wpAny _ _ ((Cj (.SetComp elt [⟨t0,i0,f0,0⟩,⟨t1,i1,f1,0⟩] scope pos) _ it acc env).onRaise (λx=>do noteFrame x env;standAt theWindowsPlace)) _ _ s
  refine wpAny_notedAt ?_;unfold Cj;show wpAny _ _ (ask>>=_) _ _ s;refine Aa (Dm (wpAny_ite ?_))
  split
  · first
     | exact Aa (Ac (Ac (And.intro rfl h0)))
     | exact Ac (And.intro rfl h0)
  · first
     | exact Aa (BA (Aa (Bz (Aa (A5 h (λit' s' h'=>Ac (And.intro rfl h')) λ_ _ x=>x)))))
     | (refine Aa (BA ?_);show wpAny _ _ (standAt _>>=_) _ _ s;exact Aa (Bz (Aa (A5 h (λit' s' h'=>Ac (And.intro rfl h')) λ_ _ x=>x))))
theorem QN{ks:List Str}(T:TxSet prog w h a ks):∃o,h.get? a=some o∧∀v,o.data≠ .cell v:=by obtain⟨es,ep,t,ho,_⟩:=T.at';exact⟨_,ho,λv z=>by cases z⟩
theorem zjW{ks:List Str}(T:TxSet prog w s.heap a ks):s.TypeIs (.ref a) "set":=by obtain⟨es,ep,t,ho,_⟩:=T.at';exact⟨_,ho,rfl⟩
theorem zf2{ks:List Str}{k:Str}{tk:Tok}{Q:Value→Shared→Prop}(T:TxSet prog w s.heap a ks)(hroom:ks.length+1<scanBound)
 (h:∀h' ks',Bt a s.heap h'→TxSet prog w h' a ks'→ks'.length≤ks.length+1→(∀x,x∈ks'↔x∈ks∨x=k)→Q .none {s with heap:=h',toks:=s.toks+1}):
 wpAny (model prog w) A (call (.builtin "set.add") [.ref a,.str k tk]) Q E s:=by
 refine AH PySem.F.slot_set_add (zjW T) PySem.F.entry_set_add ?_ (PySem.F.args_set_add_2 _ _);unfold Builtin.«set.add» Builtin.Frozenset.oneOther;simp only[List.isEmpty_nil,bind_assoc];unfold Builtin.Frozenset.addrOf setAdd;refine Aa (Ac ?_)
 try dsimp only
 refine Aa (Ac ?_)
 try dsimp only
 refine Aa ?_;refine AN ?_;refine Aa ((strKind prog w).pyHash (QD k tk) ?_);refine ZJ (s:={s with toks:=s.toks+1}) T hroom λh' ks' sb T' l m b=>?_
 show wpAny _ _ (ret Value.none) _ _ _;exact Ac ⟨_,rfl,h h' ks' sb T' l m⟩
theorem zkN{Q:Value→Shared→Prop}(h:Q (.ref s.heap.objs.size) {s with heap:=s.heap.push {cls:= .type "set",dict:=none,data:= .set #[] 0 (.fresh 0 0 (!Js w))}}):
 wpAny (model prog w) A (newSet (.type "set")) Q E s:=by
 unfold newSet;obtain⟨hp,g,d,tk,os⟩:=s;dsimp only
 wp_walk
 refine Dm (Ac ?_);dsimp only;simp only[newObj];refine Aa (wpAny_alloc (Ac ?_));exact h
end
noncomputable def Ue(J:It)(g:TG)(tc:TT)(te:TE)(σ:St)(ks:List Str)(H:Hp)(M:St→List Str→Hp→Prop):Prop:=
 ∃W:Nat→Nat→St→List Str→Hp→Prop,(∃m,W 0 m σ ks H)∧∀i m σ' zs H,W i m σ' zs H→
  ((J.stop i H∧M σ' zs H)∨(J.go i H∧zs.length<200∧∀x H',J.yld i H x H'→g x σ' H' λσ2 H2=>tc σ2 H2 λb H3=>
    if b=true then te σ2 H3 λy H4=>∃k,y= .str k∧∀zs',zs'.length≤zs.length+1→(∀x,x∈zs'↔x∈zs∨x=k)→zs'.Nodup→∃m',m'<m∧W (i+1) m' σ2 zs' H4
    else ∃m',m'<m∧W (i+1) m' σ2 zs H3))
noncomputable def Q4(J:It)(js:J5)(g:TG)(tc:TT)(wi1:TI)(g1:TG)(tc1:TT)(te:TE)(σ:St)(H:Hp)(M:List Str→Hp→Prop):Prop:=
 ∃W:Nat→Nat→St→List Str→Hp→Prop,(∃m,W 0 m (Kf js σ) [] H)∧∀i m σ' ys H,W i m σ' ys H→
  ((J.stop i H∧M ys H)∨(J.go i H∧∀x H',J.yld i H x H'→g x σ' H' λσ2 H2=>tc σ2 H2 λb H3=>
    if b=true then wi1 σ2 H3 λJ1 H4=>Ue J1 g1 tc1 te σ2 ys H4 λσ3 zs H5=>∃m',m'<m∧W (i+1) m' σ3 zs H5
    else ∃m',m'<m∧W (i+1) m' σ2 ys H3))
section
variable{p:Addr}{ks:List Str}
theorem VG(I:Inv X pins σ H s)(f:IJ X pins H p)(T:TxSet X.prog X.w s.heap p ks):Inv X (pins++Ki [p] s.heap) σ H s:=
 I.pinned (λb hb=>by rw[Aj.mp hb];exact f) (λb hb=>by rw[Aj.mp hb];exact QN T)
theorem Px{s':Shared}{σ':St}{H':Hp}(I:Inv X (pins++Ki [p] s.heap) σ' H' s')(f:IJ X pins H p)(T:TxSet X.prog X.w s.heap p ks):Inv X pins σ' H' s'∧IJ X pins H' p∧TxSet X.prog X.w s'.heap p ks:=by obtain⟨o,ho,_⟩:=QN T;have hp:=I.pin (p,o) (Ai _ (Ai _ (K9 (Aj.mpr rfl) ho)));exact⟨I.unpinned,⟨hp.2.1,f.2⟩,T.kept λo' e=>by rw[ho] at e;cases e;exact hp.1⟩
theorem Uc(f:IJ X pins H b)(n:b≠p):IJ X (pins++Ki [p] h) H b:=by
 obtain⟨f0,f1,f2,f3,f4,f5⟩:=f;refine⟨f0,f1,f2,f3,f4,λq hq=>?_⟩;rcases A3.mp hq with z | z
 · exact f5 q (Bw _ z)
 · rcases A3.mp z with z | z
   · exact f5 q (Ai _ z)
   · have:=(Rc z).1;rw[Aj.mp this];exact n.symm
theorem zk9{elt t0 i0 t1 i1:Expr}{f0 f1:List Expr}{scope:Scope}{pos:Pos}{g1:TG}{tc1:TT}{te:TE}{J:It}{it:Addr}{fp:List Addr}{tn:Nat→Heap→Prop}{M:St→List Str→Hp→Prop}
 (hc:X.calm=true) (hx:X.xe=λ_ _=>False) (hg:PG X t1 g1) (ht:Jj X f1 tc1) (he:PE X elt te) (I:Inv X pins σ H s) (T:Turn X.prog X.w X.K t1 J fp it tn) (st:tn 0 s.heap) (hf:∀b∈fp,IJ X pins H b) (hnp:p ∉ fp) (fp0:IJ X pins H p) (Tx:TxSet X.prog X.w s.heap p ks) (hw:Ue J g1 tc1 te σ ks H M):
 codeAny (model X.prog X.w) X.A (.compStart (.SetComp elt [⟨t0,i0,f0,0⟩,⟨t1,i1,f1,0⟩] scope pos) 1 (.ref it) (.ref p) X.env) (λr s'=>r= .ok .next∧∃σ' zs H',Inv X pins σ' H' s'∧IJ X pins H' p∧TxSet X.prog X.w s'.heap p zs∧M σ' zs H') s:=by
 obtain⟨W,⟨m0,w0⟩,turn⟩:=hw;have nep:∀b∈fp,b≠p:=λb hb z=>hnp (z ▸ hb);have stat:∀{H':Hp}{h:Heap},(∀b∈fp,H' b=none)→∀b∈fp,IJ X (pins++Ki [p] h) H' b:=λhn b hb=>Uc ⟨hn b hb,(hf b hb).2⟩ (nep b hb);have loop:codeAny (model X.prog X.w) X.A (.compLoop (.SetComp elt [⟨t0,i0,f0,0⟩,⟨t1,i1,f1,0⟩] scope pos) 1 (.ref it) (.ref p) X.env) (λr s'=>r= .ok .next∧∃σ' zs H',Inv X pins σ' H' s'∧IJ X pins H' p∧TxSet X.prog X.w s'.heap p zs∧M σ' zs H') s:=by
  refine Y7 (λn s'=>∃i σ' ys H',Inv X pins σ' H' s'∧tn i s'.heap∧(∀b∈fp,H' b=none)∧IJ X pins H' p∧TxSet X.prog X.w s'.heap p ys∧W i n σ' ys H') ?_ m0 ⟨0,σ,ks,H,I,st,λb hb=>(hf b hb).1,fp0,Tx,w0⟩;rintro n s5 ⟨i,σ5,zs,H5,I5,st5,fr5,fp5,T5,w5⟩;have I5p:=VG I5 fp5 T5;rcases turn i n σ5 zs H5 w5 with⟨stop,qn⟩ | ⟨go,hz,step⟩
  · refine IG (T.done X rfl rfl rfl hc i _ s5 σ5 H5 (λ_ _=>False) I5p (stat fr5) st5 stop) λr s6 ⟨hr,I6⟩=>?_;subst hr;obtain⟨I6',f6,T6⟩:=Px I6 fp5 T5;exact⟨rfl,σ5,zs,H5,I6',f6,T6,qn⟩
  · refine IG (T.item X rfl rfl rfl hc i _ s5 σ5 H5 (λ_ _=>False) I5p (stat fr5) st5 go) λr s6 ⟨u,hr,h6⟩=>?_;subst hr;refine IG h6 λ_ s7 ⟨x,H7,I7,r7,y7,st7,fr7⟩=>?_;have I7':=I7.pinned (stat fr7) (T.obj _ _ st7);have G:=hg _ s7 σ5 H7 x u _ I7' r7 (step x H7 y7);rw[hx] at G;refine IG G λ_ s8 ⟨σ8,H8,I8,q8⟩=>?_;have Tt:=ht _ s8 σ8 H8 _ I8 q8;rw[hx] at Tt;refine IG Tt λb s9 ⟨H9,I9,q9⟩=>?_;have again:∀{s':Shared}{H':Hp},Inv X (pins++Ki [p] s5.heap++Ki fp s7.heap) σ8 H' s'→tn (i+1) s'.heap∧(∀b∈fp,H' b=none)∧Inv X pins σ8 H' s'∧IJ X pins H' p∧TxSet X.prog X.w s'.heap p zs:=λ{s' H'}I'=>by
     obtain⟨a1,a2,a3⟩:=Px I'.unpinned fp5 T5;refine⟨T.keep _ _ _ st7 λb hb o e=>(I'.pin (b,o) (Ai _ (Ai _ (K9 hb e)))).1,λb hb=>?_,a1,a2,a3⟩;obtain⟨o,e,d⟩:=T.obj _ _ st7 b hb;exact(I'.pin (b,o) (Ai _ (Ai _ (K9 hb e)))).2.1
    cases b with
    | false=> obtain⟨m',hm,w'⟩:=q9;obtain⟨a1,a2,a3,a4,a5⟩:=again I9;exact⟨m',hm,i+1,σ8,zs,H9,a3,a1,a2,a4,a5,w'⟩
    | true=> have Ee:=he _ s9 σ8 H9 _ I9 q9;rw[hx] at Ee;show wpAny _ _ _ _ _ _;refine IG Ee λxv s10 ⟨y,H10,I10,r10,k,hk,q10⟩=>?_;subst hk;obtain⟨tk,rfl⟩:=(show ∃t,xv=Value.str k t from r10);obtain⟨a1,a2,a3,a4,a5⟩:=again I10;refine zf2 a5 (by unfold scanBound;omega) λh' zs' sb T' l m=>?_;obtain⟨m',hm,w'⟩:=q10 zs' l m T'.nodup;obtain⟨g0,g1',g2,g3,g4,g5⟩:=a4;refine⟨m',hm,i+1,σ8,zs',H10,a3.turned (t':=s10.toks+1) (λb o hb e=>(sb.2 b hb).trans e) g0 g1' g3 g4 g5,T.keep _ _ _ a1 λb hb o e=>(sb.2 b (nep b hb)).trans e,a2,⟨g0,g1',g2,g3,g4,g5⟩,T',w'⟩
 exact Uo 1 (.inr rfl) loop (T.self _ 0 _ _ _ st loop)
end
section
variable{tg iter tg1 iter1 elt:Expr}{ifs ifs1:List Expr}{wi wi1:TI}{js:J5}{g g1:TG}{tc tc1:TT}{te:TE}{N':List Str}
theorem zkk{pins:List (Addr×Obj)}{σ:St}{H:Hp}{s:Shared}{E:Value→Shared→Prop}{M:List Str→Hp→Prop}{J:It}{it:Addr}{fp:List Addr}{tn:Nat→Heap→Prop}{cl:List (Str×Addr)}
 (hc:X.calm=true) (ok:CapOk X N' js scope) (hs1:∀(e:Env)x,Bc iter1 e x=pure x)
 (h2:∀x c,cl.lookup x=some c→X.env.cells.lookup x=some c) (h3:∀p∈scope.names,p.2= .free→(cl.lookup p.1).isSome=true)
 (hg:∀cl C s₀ H₀ ex,PG (Jh X N' scope cl C s₀ H₀ ex) tg g) (ht:∀cl C s₀ H₀ ex,Jj (Jh X N' scope cl C s₀ H₀ ex) ifs tc) (hi1:∀cl C s₀ H₀ ex,PI (Jh X N' scope cl C s₀ H₀ ex) tg1 iter1 wi1) (hg1:∀cl C s₀ H₀ ex,PG (Jh X N' scope cl C s₀ H₀ ex) tg1 g1) (ht1:∀cl C s₀ H₀ ex,Jj (Jh X N' scope cl C s₀ H₀ ex) ifs1 tc1) (he:∀cl C s₀ H₀ ex,PE (Jh X N' scope cl C s₀ H₀ ex) elt te)
 (I:Inv X pins σ H s) (T:Turn X.prog X.w X.K tg J fp it tn) (st:tn 0 s.heap) (hf:∀b∈fp,IJ X pins H b)
 (hw:Q4 J js g tc wi1 g1 tc1 te σ H M):
 wpAny (model X.prog X.w) X.A (newSet (.type "set")) (λacc s₃=>wpAny (model X.prog X.w) X.A (newFunctionEnv scope X.env.globals cl [] X.env.qual none .none (some X.env)) (λcenv s₄=>
  codeAny (model X.prog X.w) X.A (.compStart (.SetComp elt [⟨tg,iter,ifs,0⟩,⟨tg1,iter1,ifs1,0⟩] scope pos) 0 (.ref it) acc {cenv with scope:=relabel scope X.env})
   (λr s'=>r= .ok .next∧(∃m,s'.heap.Ns cenv.locals m)∧∃p ks H',acc= .ref p∧p≠cenv.locals∧Inv X pins σ H' s'∧IJ X pins H' cenv.locals∧TxSet X.prog X.w s'.heap p ks∧M ks H') s₄) E s₃) E s:=by
 have objs:=T.obj _ _ st;refine zkN ?_;obtain⟨W,⟨m0,w0⟩,turn⟩:=hw;have fpP:IJ X pins H s.heap.objs.size:=I.fpOk (Ah _) (I.hok.fresh (Ah _));have kp:∀b u,s.heap.get? b=some u→(s.heap.push {cls:= .type "set",dict:=none,data:= .set #[] 0 (.fresh 0 0 (!Js X.w))}).get? b=some u:=λb u e=>Ad _ e;have T3:TxSet X.prog X.w (s.heap.push {cls:= .type "set",dict:=none,data:= .set #[] 0 (.fresh 0 0 (!Js X.w))}) s.heap.objs.size []:=zjc (Ak s.heap rfl);have lt0:s.heap.objs.size<(s.heap.push {cls:= .type "set",dict:=none,data:= .set #[] 0 (.fresh 0 0 (!Js X.w))}).objs.size:=Am (Ak s.heap (o:={cls:= .type "set",dict:=none,data:= .set #[] 0 (.fresh 0 0 (!Js X.w))}) rfl);have I3:Inv X pins σ H {s with heap:=s.heap.push {cls:= .type "set",dict:=none,data:= .set #[] 0 (.fresh 0 0 (!Js X.w))}}:=I.kept (t':=s.toks) kp
 generalize hp:s.heap.objs.size=p at*;have fne:∀b∈fp,b≠p:=λb hb=>by obtain⟨o,e,_⟩:=objs b hb;have:=Am e;rw[←hp];exact Ar this
 have hf3:∀b∈p::fp,IJ X pins H b:=λb hb=>(Aw.mp hb).elim (λz=>z ▸ fpP) (hf b);have st3:tn 0 (s.heap.push {cls:= .type "set",dict:=none,data:= .set #[] 0 (.fresh 0 0 (!Js X.w))}):=T.keep _ _ _ st λb _ o e=>kp b o e;have lt3:∀b∈p::fp,b<(s.heap.push {cls:= .type "set",dict:=none,data:= .set #[] 0 (.fresh 0 0 (!Js X.w))}).objs.size:=λb hb=>by
  rcases Aw.mp hb with rfl | hb
  · exact lt0
  · obtain⟨o,e,_⟩:=objs b hb;exact Am (kp b o e)
 generalize hs3:({s with heap:=s.heap.push {cls:= .type "set",dict:=none,data:= .set #[] 0 (.fresh 0 0 (!Js X.w))}}:Shared)=s3 at*
 have eh:s.heap.push {cls:= .type "set",dict:=none,data:= .set #[] 0 (.fresh 0 0 (!Js X.w))}=s3.heap:=by rw[←hs3]
 rw[eh] at st3 lt3 T3 lt0;refine Oo ok.cells λcl h₁ hns₁ k4 oc=>?_;have I4:=Oh (cl:=cl) (h₁:=h₁) (t':=s3.toks+([]:List (Str×Value)).length) ok I3 h2 h3 hf3 lt3 k4 hns₁ oc;have T4:TxSet X.prog X.w h₁ p []:=T3.kept λo e=>k4 p o e;have st4:tn 0 h₁:=T.keep _ _ _ st3 λb _ o e=>k4 b o e;generalize hX:Jh X N' scope cl s3.heap.objs.size s3 H (p::fp)=X' at I4;have hg':PG X' tg g:=by rw[←hX];exact hg _ _ _ _ _
 have ht':Jj X' ifs tc:=by rw[←hX];exact ht _ _ _ _ _
 have he':PE X' elt te:=by rw[←hX];exact he _ _ _ _ _
 have hi1':PI X' tg1 iter1 wi1:=by rw[←hX];exact hi1 _ _ _ _ _
 have hg1':PG X' tg1 g1:=by rw[←hX];exact hg1 _ _ _ _ _
 have ht1':Jj X' ifs1 tc1:=by rw[←hX];exact ht1 _ _ _ _ _
 have hs1':∀x,Bc iter1 (compEnvC scope cl s3.heap.objs.size X.env) x=pure x:=hs1 _;have eP:X'.prog=X.prog:=by rw[←hX];rfl
 have ew:X'.w=X.w:=by rw[←hX];rfl
 have eK:X'.K=X.K:=by rw[←hX];rfl
 have ec:X'.calm=true:=by rw[←hX];exact hc
 have eA:X'.A=X.A:=by rw[←hX];rfl
 have ex:X'.xe=λ_ _=>False:=by rw[←hX];rfl
 have eE:X'.env=compEnvC scope cl s3.heap.objs.size X.env:=by rw[←hX];rfl
 have eEx:X'.ex=p::fp:=by rw[←hX];rfl
 have eN:X'.pn=[]:=by rw[←hX];rfl
 have stat:∀{H':Hp}{b:Addr},b∈p::fp→H' b=none→IJ X' [] H' b:=λ{H' b}hb hn=>by have okc:=I4.ok;refine⟨hn,(okc.exf b (by rw[eEx];exact hb)).1,okc.exfs b (by rw[eEx];exact hb),.inl (by rw[eEx];exact hb),(okc.exf b (by rw[eEx];exact hb)).2,λq hq=>?_⟩;rw[eN] at hq;cases hq
 have loop:∀s₄:Shared,s₄={s3 with heap:=h₁,toks:=s3.toks+([]:List (Str×Value)).length}→
  codeAny (model X.prog X.w) X.A (.compLoop (.SetComp elt [⟨tg,iter,ifs,0⟩,⟨tg1,iter1,ifs1,0⟩] scope pos) 0 (.ref it) (.ref p) (compEnvC scope cl s3.heap.objs.size X.env))
   (λr s'=>r= .ok .next∧(∃m,s'.heap.Ns s3.heap.objs.size m)∧∃p' ks H',Value.ref p= .ref p'∧p'≠s3.heap.objs.size∧Inv X pins σ H' s'∧IJ X pins H' s3.heap.objs.size∧TxSet X.prog X.w s'.heap p' ks∧M ks H') s₄:=by
  rintro s₄ rfl;have wpin:∀{h:Heap}{H':Hp},(∀b∈fp,H' b=none)→∀b∈fp,IJ X' ([]++Ki [p] h) H' b:=λ{h H'}hn b hb=>Uc (stat (As _ hb) (hn b hb)) (fne b hb);refine Y6 hs1' (λn s'=>∃i σ' ys H',Inv X' [] σ' H' s'∧tn i s'.heap∧(∀b∈fp,H' b=none)∧IJ X' [] H' p∧TxSet X'.prog X'.w s'.heap p ys∧W i n σ' ys H') ?_ m0 ⟨0,_,[],_,I4,st4,λb hb=>(hf b hb).1,stat Ao fpP.1,by rw[eP,ew];exact T4,w0⟩;rintro n s5 ⟨i,σ5,ys,H5,I5,st5,fr5,fp5,T5,w5⟩;have I5p:=VG I5 fp5 T5;rcases turn i n σ5 ys H5 w5 with⟨stop,qn⟩ | ⟨go,step⟩
  · have D:=T.done X' eP ew eK ec i _ s5 σ5 H5 (λ_ _=>False) I5p (wpin fr5) st5 stop;rw[eA] at D;refine IG D λr s6 ⟨hr,I6p⟩=>?_;subst hr;obtain⟨I6,f6,T6⟩:=Px I6p fp5 T5;refine⟨rfl,?_,p,ys,H5,rfl,Ar lt0,?_,?_,by rw[eP,ew] at T6;exact T6,qn⟩
    · obtain⟨m,hm,_⟩:=I6.loc;rw[eE] at hm;exact⟨m,hm⟩
    · have b6:=I6.base;have ho:=I6.os;have hk:=I6.hok;have hb:=I6.bare;subst hX;exact I3.call' (ch:=p::fp) ho b6 hk hb λb hb'=>⟨(hf3 b hb').2.2.2.1,(hf3 b hb').2.1,(hf3 b hb').2.2.2.2.1,(hf3 b hb').2.2.2.2.2⟩
    · have fr:=I6.free;rw[eE] at fr;exact I3.fpOk (Ah _) fr
  · have D:=T.item X' eP ew eK ec i _ s5 σ5 H5 (λ_ _=>False) I5p (wpin fr5) st5 go;rw[eA] at D;refine IG D λr s6 ⟨u,hr,h6⟩=>?_;subst hr;refine IG h6 λ_ s7 ⟨x,H7,I7,r7,y7,st7,fr7⟩=>?_;have I7':=I7.pinned (wpin fr7) (T.obj _ _ st7);have G:=hg' _ s7 σ5 H7 x u _ I7' r7 (step x H7 y7);rw[eP,ew,eA,ex,eE] at G;refine IG G λ_ s8 ⟨σ8,H8,I8,q8⟩=>?_;have Tt:=ht' _ s8 σ8 H8 _ I8 q8;rw[eP,ew,eA,ex,eE] at Tt;refine IG Tt λb s9 ⟨H9,I9,q9⟩=>?_;have again:∀{s':Shared}{σ8:St}{ys':List Str}{H':Hp},Inv X' ([]++Ki fp s7.heap) σ8 H' s'→IJ X' [] H' p→TxSet X'.prog X'.w s'.heap p ys'→(∃m',m'<n∧W (i+1) m' σ8 ys' H')→
     ∃m,m<n∧∃i σ' ys H',Inv X' [] σ' H' s'∧tn i s'.heap∧(∀b∈fp,H' b=none)∧IJ X' [] H' p∧TxSet X'.prog X'.w s'.heap p ys∧W i m σ' ys H':=λ{s' σ8 ys' H'}I' f' T' ⟨m',hm,w'⟩=>by
     refine⟨m',hm,i+1,σ8,ys',H',I'.unpinned,T.keep _ _ _ st7 λb hb o e=>(I'.pin (b,o) (Ai _ (Ai _ (K9 hb e)))).1,λb hb=>?_,f',T',w'⟩;obtain⟨o,e,d⟩:=T.obj _ _ st7 b hb;exact(I'.pin (b,o) (Ai _ (Ai _ (K9 hb e)))).2.1
    have drop:∀{s':Shared}{σ8:St}{H':Hp},Inv X' ([]++Ki [p] s5.heap++Ki fp s7.heap) σ8 H' s'→Inv X' ([]++Ki fp s7.heap) σ8 H' s'∧IJ X' [] H' p∧TxSet X'.prog X'.w s'.heap p ys:=λ{s' σ8 H'}I'=>by obtain⟨a1,a2,a3⟩:=Px I'.unpinned fp5 T5;exact⟨I'.pins_of λq hq=>I'.pin q (Ai _ ((A3.mp hq).elim (λz=>nomatch z) λz=>Ai _ z)),a2,a3⟩
    cases b with
    | false=> obtain⟨a1,a2,a3⟩:=drop I9;exact again a1 a2 a3 q9
    | true=>
     have Ei:=hi1' _ s9 σ8 H9 _ I9 q9;rw[eP,ew,eA,ex,eE] at Ei;show wpAny _ _ _ _ _ _;refine IG Ei λxv s10 h10=>IG h10 λitv s11 h11=>?_;obtain⟨it1,fp1,tn1,J1,H11,e11,I11,T1,st11,f11,hw11⟩:=h11;subst e11;obtain⟨a1,a2,a3⟩:=drop I11;obtain⟨o5,ho5,_⟩:=QN T5;have npp:p ∉ fp1:=λhb=>(f11 p hb).2.2.2.2.2 (p,o5) (Ai _ (Bw _ (Ai _ (K9 (Aj.mpr rfl) ho5)))) rfl;have f11':∀b∈fp1,IJ X' ([]++Ki fp s7.heap) H11 b:=λb hb=>by
      obtain⟨g0,g1',g2,g3,g4,g5⟩:=f11 b hb;refine⟨g0,g1',g2,g3,g4,λq hq=>g5 q ?_⟩;rcases A3.mp hq with z | z
      · exact Bw _ z
      · exact Ai _ ((A3.mp z).elim (λz=>nomatch z) λz=>Ai _ z)
     have a2':IJ X' ([]++Ki fp s7.heap) H11 p:=by
      obtain⟨g0,g1',g2,g3,g4,g5⟩:=a2;refine⟨g0,g1',g2,g3,g4,λq hq=>?_⟩;rcases A3.mp hq with z | z
      · exact g5 q (Bw _ z)
      · have:=(Rc ((A3.mp z).elim (λz=>nomatch z) id)).1;exact fne _ this
     have In:=zk9 (X:=X') (elt:=elt) (t0:=tg) (i0:=iter) (t1:=tg1) (i1:=iter1) (f0:=ifs) (f1:=ifs1) (scope:=scope) (pos:=pos) ec ex hg1' ht1' he' a1 T1 st11 f11' npp a2' a3 hw11;rw[eP,ew,eA,eE] at In;refine Cg In λr s12 ⟨hr,σ12,zs,H12,I12,f12,T12,m12⟩=>⟨hr,?_⟩;exact again I12 (stat Ao f12.1) (by rw[eP,ew];exact T12) m12
 exact Uo 0 (.inl rfl) (loop _ rfl) (T.self _ 0 _ _ _ st4 (loop _ rfl))
noncomputable def ZI(wi:TI)(js:J5)(g:TG)(tc:TT)(wi1:TI)(g1:TG)(tc1:TT)(te:TE):TE:=λσ H Q=>wi σ H λJ H1=>Q4 J js g tc wi1 g1 tc1 te σ H1 λks H2=>ks.length<64∧
 ∀(p:Addr)(ms:List Str),ms.Perm ks→ms.Nodup→sortedS ms=true→H2 p=none→Q (.ref p) (IC H2 p (.lst (ms.map V.str)))
theorem zjp{p4 pos':Pos}(hg0:Gl X "sorted")(hm0:X.mg "sorted"=none)(hc:X.calm=true)(ok:CapOk X N' js scope)(hi:PI X tg iter wi)
 (hg:∀cl C s₀ H₀ ex,PG (Jh X N' scope cl C s₀ H₀ ex) tg g) (ht:∀cl C s₀ H₀ ex,Jj (Jh X N' scope cl C s₀ H₀ ex) ifs tc) (hi1:∀cl C s₀ H₀ ex,PI (Jh X N' scope cl C s₀ H₀ ex) tg1 iter1 wi1) (hg1:∀cl C s₀ H₀ ex,PG (Jh X N' scope cl C s₀ H₀ ex) tg1 g1) (ht1:∀cl C s₀ H₀ ex,Jj (Jh X N' scope cl C s₀ H₀ ex) ifs1 tc1) (he:∀cl C s₀ H₀ ex,PE (Jh X N' scope cl C s₀ H₀ ex) elt te)
 (hs:∀x,Bc iter X.env x=pure x:=by intro _;rfl) (hs1:∀(e:Env)x,Bc iter1 e x=pure x:=by intro _ _;rfl)
 (h2:AL [.SetComp elt [⟨tg,iter,ifs,0⟩,⟨tg1,iter1,ifs1,0⟩] scope pos'] X.env=(false,eval (.SetComp elt [⟨tg,iter,ifs,0⟩,⟨tg1,iter1,ifs1,0⟩] scope pos') X.env)::AL [] X.env:=by rfl)
 (h4:(backTo pos (AL [] X.env)).any (·.1)=false:=by rfl):
 PE X (.Call (.Name "sorted" p4) [.SetComp elt [⟨tg,iter,ifs,0⟩,⟨tg1,iter1,ifs1,0⟩] scope pos'] [] pos) (ZI wi js g tc wi1 g1 tc1 te):=by
 intro pins s σ H Q I h;refine Cr (LI I hg0 hm0 P6 ?_ (by decide) (by decide));refine E8 ?_ h2 h4;rw[h2];show wpAny _ _ (spliced ((false,eval (.SetComp elt [⟨tg,iter,ifs,0⟩,⟨tg1,iter1,ifs1,0⟩] scope pos') X.env)::backTo pos (AL [] X.env))) _ _ s;refine DR ?_;obtain⟨cl,c1,c2,c3⟩:=N8 (scope:=scope) I.ok.has ok.free;rw[arm_eval_SetComp];refine Cu (use:=none) rfl hs c1 ok.kind ok.names (IG (hi pins s σ H _ I h) λv s1 h1=>IG h1 λitv s2 h2=>?_);obtain⟨it,fp,tn,J,H2,e,I2,T,st2,f2,hw⟩:=h2;subst e;refine A5 (zkk (iter:=iter) (pos:=pos') hc ok hs1 c2 c3 hg ht hi1 hg1 ht1 he I2 T st2 f2 hw) (λacc s3 h3=>A5 h3 (λcenv s4 h4=>?_) λ_ _ z=>z) λ_ _ z=>z;refine Cg h4 λr s5 h5=>?_;obtain⟨rfl,⟨m,hm⟩,p,ks,H5,rfl,npl,I5,f5,T5,h64,q5⟩:=h5;refine⟨m,hm,λh' sb=>?_⟩;obtain⟨f0,f1,_,f3,f4,f6⟩:=f5;have I6:Inv X pins σ H5 {s5 with heap:=h',toks:=s5.toks}:=I5.turned (t':=s5.toks) (λb o hb e=>(sb.2 b hb).trans e) f0 f1 f3 f4 f6
 have T6:TxSet X.prog X.w h' p ks:=T5.kept λo e=>(sb.2 p npl).trans e;refine Fu ?_;refine zhm (s:={s5 with heap:=h'}) (I.ok.hd hc) T6 h64 λp' h2 d2 tk2 out ms ee a1 a2 a3 a4 a5 a6=>?_
 have hn1:H5 p'=none:=I6.hok.fresh a4;have I7:Inv X pins σ H5 {s5 with heap:=h',drawn:=d2,toks:=s5.toks}:=⟨I6.ok,I6.os,I6.bare,I6.base,I6.loc,I6.cell,I6.free,I6.freeC,I6.pin,I6.hok,I6.len⟩
 refine⟨.ref p',IC H5 p' (.lst (ms.map V.str)),I7.laid (t':=tk2) a6 a4 ?_,rfl,q5 p' ms a2 (a2.nodup_iff.mpr T6.nodup) a3 hn1⟩;have hlen:ms.length<64:=by rw[a2.length_eq];exact h64
 exact⟨by rw[Ab,sizeLine_eq];omega,out.toList,ee,Qd a1,by simpa [Bo] using a5⟩
end
open PySem.AutoSeq1 (wpAny_loadPart')
theorem Z4(l:Addr)(xs:Array Value):
 Meets (Builtin.«enumerate.__new__» ⟨[.type "enumerate",.ref l],[]⟩) (λ_ R s=>s.heap.IsTuple l xs∧R (.ok (.ret (.ref (s.heap.push {cls:= .type "tuple_iterator",data:= .fields #[.ref l,.int 0 0]}).objs.size)))
  {s with heap:=(s.heap.push {cls:= .type "tuple_iterator",data:= .fields #[.ref l,.int 0 0]}).push {cls:= .type "enumerate",data:= .fields #[.none,.bool false,.ref s.heap.objs.size,rawInt 0,.none,.none]}}):=
 .of_wp λprog w A R s h=>by
  obtain⟨hp,g,d,tk,os⟩:=s;have f0:=sub_enumerate;have f1:Heap.IsTuple (Shared.heap ⟨hp,g,d,tk,os⟩) l xs:=h.1
  wp_walk
  refine wpAny_stack_any λst=>Ac ?_
  split
  · rename_i c _ _ _ _ _;by_cases hc:(c==Value.type "enumerate")=true
    · rw[hc]
      wp_walk using CA f1
      exact⟨_,rfl,h.2⟩
    · have hc':(c==Value.type "enumerate")=false:=by simpa using hc
      rw[hc']
      wp_walk using CA f1
      exact⟨_,rfl,h.2⟩
  · wp_walk using CA f1
    exact⟨_,rfl,h.2⟩
section
variable{it l e:Addr}{xs:Array Value}{x old:Value}
theorem Yp{Q:Value→Shared→Prop}(hi:s.heap.IsTupleIter it l i)(hl:s.heap.IsTuple l xs)(hx:xs[i]?=some x)
 (q:∀h',h'.IsTupleIter it l (i+1)→Bt it s.heap h'→Q x {s with heap:=h'}):wpAny (model prog w) A (A_ (.ref it)) Q E s:=by
 obtain⟨o,h1,h2,h3⟩:=id hi;obtain⟨u,g1,_,n,g2⟩:=hl;unfold A_;refine Aa (AU (name:=BG "__next__") hi.typeIs Br (AH Br hi.typeIs C4 ?go (Cy _)))
 case go=> show wpAny _ _ (field (Value.ref it) 0>>=_) _ _ s;refine Aa (AY h1 h3 (x:= .ref l) rfl ?_);rw[if_neg (by intro z;cases z)];show wpAny _ _ (field (Value.ref it) 1>>=_) _ _ s;refine Aa (AY h1 h3 (x:= .int i 0) rfl ?_);show wpAny _ _ (seqItems? (Value.ref l)>>=_) _ _ s;refine Aa (AW g1 g2 ?_);simp only[AZ,hx];refine Aa (BJ h1 h3 (by simp) (Ac ⟨x,rfl,Ac (q _ ⟨_,Bb _ h1 (E3 (CU h3 _)),(Fz ..).trans h2,?_⟩ (AQ ..))⟩));rw[CU h3];simp[rawInt]
theorem zhQ{Q:Value→Shared→Prop}(hh:A.handled=none)(hi:s.heap.IsTupleIter it l i)(hl:s.heap.IsTuple l xs)(hx:xs[i]?=none)
 (q:∀h' e,DC it s.heap h'→(∃o,h'.get? e=some o∧o.cls= .type "StopIteration")→E (.ref e) {s with heap:=h'}):wpAny (model prog w) A (A_ (.ref it)) Q E s:=by
 obtain⟨o,h1,h2,h3⟩:=id hi;obtain⟨u,g1,_,n,g2⟩:=hl;unfold A_;refine Aa (AU (name:=BG "__next__") hi.typeIs Br (AH Br hi.typeIs C4 ?go (Cy _)))
 case go=>
  show wpAny _ _ (field (Value.ref it) 0>>=_) _ _ s;refine Aa (AY h1 h3 (x:= .ref l) rfl ?_);rw[if_neg (by intro z;cases z)];show wpAny _ _ (field (Value.ref it) 1>>=_) _ _ s;refine Aa (AY h1 h3 (x:= .int i 0) rfl ?_);show wpAny _ _ (seqItems? (Value.ref l)>>=_) _ _ s;refine Aa (AW g1 g2 ?_);simp only[AZ,hx];refine Aa (BA (Aa (BJ h1 h3 (by simp) ?_)));show wpAny _ _ (newExc (Value.type "StopIteration") []>>=_) _ _ _;refine Aa ?_;unfold newExc newTuple;refine Aa (AM ?_ (by size_fits));refine Aa (m:=firstArgMember _ _) (Dv (a:=Value.none) (by first | rfl | (simp only[firstArgMember];rfl)) ?_)
  refine AM ?_ (by size_fits);unfold raiseNew;refine Aa (Fn ?_)
  first | rw[show A.in1.handled=none from hh] | rw[hh]
  exact Aa (Ac (Gr (q _ _ (((AQ ..).extBut.push _).push _) ⟨_,Ak _ rfl,rfl⟩)))
theorem zjL{Q:Option Value→Shared→Prop}(he:IsEnum s.heap e it i old)(hi:s.heap.IsTupleIter it l i)(hl:s.heap.IsTuple l xs)(hx:xs[i]?=some x)(ne:e≠it)
 (q:∀h',IsEnumOut h' e it ((i:Int)+1) x s.heap.objs.size→h'.IsTupleIter it l (i+1)→h'.get? s.heap.objs.size=some {cls:= .type "tuple",data:= .seq #[.int i s.toks,x]}→
  (∀b o,b≠e→b≠it→s.heap.get? b=some o→h'.get? b=some o)→Q (some (.ref s.heap.objs.size)) {s with heap:=h',toks:=s.toks+1}):
 wpAny (model prog w) A (pyNext (.ref e)) Q E s:=by
 have ty:s.TypeIs (.ref e) "enumerate":=⟨_,he,rfl⟩;unfold pyNext;refine Aa (CH (AU (name:=BG "__next__") ty C_ (AH C_ ty EX ?go (EG _))))
 case go=>
  obtain⟨hp,g,d,tk,os⟩:=s;have lte:e<hp.objs.size:=Am he;have nT:hp.objs.size≠e:=C2 lte;show wpAny _ _ (field (Value.ref e) 2>>=_) _ _ _;refine Aa (AY he rfl (x:= .ref it) rfl ?_);refine Aa (Yp hi hl hx λk1 i1 b1=>?_)
  replace b1:Bt it hp k1:=b1
  have e1:IsEnum k1 e it i old:=(b1.2 e ne).trans he;show wpAny _ _ (field (Value.ref e) 3>>=_) _ _ ⟨k1,g,d,tk,os⟩;refine Aa (AY e1 rfl (x:=rawInt i) rfl ?_);show wpAny _ _ (field (Value.ref e) 4>>=_) _ _ ⟨k1,g,d,tk,os⟩;refine Aa (AY e1 rfl (x:= .none) rfl ?_);show wpAny _ _ (mkInt i>>=_) _ _ ⟨k1,g,d,tk,os⟩;refine Aa (wpAny_mkInt ?_);show wpAny _ _ (setField (Value.ref e) 3 (rawInt ((i:Int)+1))>>=_) _ _ ⟨k1,g,d,tk+1,os⟩;refine Aa (BN e1 (by simp) λk2 e2 b2=>?_)
  replace b2:Bt e k1 k2:=b2
  replace e2:IsEnum k2 e it ((i:Int)+1) old:=e2
  show wpAny _ _ (setField (Value.ref e) 4 .none>>=_) _ _ ⟨k2,g,d,tk+1,os⟩;refine Aa (BN e2 (by simp) λk3 e3 b3=>?_)
  replace b3:Bt e k2 k3:=b3
  replace e3:IsEnum k3 e it ((i:Int)+1) old:=e3
  show wpAny _ _ (newTuple [.int i tk,x]>>=_) _ _ ⟨k3,g,d,tk+1,os⟩;refine Aa (ET ?_);have z3:k3.objs.size=hp.objs.size:=by rw[b3.1,b2.1,b1.1]
  have k13:∀b o,b≠e→k1.get? b=some o→k3.get? b=some o:=λb o n h=>b3.extBut b o n (b2.extBut b o n h);have e4:IsEnum (k3.push {cls:= .type "tuple",data:= .seq #[.int i tk,x]}) e it ((i:Int)+1) old:=Ad _ e3;have t4:(k3.push {cls:= .type "tuple",data:= .seq #[.int i tk,x]}).get? hp.objs.size=some {cls:= .type "tuple",data:= .seq #[.int i tk,x]}:=by rw[←z3];exact Ak _ rfl
  have k4:∀b o,b≠e→k1.get? b=some o→(k3.push {cls:= .type "tuple",data:= .seq #[.int i tk,x]}).get? b=some o:=λb o n h=>Ad _ (k13 b o n h);show wpAny _ _ (BK (.ref e)>>=_) _ _ ⟨k3.push {cls:= .type "tuple",data:= .seq #[.int i tk,x]},g,d,tk+1,os⟩;rw[z3];generalize k3.push {cls:= .type "tuple",data:= .seq #[.int i tk,x]}=h4 at*;refine Aa ?_;unfold BK;refine Aa (AY e4 rfl (x:= .none) rfl (Ac ?_));rw[if_pos rfl];refine Aa (BA (Aa (AY e4 rfl (x:=old) rfl (Aa (BN e4 (by simp) λh5 e5 b5=>?_)))))
  replace b5:Bt e h4 h5:=b5
  replace e5:IsEnum h5 e it ((i:Int)+1) x:=e5
  show wpAny _ _ (Cv (.ref e) (.ref hp.objs.size)>>=_) _ _ ⟨h5,g,d,tk+1,os⟩;refine Aa ?_;unfold Cv;refine Aa (BN e5 (by simp) λh6 e6 b6=>?_)
  replace b6:Bt e h5 h6:=b6
  replace e6:IsEnumOut h6 e it ((i:Int)+1) x hp.objs.size:=e6
  refine BN e6 (by simp) λh7 e7 b7=>?_
  replace b7:Bt e h6 h7:=b7
  replace e7:IsEnumOut h7 e it ((i:Int)+1) x hp.objs.size:=e7
  have k7:∀b o,b≠e→h4.get? b=some o→h7.get? b=some o:=λb o n h=>b7.extBut b o n (b6.extBut b o n (b5.extBut b o n h));obtain⟨oi,g1,g2⟩:=i1;exact Aa (Ch (Ac ⟨_,rfl,Ac (q h7 e7 ⟨oi,k7 _ _ ne.symm (k4 _ _ ne.symm g1),g2⟩ (k7 _ _ nT t4) λb o n1 n2 h=>k7 b o n1 (k4 b o n1 (b1.extBut b o n2 h)))⟩))
theorem Z3{Q:Option Value→Shared→Prop}(hh:A.handled=none)(he:IsEnum s.heap e it i old)(hi:s.heap.IsTupleIter it l i)(hl:s.heap.IsTuple l xs)(hx:xs[i]?=none)
 (q:∀h',DC it s.heap h'→Q none {s with heap:=h'}):wpAny (model prog w) A (pyNext (.ref e)) Q E s:=by
 have ty:s.TypeIs (.ref e) "enumerate":=⟨_,he,rfl⟩;unfold pyNext;refine Aa (CH (AU (name:=BG "__next__") ty C_ (AH C_ ty EX ?go (EG _))))
 case go=> show wpAny _ _ (field (Value.ref e) 2>>=_) _ _ _;refine Aa (AY he rfl (x:= .ref it) rfl (Aa (zhQ hh hi hl hx λh' x k ⟨o,g1,g2⟩=>?_)));exact Aa (Cf (T:="StopIteration") (b:=true) ⟨o,g1,g2⟩ isSubtype_stop (Ac (q _ k)))
end
noncomputable def L7(K:Ae)(a:Addr):It:=
 ⟨λk H=>∃(xs:List V)(x:V),SqT K H a xs∧xs[k]?=some x,
  λk H v H'=>∃p,v= .ref p∧H p=none∧∀(xs:List V)(x:V),SqT K H a xs→xs[k]?=some x→H'=IC H p (.tup [.int k,x]),
  λk H=>∃(xs:List V),SqT K H a xs∧xs.length≤k⟩
theorem zjb{P:Bp}{w:World}{K:Ae}{es:List Expr}{kk:Nat}{pos:Pos}(a e it:Addr)(D:e≠it):
 Turn P w K (.Tuple es kk pos) (L7 K a) [e,it] e (λk h=>(∃old,IsEnum h e it k old)∧h.IsTupleIter it a k) where
 mem:=by simp
 obj:=λk h st c hc=>by
  obtain⟨⟨old,hz⟩,⟨oi,ei,_,di⟩⟩:=st;simp only[Aw,Bs,or_false] at hc;rcases hc with rfl | rfl
  · exact⟨_,hz,λv e=>by cases e⟩
  · exact⟨oi,ei,λv e=>by rw[di] at e;cases e⟩
 keep:=λk h h' st kp=>by obtain⟨⟨old,hz⟩,⟨oi,ei,ri⟩⟩:=st;exact⟨⟨old,kp e (by simp) _ hz⟩,⟨oi,kp it (by simp) _ ei,ri⟩⟩
 item:=by
  intro X hP hw hK hc k pins s σ H E I hf st hg;subst hP hw hK;obtain⟨xs,x,q1,hx⟩:=hg;obtain⟨⟨old,hz⟩,h1⟩:=st;obtain⟨its1,r1,g1,_⟩:=I.tuple q1;obtain⟨u1,hu1,v1⟩:=r1.get hx;have fz:=hf e (by simp);have fi:=hf it (by simp);refine zjL hz h1 g1 (by simpa using hu1) D λg a1 a2 a3 a5=>?_;refine⟨_,rfl,wpAny_letOwnedTupleGo_enum a1 λg' z' m'=>?_⟩;have zT:e≠s.heap.objs.size:=Ar (Am hz);have up:∀c o,c≠e→g.get? c=some o→g'.get? c=some o:=λc o hc e=>m'.extBut c o hc e;have fr:H s.heap.objs.size=none:=I.hok.fresh (Ah _);have I1:Inv X pins σ (IC H s.heap.objs.size (.tup [.int k,x])) {s with heap:=g',toks:=s.toks+1}:=by
   refine I.newTup (t':=s.toks+1) [e,it] (λc hc=>?_) (λc o hc e=>?_) (Ah _) ⟨[.int k s.toks,u1],.cons ⟨_,rfl⟩ (.cons v1 .nil),_,up _ _ zT.symm a3,rfl,rfl,_,rfl⟩
   · simp only[Aw,Bs,or_false] at hc;rcases hc with rfl | rfl
     · exact fz
     · exact fi
   · simp only[Aw,Bs,or_false,not_or] at hc;exact up c o hc.1 (a5 c o hc.1 hc.2 e)
  obtain⟨oi,ei,ri⟩:=a2;refine⟨.ref s.heap.objs.size,_,I1,rfl,⟨_,rfl,fr,λxs' x' s1 e1=>?_⟩,⟨⟨_,z'⟩,⟨oi,up _ _ D.symm ei,ri⟩⟩,λc hc=>?_⟩
  · rw[I.tuple_inj s1 q1,hx] at e1;cases e1;rfl
  · have fc:=hf c hc;have:c≠s.heap.objs.size:=by
     simp only[Aw,Bs,or_false] at hc;obtain⟨oi',ei',_⟩:=h1;rcases hc with rfl | rfl
     · exact zT
     · exact Ar (Am ei')
    rw[IZ this];exact fc.1
 done:=by
  intro X hP hw hK hc k pins s σ H E I hf st hg;subst hP hw hK;obtain⟨xs,q1,hend⟩:=hg;obtain⟨⟨old,hz⟩,h1⟩:=st;obtain⟨its1,r1,g1,_⟩:=I.tuple q1;have l1:=r1.length;refine Z3 (I.ok.hd hc) hz h1 g1 (by simp;omega) λg kp=>?_;refine⟨rfl,I.turnedN (t':=s.toks) [it] (λc hc=>?_) (λc o hc e=>?_)⟩
  · simp only[Aw,Bs,or_false] at hc;subst hc;exact hf c (by simp)
  · simp only[Aw,Bs,or_false] at hc;exact kp c o hc e
 self:=λ_ _ _ _ _ st h=>by obtain⟨⟨old,hz⟩,_⟩:=st;exact wpAny_pyIter_enum hz h
noncomputable def XZ(K:Ae)(ta:TA):TI:=λσ H R=>ta σ H λvs H1=>∃t,vs=[.ref t]∧(∃xs,SqT K H1 t xs)∧R (L7 K t) H1
theorem ZY{es:List Expr}{kk:Nat}{tpos:Pos}{a:Expr}{ta:TA}{p pos:Pos}(hg:Gl X "enumerate")(hm:X.mg "enumerate"=none)(ha:PA X [a] ta)
 (he:AL [a] X.env=(false,eval a X.env)::AL [] X.env:=by rfl) (hpl:(backTo pos (AL [] X.env)).any (·.1)=false:=by rfl):
 PI X (.Tuple es kk tpos) (.Call (.Name "enumerate" p) [a] [] pos) (XZ X.K ta):=by
 intro pins s σ H R I h;refine Cr (LI I hg hm zg8 ?_ (by decide) (by decide));refine Cc (IG (ha pos pins s σ H _ I h) λus s1 ⟨vs,H1,I1,r1,t,e,⟨xs,q1⟩,q⟩=>?_) he hpl;subst e;obtain⟨u1,rfl,v1⟩:=KA r1;cases v1;obtain⟨its1,rv1,g0,_⟩:=I1.tuple q1;refine callType_new PySem.F.called_enumerate (by decide) (PySem.F.typeCall_enumerate_1 _) (PySem.F.newCall_enumerate_1 _) (λobj=>PySem.F.args_object_init_2 obj _) PySem.F.entry_enumerate_new (Z4 t its1.toArray) ⟨g0,?_⟩;generalize hh5:((s1.heap.push {cls:= .type "tuple_iterator",data:= .fields #[.ref t,.int 0 0]}).push {cls:= .type "enumerate",data:= .fields #[.none,.bool false,.ref s1.heap.objs.size,rawInt 0,.none,.none]})=h5;have y1:(s1.heap.push {cls:= .type "tuple_iterator",data:= .fields #[.ref t,.int 0 0]}).objs.size=s1.heap.objs.size+1:=BB ..;have k5:∀c o,s1.heap.get? c=some o→h5.get? c=some o:=λc o e=>by rw[←hh5];exact Ad _ (Ad _ e)
 have e5:IsEnum h5 (s1.heap.objs.size+1) s1.heap.objs.size 0 .none:=by have:=Ak (s1.heap.push {cls:= .type "tuple_iterator",data:= .fields #[.ref t,.int 0 0]}) (o:={cls:= .type "enumerate",data:= .fields #[.none,.bool false,.ref s1.heap.objs.size,rawInt 0,.none,.none]}) rfl;rw[y1,hh5] at this;exact this
 have e1:h5.IsTupleIter s1.heap.objs.size t 0:=by rw[←hh5];exact⟨_,Ad _ (Ak _ rfl),rfl,rfl⟩
 have I2:Inv X pins σ H1 {s1 with heap:=h5}:=I1.kept (t':=s1.toks) k5
 have fp:∀c,s1.heap.objs.size≤c→IJ X pins H1 c:=λc hc=>I1.fpOk hc (I1.hok.fresh hc);show _∧_;rw[y1];refine⟨⟨_,e5,rfl⟩,wpAny_pyIter_enum e5 ?_⟩;refine⟨_,_,_,_,H1,rfl,I2,zjb t _ _ (C2 (C6 _)),⟨⟨_,e5⟩,e1⟩,λc hc=>fp c ?_,q⟩;simp only[Aw,Bs,or_false] at hc;rcases hc with rfl | rfl
 · exact CS _
 · exact Ah _
theorem Z6{K:Ae}{g:TG}{tb:TS}{D:Ends}(Pv:Nat→St→Hp→Prop)(h0:Pv 0 σ H)(hl:∀i σ H,i≤xs.length→Pv i σ H→SqT K H a xs)
 (hs:∀i x q σ H,xs[i]?=some x→H q=none→Pv i σ H→g (.ref q) σ (IC H q (.tup [.int i,x])) λσ2 H2=>tb {D with nx:=Pv (i+1),ct:=Pv (i+1),bk:=D.nx} σ2 H2) (hd:∀σ H,Pv xs.length σ H→D.nx σ H):
 ∃W:Nat→Nat→St→Hp→Prop,(∃m,W 0 m σ H)∧∀i m σ H,W i m σ H→
  ((L7 K a).stop i H∧D.nx σ H)∨((L7 K a).go i H∧∃N:St→Hp→Prop,(∀σ' H',N σ' H'→∃m',m'<m∧W (i+1) m' σ' H')∧∀x H',(L7 K a).yld i H x H'→g x σ H' λσ2 H2=>tb {D with nx:=N,ct:=N,bk:=D.nx} σ2 H2):=by
 refine⟨λi m σ H=>m=xs.length - i∧i≤xs.length∧Pv i σ H,⟨xs.length,by simp,AK _,h0⟩,?_⟩;rintro i m σ H ⟨rfl,hi,p⟩;have q:=hl i σ H hi p;by_cases hlt:i<xs.length
 · have e1:xs[i]?=some (xs[i]'hlt):=by simp
   refine .inr ⟨⟨xs,_,q,e1⟩,Pv (i+1),λσ' H' p'=>⟨xs.length - (i+1),by omega,rfl,hlt,p'⟩,λx H' y=>?_⟩;obtain⟨c,rfl,hc,y⟩:=y;rw[y xs _ q e1];exact hs i _ c σ H e1 hc p
 · have e:i=xs.length:=by omega
   subst e;exact .inl ⟨⟨xs,q,Ah _⟩,hd σ H p⟩
noncomputable def below(s t:JD):List JD:=match t.1 with
 | none=>[]
 | some l=>if s.1=some l then [] else [(s.1,some (l - 1))]
noncomputable def above(s t:JD):List JD:=match t.2 with
 | none=>[]
 | some h=>if s.2=some h then [] else [(some (h+1),s.2)]
noncomputable def KD(s t:JD):List JD:=below s t++above s t
structure Within(s t:JD):Prop where
 lo:∀l,s.1=some l→∃k,t.1=some k∧l≤k
 hi:∀h,s.2=some h→∃k,t.2=some k∧k≤h
 le:Ke t.1 t.2=true
theorem ZR{s t r:JD}(W:Within s t)(hr:r∈KD s t){n:Int}(h:Jr r.1 r.2 n=true):Jr s.1 s.2 n=true∧Jr t.1 t.2 n=false:=by
 obtain⟨a,b⟩:=s;obtain⟨c,d⟩:=t;obtain⟨w1,w2,w3⟩:=W;unfold KD below above at hr;rcases A3.mp hr with z | z
 · cases c with
   | none=>simp at z
   | some l=>
    by_cases e:a=some l
    · simp[e] at z
    · simp[e] at z;subst z;cases a with
      | none=>
       cases b with
       | none=>cases d<;>simp[Jr,JL,JQ] at h ⊢ <;>omega
       | some b=> obtain⟨k,hk,hk2⟩:=w2 b rfl;simp at hk;subst hk;simp[Jr,JL,JQ,Ke] at h w3 ⊢;omega
      | some a=>
       obtain⟨k0,hk0,hk02⟩:=w1 a rfl;simp at hk0;subst hk0;cases b with
       | none=>cases d<;>simp[Jr,JL,JQ] at h ⊢ <;>omega
       | some b=> obtain⟨k,hk,hk2⟩:=w2 b rfl;simp at hk;subst hk;simp[Jr,JL,JQ,Ke] at h w3 ⊢;omega
 · cases d with
   | none=>simp at z
   | some u=>
    by_cases e:b=some u
    · simp[e] at z
    · simp[e] at z;subst z;cases b with
      | none=>
       cases a with
       | none=>cases c<;>simp[Jr,JL,JQ] at h ⊢ <;>omega
       | some a=> obtain⟨k,hk,hk2⟩:=w1 a rfl;simp at hk;subst hk;simp[Jr,JL,JQ,Ke] at h w3 ⊢;omega
      | some b=>
       obtain⟨k0,hk0,hk02⟩:=w2 b rfl;simp at hk0;subst hk0;cases a with
       | none=>cases c<;>simp[Jr,JL,JQ] at h ⊢ <;>omega
       | some a=> obtain⟨k,hk,hk2⟩:=w1 a rfl;simp at hk;subst hk;simp[Jr,JL,JQ,Ke] at h w3 ⊢;omega
theorem ZT{s t:JD}(W:Within s t){n:Int}(h:Jr s.1 s.2 n=true)(h':Jr t.1 t.2 n=false):∃r∈KD s t,Jr r.1 r.2 n=true:=by
 obtain⟨a,b⟩:=s;obtain⟨c,d⟩:=t;obtain⟨w1,w2,w3⟩:=W;unfold KD below above;have:JL c n=false∨JQ d n=false:=by
  unfold Jr at h';cases e:JL c n with
  | false=>exact .inl rfl
  | true=>rw[e] at h';exact .inr h'
 have ha:JL a n=true:=((AF _ _).mp h).1;have hb:JQ b n=true:=((AF _ _).mp h).2;rcases this with z | z
 · cases c with
   | none=>simp[JL] at z
   | some l=>
    have e:a≠some l:=λe=>by rw[e] at ha;rw[ha] at z;cases z
    refine⟨(a,some (l - 1)),Bw _ (by simp[e]),?_⟩;unfold Jr;rw[ha];simp[JL,JQ] at z ⊢;omega
 · cases d with
   | none=>simp[JQ] at z
   | some u=>
    have e:b≠some u:=λe=>by rw[e] at hb;rw[hb] at z;cases z
    refine⟨(some (u+1),b),Ai _ (by simp[e]),?_⟩;unfold Jr;rw[hb];simp[JL,JQ] at z ⊢;omega
theorem ZS{s t r:JD}(W:Within s t)(hr:r∈KD s t):Ke r.1 r.2=true:=by
 obtain⟨a,b⟩:=s;obtain⟨c,d⟩:=t;obtain⟨w1,w2,w3⟩:=W;unfold KD below above at hr;rcases A3.mp hr with z | z
 · cases c with
   | none=>simp at z
   | some l=>
    by_cases e:a=some l
    · simp[e] at z
    · simp[e] at z;subst z;cases a with
      | none=>rfl
      | some a=> obtain⟨k0,hk0,hk02⟩:=w1 a rfl;simp at hk0 e;subst hk0;simp[Ke];omega
 · cases d with
   | none=>simp at z
   | some u=>
    by_cases e:b=some u
    · simp[e] at z
    · simp[e] at z;subst z;cases b with
      | none=>rfl
      | some b=> obtain⟨k0,hk0,hk02⟩:=w2 b rfl;simp at hk0 e;subst hk0;simp[Ke];omega
theorem Oc(s t:JD):(KD s t).length≤2:=by
 obtain⟨a,b⟩:=s;obtain⟨c,d⟩:=t;unfold KD below above;rw[A6];have h1:(match c with | none=>([]:List JD) | some l=>if a=some l then [] else [(a,some (l - 1))]).length≤1:=by
  cases c with
  | none=>simp
  | some l=>by_cases e:a=some l<;>simp[e]
 have h2:(match d with | none=>([]:List JD) | some h=>if b=some h then [] else [(some (h+1),b)]).length≤1:=by
  cases d with
  | none=>simp
  | some l=>by_cases e:b=some l<;>simp[e]
 exact Nat.add_le_add h1 h2
theorem zi6{s u:JD}(h:J4 (Kr s.1 u.1) (Ks s.2 u.2)=false):Within s (Kr s.1 u.1,Ks s.2 u.2):=by
 obtain⟨a,b⟩:=s;obtain⟨c,d⟩:=u;refine⟨λl e=>?_,λl e=>?_,by rw[VL,h];rfl⟩
 · have e:a=some l:=e;subst e;cases c with
   | none=>exact⟨l,rfl,EZ _⟩
   | some c=>exact⟨_,rfl,by split<;>omega⟩
 · have e:b=some l:=e;subst e;cases d with
   | none=>exact⟨l,rfl,EZ _⟩
   | some c=>exact⟨_,rfl,by split<;>omega⟩
theorem zhh{s:JD}(h:Ke s.1 s.2=true):Within s s:=⟨λl e=>⟨l,e,EZ _⟩,λl e=>⟨l,e,EZ _⟩,h⟩
theorem NX:∀(b a:List Str),a.Pairwise Jq→b.Pairwise Jq→(∀x∈a,x∈b)→a.Sublist b
 | [],a,_,_,h=>by
  cases a with
  | nil=>exact .slnil
  | cons x a=>exact absurd (h x Ao) (by simp)
 | y::b,a,ha,hb,h=>by
  rw[BV] at hb;cases a with
  | nil=>exact List.nil_sublist _
  | cons x a=>
   have ha':=ha;rw[BV] at ha;rcases Aw.mp (h x Ao) with e | e
   · subst e;refine List.Sublist.cons₂ _ (NX b a ha.2 hb.2 λz hz=>?_);rcases Aw.mp (h z (As _ hz)) with e | e
     · exact absurd e.symm (Mv (ha.1 z hz))
     · exact e
   · refine List.Sublist.cons _ (NX b (x::a) ha' hb.2 λz hz=>?_);have lt:Jq y z:=by
      rcases Aw.mp hz with rfl | hz
      · exact hb.1 _ e
      · exact P0 (hb.1 _ e) (ha.1 z hz)
     rcases Aw.mp (h z hz) with e2 | e2
     · exact absurd e2.symm (Mv lt)
     · exact e2
theorem zjA{w o m m':List WP}(h:IsMet w o m)(h':IsMet w o m'):m=m':=UR h.asc h'.asc λf=>by rw[h.sp,h'.sp]
theorem NE{w:List WP}{f:Str}{s:JD}(h:IR w f=some s):f∈w.map (·.1):=by obtain⟨p,hp,e,_⟩:=M3 h;exact e ▸ Az hp
theorem Od{w:List WP}{f:Str}(h:f∈w.map (·.1)):∃s,IR w f=some s:=ZG h
theorem VZ{w o m:List WP}(kw:WOk w)(h:IsMet w o m)(hl:m.length≤w.length):m.map (·.1)=w.map (·.1):=by
 have sub:(w.map (·.1)).Sublist (m.map (·.1)):=NX _ _ kw.asc h.asc λf hf=>by
  obtain⟨s,hs⟩:=Od hf;have:=h.sp f;rw[hs] at this;cases e:IR o f with
  | none=>rw[e] at this;exact NE this
  | some u=>rw[e] at this;exact NE this
 exact(sub.eq_of_length_le (by simpa using hl)).symm
theorem Zd{w o m:List WP}(h:IsMet w o m)(hw:(w.map (·.1)).Pairwise Jq)(hl:w.length<m.length):∃f∈o.map (·.1),f ∉ w.map (·.1):=by
 by_cases c:∃f∈m.map (·.1),f ∉ w.map (·.1)
 · obtain⟨f,h1,h2⟩:=c;obtain⟨s,hs⟩:=Od h1;have hf:=h.sp f;rw[hs] at hf;cases e:IR w f with
   | some t=>exact absurd (NE e) h2
   | none=> rw[e] at hf;exact⟨f,NE hf.symm,h2⟩
 · have sub:=NX (w.map (·.1)) (m.map (·.1)) h.asc hw λf hf=>by
    by_cases z:f∈w.map (·.1)
    · exact z
    · exact absurd ⟨f,hf,z⟩ c
   have:=sub.length_le;simp at this;omega
noncomputable def KW(w m:List WP)(i:Nat):List (List WP):=match w[i]?,m[i]? with
 | some p,some q=>(KD p.2 q.2).map λr=>m.take i++[(p.1,r)]++w.drop (i+1)
 | _,_=>[]
noncomputable def NZ(w m:List WP):List (List WP):=(BU w.length).flatMap (KW w m)
open Classical in
noncomputable def Jw(w o:List WP):List WP:=if h:∃m,IsMet w o m then Classical.choose h else []
theorem Q_{w o m:List WP}(h:IsMet w o m):Jw w o=m:=by unfold Jw;rw[dif_pos ⟨m,h⟩];exact zjA (Classical.choose_spec (⟨m,h⟩:∃m,IsMet w o m)) h
noncomputable def one(w o:List WP):List (List WP):=if KY w o=true then [w] else if w.length<(Jw w o).length then [w] else NZ w (Jw w o)
structure OneOk(w o:List WP)(ps:List (List WP)):Prop where
 ok:∀p∈ps,WOk p∧p.map (·.1)=w.map (·.1)
 sound:∀p∈ps,∀P,IX p P=true→IX w P=true∧(P.map (·.1)=w.map (·.1)→IX o P=false)
 full:∀P,IX w P=true→(∃p∈ps,IX p P=true)∨IX o P=true
 len:ps.length≤2*w.length+1
theorem MV(a b:List WP)(P:List PP):IX (a++b) P=(IX a P && IX b P):=DM
theorem P5(p:WP)(P:List PP):IX [p] P=Lw P p:=by unfold IX;simp
theorem zkL{P:List PP}{f:Str}{n:Int}(h:JX P f=some n):f∈P.map (·.1):=by
 unfold JX at h;cases e:P.find? (λx=>decide (x.1=f)) with
 | none=>rw[e] at h;cases h
 | some x=> have:decide (x.1=f)=true:=EC (p:=λ(x:PP)=>decide (x.1=f)) e;exact(of_decide_eq_true this) ▸ Az (Dk e)
theorem takesP_iff{P:List PP}{p:WP}:Lw P p=true↔∃n,JX P p.1=some n∧Jr p.2.1 p.2.2 n=true:=by
 cases e:JX P p.1 with
 | none=>rw[Wl e];simp
 | some n=>rw[RH e];simp
theorem VO{w o:List WP}(kw:WOk w)(ko:WOk o)(h:KY w o=true):OneOk w o [w]:=by
 refine⟨λp hp=>?_,λp hp P t=>?_,λP t=> .inl ⟨w,by simp,t⟩,by simp⟩
 · rw[Aj.mp hp];exact⟨kw,rfl⟩
 · rw[Aj.mp hp] at t;refine⟨t,λ_=>?_⟩;cases e:IX o P with
   | false=>rfl
   | true=>
    obtain⟨y,hy,ha⟩:=C7.mp h;unfold NR at ha;cases e1:IR w y.1 with
    | none=>rw[e1] at ha;cases ha
    | some s=> rw[e1] at ha;obtain⟨n,n1,n2⟩:=(Ol kw.asc P).mp t y.1 s e1;obtain⟨n',n1',n2'⟩:=takesP_iff.mp (C8.mp e y hy);rw[n1] at n1';cases n1';have:=Zl ha n;rw[NT,n2,n2'] at this;cases this
theorem Vg{w o m:List WP}(kw:WOk w)(ko:WOk o)(h:IsMet w o m)(hl:w.length<m.length):OneOk w o [w]:=by
 refine⟨λp hp=>?_,λp hp P t=>?_,λP t=> .inl ⟨w,by simp,t⟩,by simp⟩
 · rw[Aj.mp hp];exact⟨kw,rfl⟩
 · rw[Aj.mp hp] at t;refine⟨t,λhf=>?_⟩;cases e:IX o P with
   | false=>rfl
   | true=> obtain⟨f,f1,f2⟩:=Zd h kw.asc hl;obtain⟨s,hs⟩:=Od f1;obtain⟨n,n1,_⟩:=(Ol ko.asc P).mp e f s hs;exact absurd (hf ▸ zkL n1) f2
section
variable{w o m:List WP}
theorem Nw(kw:WOk w)(ko:WOk o)(h:IsMet w o m)(ap:KY w o=false)(hf:m.map (·.1)=w.map (·.1)){p q:WP}(hp:w[i]?=some p)(hq:m[i]?=some q):q.1=p.1∧Within p.2 q.2∧(∀n,Jr q.2.1 q.2.2 n=true→Jr p.2.1 p.2.2 n=true):=by
 have e1:q.1=p.1:=by
  have h1:(m.map (·.1))[i]?=some q.1:=by rw[Af,hq];rfl
  have h2:(w.map (·.1))[i]?=some p.1:=by rw[Af,hp];rfl
  rw[hf,h2] at h1;exact(A4 h1).symm
 have mp:=Ag hp;have s1:=Op kw.asc mp;have s2:=Op h.asc (Ag hq);rw[h.sp,e1,s1] at s2;refine⟨e1,?_⟩;cases e:IR o p.1 with
 | none=> rw[e] at s2;have:p.2=q.2:=A4 s2;rw[←this];exact⟨zhh (kw.ok p mp).2,λn z=>z⟩
 | some u=>
  rw[e] at s2;have:(Kr p.2.1 u.1,Ks p.2.2 u.2)=q.2:=A4 s2;rw[←this];obtain⟨y,hy,y1,y2⟩:=M3 e;have na:J4 (Kr p.2.1 u.1) (Ks p.2.2 u.2)=false:=by
   cases e2:J4 (Kr p.2.1 u.1) (Ks p.2.2 u.2) with
   | false=>rfl
   | true=> have:KY w o=true:=C7.mpr ⟨y,hy,by unfold NR;rw[y1,s1,y2];exact e2⟩;rw[ap] at this;cases this
  refine⟨zi6 na,λn z=>?_⟩;rw[NT] at z;exact((AF _ _).mp z).1
theorem zje(kw:WOk w)(ko:WOk o)(h:IsMet w o m)(ap:KY w o=false)(hf:m.map (·.1)=w.map (·.1))(i:Nat){P:List PP}(t:IX (m.take i) P=true):IX (w.take i) P=true:=by
 have hl:m.length=w.length:=by have:=congrArg Be hf;simpa using this
 refine C8.mpr λx hx=>?_;obtain⟨j,hj,e⟩:=DG hx;rw[AE] at hj;have hp:w[j]?=some x:=by rw[←e,List.getElem_take,Al]
 have hq:m[j]?=some (m[j]'(by omega)):=Al _;obtain⟨e1,_,e3⟩:=Nw kw ko h ap hf hp hq;have:=C8.mp t (m[j]'(by omega)) (by rw[List.mem_take_iff_getElem];exact⟨j,by omega,rfl⟩);obtain⟨n,n1,n2⟩:=takesP_iff.mp this;exact takesP_iff.mpr ⟨n,by rw[←e1];exact n1,e3 n n2⟩
theorem UN{w:List WP}{p:WP}(hp:w[i]?=some p)(P:List PP):IX w P=(IX (w.take i) P && (Lw P p && IX (w.drop (i+1)) P)):=by
 have e:w=w.take i++([p]++w.drop (i+1)):=by have h1:=(E6 i w).symm;obtain⟨hi,e⟩:=An.mp hp;rw[Bu hi,e] at h1;exact h1
 conv=>lhs;rw[e]
 rw[MV,MV,P5]
theorem VP(kw:WOk w)(ko:WOk o)(h:IsMet w o m)(ap:KY w o=false)(hl:m.length≤w.length):OneOk w o (NZ w m):=by
 have hf:=VZ kw h hl;have hl':m.length=w.length:=by have:=congrArg Be hf;simpa using this
 have mem:∀p∈NZ w m,∃i q r s,w[i]?=some q∧m[i]?=some r∧s∈KD q.2 r.2∧p=m.take i++[(q.1,s)]++w.drop (i+1):=λp hp=>by
  obtain⟨i,hi,z⟩:=C9.mp hp;have hi:=CK.mp hi;have e1:w[i]?=some w[i]:=by simp
  have e2:m[i]?=some (m[i]'(by omega)):=Al _;unfold KW at z;rw[e1,e2] at z;obtain⟨s,hs,rfl⟩:=AB.mp z;exact⟨i,_,_,s,e1,e2,hs,rfl⟩
 refine⟨λp hp=>?_,λp hp P t=>?_,λP t=>?_,?_⟩
 · obtain⟨i,q,r,s,e1,e2,hs,rfl⟩:=mem p hp;obtain⟨m1,m2,m3⟩:=Nw kw ko h ap hf e1 e2;have li:=(An.mp e1).1;have fe:((m.take i++[(q.1,s)]++w.drop (i+1)).map (·.1))=w.map (·.1):=by
    rw[Aq,Aq,Ey,hf,←Ey];have:w=w.take i++([q]++w.drop (i+1)):=by have h1:=(E6 i w).symm;rw[Bu li,(An.mp e1).2] at h1;exact h1
    conv=>rhs;rw[this]
    simp
   refine⟨⟨by have:=congrArg Be fe;simp only[Ab] at this;rw[this];exact kw.len,λx hx=>?_,by rw[fe];exact kw.asc⟩,fe⟩;rcases A3.mp hx with z | z
   · rcases A3.mp z with z | z
     · have fx:x.1∈w.map (·.1):=by rw[←hf];exact Az (BW z)
       obtain⟨y,hy,ey⟩:=AB.mp fx;obtain⟨j,hj,e⟩:=DG z;rw[AE] at hj;have hq:m[j]?=some x:=by rw[←e,List.getElem_take,Al]
       have hp':w[j]?=some (w[j]'(by omega)):=Al _;obtain⟨e1',e2',_⟩:=Nw kw ko h ap hf hp' hq;exact⟨ey ▸ (kw.ok y hy).1,e2'.le⟩
     · rw[Aj.mp z];exact⟨(kw.ok q (Ag e1)).1,ZS m2 hs⟩
   · exact kw.ok x (EF z)
 · obtain⟨i,q,r,s,e1,e2,hs,rfl⟩:=mem p hp;obtain⟨m1,m2,m3⟩:=Nw kw ko h ap hf e1 e2;rw[MV,MV,P5,AF,AF] at t;obtain⟨⟨t1,t2⟩,t3⟩:=t;obtain⟨n,n1,n2⟩:=takesP_iff.mp t2;obtain⟨b1,b2⟩:=ZR m2 hs n2;have tw:IX w P=true:=by
    rw[UN e1,zje kw ko h ap hf i t1,t3,(takesP_iff (p:=q)).mpr ⟨n,n1,b1⟩];rfl
   refine⟨tw,λ_=>?_⟩;cases e:IX o P with
   | false=>rfl
   | true=> have tm:=VB kw.asc ko.asc h P;rw[tw,e] at tm;have:=C8.mp tm r (Ag e2);obtain⟨n',n1',n2'⟩:=takesP_iff.mp this;rw[m1,n1] at n1';cases n1';rw[b2] at n2';cases n2'
 · have key:∀k,k≤w.length→IX (m.take k) P=true∨∃p∈NZ w m,IX p P=true:=by
    intro k
    induction k with
    | zero=>intro _;exact .inl rfl
    | succ k ih=>
     intro hk;rcases ih (by omega) with z | z
     · have e1:w[k]?=some (w[k]'(by omega)):=Al _;have e2:m[k]?=some (m[k]'(by omega)):=Al _;generalize w[k]'(by omega)=q at e1;generalize m[k]'(by omega)=r at e2;obtain⟨m1,m2,m3⟩:=Nw kw ko h ap hf e1 e2;have ts:=t;rw[UN e1,AF,AF] at ts;obtain⟨_,tq,td⟩:=ts;obtain⟨n,n1,n2⟩:=takesP_iff.mp tq;cases c:Jr r.2.1 r.2.2 n with
       | true=> refine .inl ?_;rw[Jt e2,MV,z,P5,takesP_iff.mpr ⟨n,by rw[m1];exact n1,c⟩];rfl
       | false=>
        obtain⟨s,hs,hn⟩:=ZT m2 n2 c;refine .inr ⟨m.take k++[(q.1,s)]++w.drop (k+1),?_,?_⟩
        · refine C9.mpr ⟨k,CK.mpr (by omega),?_⟩;unfold KW;rw[e1,e2];exact Az hs
        · rw[MV,MV,P5,z,td,(takesP_iff (p:=(q.1,s))).mpr ⟨n,n1,hn⟩];rfl
     · exact .inr z
   rcases key w.length (Ah _) with z | z
   · right
     rw[A0 (by omega)] at z;have tm:=VB kw.asc ko.asc h P;rw[z] at tm;exact((AF _ _).mp tm.symm).2
   · exact .inl z
 · have:∀l:List Nat,(l.flatMap (KW w m)).length≤2*l.length:=λl=>by
    induction l with
    | nil=>simp
    | cons i l ih=>
     rw[Dy,A6,AA];have:(KW w m i).length≤2:=by
      unfold KW
      split
      · rw[Ab];exact Oc _ _
      · simp
     omega
   have:=this (BU w.length);rw[Df] at this;exact Nat.le_succ_of_le this
end
theorem XG{w o:List WP}(kw:WOk w)(ko:WOk o)(hm:KY w o=false→IsMet w o (Jw w o)):OneOk w o (one w o):=by
 unfold one;cases ap:KY w o with
 | true=>rw[if_pos rfl];exact VO kw ko ap
 | false=>
  rw[if_neg (by simp)];by_cases hl:w.length<(Jw w o).length
  · rw[if_pos hl];exact Vg kw ko (hm ap) hl
  · rw[if_neg hl];exact VP kw ko (hm ap) ap (by omega)
theorem YV{w o:List WP}(kw:WOk w)(ko:WOk o):∃m,IsMet w o m:=by
 have:∀(l acc:List Str),(acc.Pairwise Jq)→∃ms:List Str,ms.Pairwise Jq∧(∀f,f∈ms↔f∈l∨f∈acc)∧ms.length≤l.length+acc.length:=λl=>by
  induction l with
  | nil=>exact λacc h=>⟨acc,h,λf=>by simp,by simp⟩
  | cons x l ih=>
   intro acc h;by_cases hx:x∈acc
   · obtain⟨ms,m1,m2,m3⟩:=ih acc h;refine⟨ms,m1,λf=>?_,by rw[AA];omega⟩;rw[m2,Aw];constructor
     · rintro(z | z)
       · exact .inl (.inr z)
       · exact .inr z
     · rintro((z | z) | z)
       · subst z;exact .inr hx
       · exact .inl z
       · exact .inr z
   · have ins:∀acc:List Str,acc.Pairwise Jq→x ∉ acc→∃bs:List Str,bs.Pairwise Jq∧(∀f,f∈bs↔f=x∨f∈acc)∧bs.length=acc.length+1:=λacc=>by
      induction acc with
      | nil=>exact λ_ _=>⟨[x],by simp,λf=>by simp,rfl⟩
      | cons y acc ih2=>
       intro h2 n2;rw[BV] at h2;have nx:x≠y:=λe=>n2 (by rw[e];exact Ao);by_cases lt:Jq x y
       · refine⟨x::y::acc,?_,λf=>by simp[Aw],rfl⟩;rw[BV,BV];refine⟨λz hz=>?_,h2⟩;rcases Aw.mp hz with rfl | hz
         · exact lt
         · exact P0 lt (h2.1 z hz)
       · obtain⟨bs,b1,b2,b3⟩:=ih2 h2.2 λz=>n2 (As _ z);refine⟨y::bs,?_,λf=>?_,by rw[AA,AA,b3]⟩
         · rw[BV];refine⟨λz hz=>?_,b1⟩;rcases(b2 z).mp hz with rfl | hz
           · exact QE lt nx
           · exact h2.1 z hz
         · rw[Aw,b2,Aw];constructor
           · rintro(z | z | z)
             · exact .inr (.inl z)
             · exact .inl z
             · exact .inr (.inr z)
           · rintro(z | z | z)
             · exact .inr (.inl z)
             · exact .inl z
             · exact .inr (.inr z)
     obtain⟨bs,b1,b2,b3⟩:=ins acc h hx;obtain⟨ms,m1,m2,m3⟩:=ih bs b1;refine⟨ms,m1,λf=>?_,by rw[AA];omega⟩;rw[m2,b2,Aw];constructor
     · rintro(z | z | z)
       · exact .inl (.inr z)
       · exact .inl (.inl z)
       · exact .inr z
     · rintro((z | z) | z)
       · exact .inr (.inl z)
       · exact .inl z
       · exact .inr (.inr z)
 obtain⟨ms,m1,m2,m3⟩:=this (w.map (·.1)) (o.map (·.1)) ko.asc;refine⟨LC w o ms,UY m1 (λf=>?_) (by simpa using m3)⟩;rw[m2];constructor
 · rintro(z | z)
   · obtain⟨s,hs⟩:=Od z;rw[hs];cases IR o f<;>rfl
   · obtain⟨s,hs⟩:=Od z;rw[hs];cases IR w f<;>rfl
 · intro h;cases e1:IR w f with
   | some s=>exact .inl (NE e1)
   | none=>
    cases e2:IR o f with
    | some s=>exact .inr (NE e2)
    | none=>rw[e1,e2] at h;cases h
theorem Vf{w o:List WP}(kw:WOk w)(ko:WOk o):OneOk w o (one w o):=by obtain⟨m,hm⟩:=YV kw ko;exact XG kw ko λ_=>by rw[Q_ hm];exact hm
noncomputable def IH(w:List WP)(os:List (List WP)):List (List WP):=os.foldl (λps o=>ps.flatMap λp=>one p o) [w]
theorem Rg(w:List WP)(os:List (List WP))(o:List WP):IH w (os++[o])=(IH w os).flatMap λp=>one p o:=by unfold IH;rw[Ej];rfl
structure AllOk(w:List WP)(os:List (List WP))(ps:List (List WP)):Prop where
 ok:∀p∈ps,WOk p∧p.map (·.1)=w.map (·.1)
 sound:∀p∈ps,∀P,IX p P=true→IX w P=true∧(P.map (·.1)=w.map (·.1)→∀o∈os,IX o P=false)
 full:∀P,IX w P=true→(∃p∈ps,IX p P=true)∨∃o∈os,IX o P=true
 len:ps.length≤7^os.length
theorem all_nil{w:List WP}(kw:WOk w):AllOk w [] [w]:=
 ⟨λp hp=>by rw[Aj.mp hp];exact⟨kw,rfl⟩,λp hp P t=>by rw[Aj.mp hp] at t;exact⟨t,λ_ o ho=>by simp at ho⟩,λP t=> .inl ⟨w,by simp,t⟩,by simp⟩
theorem Vq{w o:List WP}{os ps:List (List WP)}{f:List WP→List (List WP)}(h:AllOk w os ps)(hw:w.length≤3)(hf:∀p∈ps,OneOk p o (f p)):AllOk w (os++[o]) (ps.flatMap f):=by
 have lp:∀p∈ps,p.length=w.length:=λp hp=>by have:=congrArg Be (h.ok p hp).2;simpa using this
 refine⟨λp hp=>?_,λp hp P t=>?_,λP t=>?_,?_⟩
 · obtain⟨q,hq,hp⟩:=C9.mp hp;obtain⟨a,b⟩:=(hf q hq).ok p hp;exact⟨a,b.trans (h.ok q hq).2⟩
 · obtain⟨q,hq,hp⟩:=C9.mp hp;obtain⟨a,b⟩:=(hf q hq).sound p hp P t;obtain⟨c,d⟩:=h.sound q hq P a;refine⟨c,λe o' ho'=>?_⟩;rcases A3.mp ho' with z | z
   · exact d e o' z
   · rw[Aj.mp z];exact b (e.trans (h.ok q hq).2.symm)
 · rcases h.full P t with⟨q,hq,tq⟩ | ⟨o',ho',t'⟩
   · rcases(hf q hq).full P tq with⟨p,hp,tp⟩ | z
     · exact .inl ⟨p,C9.mpr ⟨q,hq,hp⟩,tp⟩
     · exact .inr ⟨o,Ai _ (by simp),z⟩
   · exact .inr ⟨o',Bw _ ho',t'⟩
 · have:∀l:List (List WP),(∀p∈l,(f p).length≤7)→(l.flatMap f).length≤7*l.length:=λl hl=>by
    induction l with
    | nil=>simp
    | cons i l ih=> rw[Dy,A6,AA];have h1:=hl i Ao;have h2:=ih λp hp=>hl p (As _ hp);omega
   have h1:=this ps λp hp=>by have h1:=(hf p hp).len;have h2:=lp p hp;omega
   rw[A6,E1,Nat.pow_succ];have:=h.len;omega
noncomputable def K7(w:List WP):List PP:=w.map λp=>(p.1,MH p.2.1 p.2.2)
theorem Qa(w:List WP):(K7 w).map (·.1)=w.map (·.1):=by unfold K7;rw[Bx];rfl
theorem Ro{w:List WP}(h:WOk w):POk (K7 w):=by refine⟨by unfold K7;rw[Ab];exact h.len,λx hx=>?_,by rw[Qa];exact h.asc⟩;obtain⟨p,hp,rfl⟩:=AB.mp hx;exact(h.ok p hp).1
theorem Wv{w:List WP}(h:WOk w):IX w (K7 w)=true:=by
 refine C8.mpr λp hp=>?_;have asc:((K7 w).map (·.1)).Pairwise Jq:=by rw[Qa];exact h.asc
 have:=V_ asc (x:=(p.1,MH p.2.1 p.2.2)) (AB.mpr ⟨p,hp,rfl⟩);exact takesP_iff.mpr ⟨_,this,Zg (h.ok p hp).2⟩
noncomputable def Nj(H:Hp)(r:Addr)(ps:List (List WP)):Prop:=∃qs:List (Addr×List WP),qs.map (·.2)=ps∧H r=some (.lst (qs.map λq=>V.ref q.1))∧∀q∈qs,WishAt H q.1 q.2
noncomputable def Wx:Sp:=λvs H Q _=>∃(v w:V)(s t:JD),vs=[v,w]∧SpanAt H v s.1 s.2∧SpanAt H w t.1 t.2∧Within s t∧∀(r:Addr)(ss:List (Addr×JD))(H':Hp),H r=none→Same H H'→ss.map (·.2)=KD s t→H' r=some (.lst (ss.map λx=>V.ref x.1))→(∀x∈ss,H' x.1=some (.tup [eV x.2.1,eV x.2.2]))→Q (.ref r) H'
noncomputable def Wr:Sp:=λvs H Q _=>∃(a b:Addr)(w o:List WP),vs=[.ref a,.ref b]∧WishAt H a w∧WishAt H b o∧WOk w∧WOk o∧w.length≤6∧o.length≤6∧
 ∀(r:Addr)(H':Hp),H r=none→Same H H'→Nj H' r (one w o)→OneOk w o (one w o)→Q (.ref r) H'
noncomputable def Uv:Sp:=λvs H Q _=>∃(a l:Addr)(w:List WP)(os:List (Addr×List WP)),vs=[.ref a,.ref l]∧WishAt H a w∧WOk w∧w.length≤3∧WsAt H l os∧os.length≤7∧(∀x∈os,x.2.length≤6)∧
 ∀(r:Addr)(H':Hp),Same H H'→Nj H' r (IH w (os.map (·.2)))→AllOk w (os.map (·.2)) (IH w (os.map (·.2)))→Q (.ref r) H'
noncomputable def ToldPc(H:Hp)(v:V)(ps:List (List WP)):Prop:=match ps with
 | []=>v= .non
 | p::_=>∃t,v= .ref t∧PieceAt H t (K7 p)
theorem ToldPc.same{H':Hp}{v:V}{ps:List (List WP)}(h:ToldPc H v ps)(s:Same H H'):ToldPc H' v ps:=by
 cases ps with
 | nil=>exact h
 | cons p ps=>obtain⟨t,h1,h2⟩:=h;exact⟨t,h1,h2.same s⟩
noncomputable def Ww:Sp:=λvs H Q _=>∃(a l:Addr)(w:List WP)(os:List (Addr×List WP)),vs=[.ref a,.ref l]∧WishAt H a w∧WOk w∧w.length≤3∧WsAt H l os∧os.length≤7∧(∀x∈os,x.2.length≤6)∧
 ∀(v:V)(H':Hp),Same H H'→ToldPc H' v (IH w (os.map (·.2)))→AllOk w (os.map (·.2)) (IH w (os.map (·.2)))→Q v H'
noncomputable def Wd:Sp:=λvs H Q _=>∃(l:Addr)(ws:List (Addr×List WP))(fs:List Str),vs=[.ref l]∧WsAt H l ws∧fs.length≤6∧(∀x∈ws,Nb fs x.2)∧
 ∀(r:Addr)(ms:List Str)(H':Hp),Same H H'→H r=none→H' r=some (.lst (ms.map V.str))→ms.Nodup→sortedS ms=true→(∀f,f∈ms↔∃x∈ws,f∈x.2.map (·.1))→Q (.ref r) H'
noncomputable def SN:Sp:=λvs H Q _=>∃(l f:Addr)(xs ys:List V),vs=[.ref l,.ref f]∧H l=some (.lst xs)∧H f=some (.lst ys)∧xs.length≤7∧ys.length≤3∧Q .non H
theorem QH{fs:List Str}{w:List WP}(kw:WOk w)(h:Nb fs w):w.length≤fs.length:=by
 have nd:(w.map (·.1)).Nodup:=Vr kw.asc;have:∀(a b:List Str),a.Nodup→(∀x∈a,x∈b)→a.length≤b.length:=λa=>by
  induction a with
  | nil=>intro b _ _;exact AK _
  | cons x a ih=>
   intro b hn hs;rw[Cm] at hn;have hx:=hs x Ao;have:=ih (b.erase x) hn.2 λy hy=>by have ne:y≠x:=λe=>hn.1 (e ▸ hy);exact(GI ne).mpr (hs y (As _ hy))
   rw[FT hx] at this;have:=Er hx;rw[AA];omega
 have:=this (w.map (·.1)) fs nd λf hf=>by obtain⟨p,hp,rfl⟩:=AB.mp hf;exact h p hp
 simpa using this
theorem VF{ms fs:List Str}(hn:ms.Nodup)(hs:∀x∈ms,x∈fs):ms.length≤fs.length:=by
 induction ms generalizing fs with
 | nil=>exact AK _
 | cons x a ih=>
  rw[Cm] at hn;have hx:=hs x Ao;have:=ih (fs:=fs.erase x) hn.2 λy hy=>by have ne:y≠x:=λe=>hn.1 (e ▸ hy);exact(GI ne).mpr (hs y (As _ hy))
  rw[FT hx] at this;have:=Er hx;rw[AA];omega
theorem QR{v:V}{A B:St→Hp→Prop}(h:A (σ.set i (some v)) H):KI i v σ H λσ2 H2=>Ky σ2 H2 λb H3=>if b=true then A σ2 H3 else B σ2 H3:=by
 show(if true=true then A (σ.set i (some v)) H else B (σ.set i (some v)) H)
 exact ID h
theorem Xw{A B:Hp→Prop}(h:A H):Ky σ H λb H3=>if b=true then A H3 else B H3:=by
 show(if true=true then A H else B H)
 exact ID h
theorem S9(h:n≤7^7*7):n<Ay:=Bn h (by decide)
theorem zkZ{K:Ae}{p:Addr}{Q:VK}{js:J5}{cap:St}{wi1:TI}{te:TE}(qs:List (Addr×List WP))(f:List WP→List (List WP))(hq:SqL K H a (qs.map λq=>V.ref q.1))(hp:H p=none)(hσ:Kf js σ=none::none::cap)
 (hb:∀q∈qs,(f q.2).length≤7) (hn:qs.length≤7^7) (hw:∀q∈qs,WishAt H q.1 q.2)
 (hi:∀q∈qs,∀(y:Option V)(H':Hp)(R:It→Hp→Prop),Same H H'→(∀(b:Addr)(rs:List (Addr×List WP))(H'':Hp),H' b=none→Same H' H''→H'' b=some (.lst (rs.map λx=>V.ref x.1))→rs.map (·.2)=f q.2→(∀x∈rs,WishAt H'' x.1 x.2)→R (Ln K b) H'')→wi1 (some (.ref q.1)::y::cap) H' R)
 (he:∀(u:Option V)(v:V)(H':Hp)(R:VK),R v H'→te (u::some v::cap) H' R)
 (hQ:∀(H':Hp)(zs:List (Addr×List WP)),Same H H'→zs.map (·.2)=qs.flatMap (λq=>f q.2)→H' p=some (.lst (zs.map λz=>V.ref z.1))→(∀z∈zs,WishAt H' z.1 z.2)→Q (.ref p) H'):
 Q3 (Ln K a) p js (KI 0) Ky wi1 (KI 1) Ky te σ H Q:=by
 have s0:=IM hp (.lst []);have flen:∀l:List (Addr×List WP),(∀q∈l,(f q.2).length≤7)→(l.flatMap λq=>f q.2).length≤7*l.length:=λl hl=>by
  induction l with
  | nil=>simp
  | cons x l ih=> rw[Dy,A6,AA];have h1:=hl x Ao;have h2:=ih λq hq=>hl q (As _ hq);omega
 have lq:(qs.map λq=>V.ref q.1).length=qs.length:=Ab _;refine⟨λi m σ' ys H'=>m=qs.length - i∧i≤qs.length∧(∃y0 y1,σ'=y0::y1::cap)∧Same H H'∧H' p=some (.lst ys)∧∃zs:List (Addr×List WP),ys=zs.map (λz=>V.ref z.1)∧zs.map (·.2)=(qs.take i).flatMap (λq=>f q.2)∧∀z∈zs,WishAt H' z.1 z.2,⟨qs.length,by simp,AK _,⟨none,none,hσ⟩,s0,IE,[],rfl,rfl,λz hz=>by simp at hz⟩,?_⟩;rintro i m σ' ys H1 ⟨rfl,hi1,⟨y0,y1,rfl⟩,s1,e1,zs,rfl,z1,z2⟩;refine⟨e1,?_⟩;by_cases hlt:i<qs.length
 · right
   have eq:qs[i]?=some qs[i]:=by simp
   have hx:(qs.map λq=>V.ref q.1)[i]?=some (V.ref qs[i].1):=by rw[Af,eq];rfl
   have hm:=Ag eq;generalize qs[i]=q at*;refine⟨⟨_,_,s1.seq hq,hx⟩,?_⟩;rintro x H2 ⟨rfl,hx2⟩;have:some (V.ref q.1)=some x:=hx.symm.trans (hx2 _ (s1.seq hq));cases this;refine QR ?_;refine hi q hm y1 H2 _ s1 λb rs H3 nb s3 eb rf rw'=>?_;have bp:b≠p:=λz=>by rw[z,e1] at nb;cases nb
   have e3:=s3 _ _ e1;have lr:rs.length=(f q.2).length:=by rw[←rf,Ab]
   have l1:zs.length≤7*i:=by have h1:=congrArg Be z1;rw[Ab] at h1;rw[h1];have:=flen (qs.take i) λq hq=>hb q (BW hq);rw[AE] at this;omega
   refine⟨λj m1 σ3 zs' H5=>m1=rs.length - j∧j≤rs.length∧(∃y1,σ3=some (.ref q.1)::y1::cap)∧Same H H5∧H5 p=some (.lst zs')∧H5 b=some (.lst (rs.map λx=>V.ref x.1))∧(∀x∈rs,WishAt H5 x.1 x.2)∧
    ∃us:List (Addr×List WP),zs'=us.map (λz=>V.ref z.1)∧us.map (·.2)=(qs.take i).flatMap (λq=>f q.2)++(f q.2).take j∧∀z∈us,WishAt H5 z.1 z.2,⟨rs.length,by simp,AK _,⟨_,rfl⟩,s1.trans s3,e3,eb,rw',zs,rfl,by rw[z1];simp,λz hz=>(z2 z hz).same s3⟩,?_⟩
   rintro j m1 σ3 zs' H5 ⟨rfl,hj,⟨y1',rfl⟩,s5,e5,b5,r5,us,rfl,u1,u2⟩;refine⟨e5,?_⟩;by_cases hjl:j<rs.length
   · right
     have er:rs[j]?=some rs[j]:=by simp
     have hy:(rs.map λx=>V.ref x.1)[j]?=some (V.ref rs[j].1):=by rw[Af,er];rfl
     have ef:(f q.2)[j]?=some rs[j].2:=by rw[←rf,Af,er];rfl
     have wr:=r5 _ (Ag er);generalize rs[j]=r at*;have lu:us.length≤7*i+j:=by have h1:=congrArg Be u1;rw[Ab,A6,AE] at h1;have h2:=flen (qs.take i) λq hq=>hb q (BW hq);rw[AE] at h2;omega
     have:=hb q hm;refine⟨⟨_,_,SqL.of b5,hy⟩,by rw[Ab];exact S9 (by omega),?_⟩;rintro x H6 ⟨rfl,hx6⟩;have:some (V.ref r.1)=some x:=hy.symm.trans (hx6 _ (SqL.of b5));cases this;have tl:=LJ (o:= .lst (us.map (λz=>V.ref z.1)++[V.ref r.1])) e5;refine QR ?_;refine he _ _ _ _ ⟨e5,rs.length - (j+1),by omega,rfl,hjl,⟨_,rfl⟩,JP s5 hp,IE,by rw[IZ bp];exact b5,λx hx=>(r5 x hx).keep tl,us++[r],by rw[Aq];rfl,?_,λz hz=>?_⟩
     · rw[Aq,u1,Jt ef,Dc];rfl
     · rcases A3.mp hz with z | z
       · exact(u2 _ z).keep tl
       · rw[Aj.mp z];exact wr.keep tl
   · left
     have e:j=rs.length:=by omega
     subst e;refine⟨⟨_,SqL.of b5,by rw[Ab];exact Ah _⟩,qs.length - (i+1),by omega,rfl,hlt,⟨_,_,rfl⟩,s5,e5,us,rfl,?_,u2⟩;have et:(f q.2).take rs.length=f q.2:=A0 (by omega);rw[u1,et,Jt eq,EQ];simp
 · left
   have e:i=qs.length:=by omega
   subst e;refine⟨⟨_,s1.seq hq,by rw[lq];exact Ah _⟩,hQ H1 zs s1 ?_ e1 z2⟩;rw[z1,Bd]
theorem zji{K:Ae}{l:Addr}{js:J5}{wi1:TI}{g1:TG}{te:TE}{M:List Str→Hp→Prop}(ws:List (Addr×List WP))(fs:List Str)(hl:SqL K H l (ws.map λq=>V.ref q.1))(hw:∀q∈ws,WishAt H q.1 q.2)(hin:∀x∈ws,Nb fs x.2)(hf:fs.length≤6)(hσ:Kf js σ=[none,none,none,none])
 (hi:∀x∈ws,∀(y1 y2 y3:Option V)(R:It→Hp→Prop),(∃xs,SqT K H x.1 xs)→R (LO K x.1) H→wi1 [some (.ref x.1),y1,y2,y3] H R)
 (hg:∀(x0 y1 y2 y3:Option V)(p:Addr×WP)(R:St→Hp→Prop),H p.1=some (.tup [.str p.2.1,eV p.2.2.1,eV p.2.2.2])→R [x0,some (.str p.2.1),some (eV p.2.2.1),some (eV p.2.2.2)] H→g1 (.ref p.1) [x0,y1,y2,y3] H R)
 (he:∀(x0 y2 y3:Option V)(f:Str)(R:VK),R (.str f) H→te [x0,some (.str f),y2,y3] H R)
 (hM:∀ks,ks.Nodup→ks.length≤6→(∀f,f∈ks↔∃x∈ws,f∈x.2.map (·.1))→M ks H):
 Q4 (Ln K l) js (KI 0) Ky wi1 g1 Ky te σ H M:=by
 have lq:(ws.map λq=>V.ref q.1).length=ws.length:=Ab _;have few:∀ks:List Str,ks.Nodup→(∀f,f∈ks→∃x∈ws,f∈x.2.map (·.1))→ks.length≤6:=λks nd h=>by refine AD (VF nd λf hf'=>?_) hf;obtain⟨x,hx,hx2⟩:=h f hf';obtain⟨p,hp,rfl⟩:=AB.mp hx2;exact hin x hx p hp
 refine⟨λi m σ' ks H'=>m=ws.length - i∧i≤ws.length∧(∃y0 y1 y2 y3,σ'=[y0,y1,y2,y3])∧H'=H∧ks.Nodup∧∀f,f∈ks↔∃x∈ws.take i,f∈x.2.map (·.1),⟨ws.length,by simp,AK _,⟨none,none,none,none,hσ⟩,rfl,EV,λf=>by simp⟩,?_⟩;rintro i m σ' ks H1 ⟨rfl,hi1,⟨y0,y1,y2,y3,rfl⟩,rfl,nd,mem⟩;by_cases hlt:i<ws.length
 · right
   have eq:ws[i]?=some ws[i]:=by simp
   have hx:(ws.map λq=>V.ref q.1)[i]?=some (V.ref ws[i].1):=by rw[Af,eq];rfl
   have hm:=Ag eq;generalize ws[i]=q at*;refine⟨⟨_,_,hl,hx⟩,?_⟩;rintro x H2 ⟨rfl,hx2⟩;have:some (V.ref q.1)=some x:=hx.symm.trans (hx2 _ hl);cases this;obtain⟨ps,hps,hA,hP⟩:=hw q hm;have hS:SqT K H2 q.1 (ps.map λp=>V.ref p.1):=SqT.of hA;refine QR ?_;refine hi q hm y1 y2 y3 _ ⟨_,hS⟩ ?_;refine⟨λj m1 σ3 zs H5=>m1=ps.length - j∧j≤ps.length∧(∃y1 y2 y3,σ3=[some (.ref q.1),y1,y2,y3])∧H5=H2∧zs.Nodup∧∀f,f∈zs↔(∃x∈ws.take i,f∈x.2.map (·.1))∨f∈((ps.map (·.2)).take j).map (·.1),⟨ps.length,by simp,AK _,⟨_,_,_,rfl⟩,rfl,nd,λf=>by rw[mem];simp⟩,?_⟩;rintro j m1 σ3 zs H5 ⟨rfl,hj,⟨y1',y2',y3',rfl⟩,rfl,nd5,mem5⟩;by_cases hjl:j<ps.length
   · right
     have er:ps[j]?=some ps[j]:=by simp
     have hy:(ps.map λx=>V.ref x.1)[j]?=some (V.ref ps[j].1):=by rw[Af,er];rfl
     have hpj:=hP _ (Ag er);have ew:(ps.map (·.2))[j]?=some ps[j].2:=by rw[Af,er];rfl
     generalize ps[j]=r at*;have l6:=few zs nd5 λf hf'=>by
      rcases(mem5 f).mp hf' with⟨x,hx',z⟩ | z
      · exact⟨x,BW hx',z⟩
      · refine⟨q,hm,?_⟩;rw[←hps];obtain⟨p,hp,rfl⟩:=AB.mp z;exact Az (BW hp)
     refine⟨⟨_,_,hS,hy⟩,by omega,?_⟩;rintro x H6 ⟨rfl,hx6⟩;have:some (V.ref r.1)=some x:=hy.symm.trans (hx6 _ hS);cases this;refine hg _ _ _ _ r _ hpj ?_;refine Xw ?_;refine he _ _ _ _ _ ⟨r.2.1,rfl,λzs' l' m' nd'=>⟨ps.length - (j+1),by omega,rfl,hjl,⟨_,_,_,rfl⟩,rfl,nd',λf=>?_⟩⟩;rw[m',mem5,Jt ew,Aq,A3];simp only[Ax,BH,Aj];constructor
     · rintro((z | z) | z)
       · exact .inl z
       · exact .inr (.inl z)
       · exact .inr (.inr z)
     · rintro(z | z | z)
       · exact .inl (.inl z)
       · exact .inl (.inr z)
       · exact .inr z
   · left
     have e:j=ps.length:=by omega
     subst e;refine⟨⟨_,hS,by rw[Ab];exact Ah _⟩,ws.length - (i+1),by omega,rfl,hlt,⟨_,_,_,_,rfl⟩,rfl,nd5,λf=>?_⟩;have et:(ps.map (·.2)).take ps.length=ps.map (·.2):=A0 (by simp);rw[mem5,et,hps,Jt eq];simp only[A3,Aj];constructor
     · rintro(⟨x,h1,h2⟩ | h)
       · exact⟨x,.inl h1,h2⟩
       · exact⟨q,.inr rfl,h⟩
     · rintro⟨x,h1 | h1,h2⟩
       · exact .inl ⟨x,h1,h2⟩
       · subst h1;exact .inr h2
 · left
   have e:i=ws.length:=by omega
   subst e;rw[Bd] at mem;exact⟨⟨_,hl,by rw[lq];exact Ah _⟩,hM ks nd (few ks nd λf hf'=>(mem f).mp hf') mem⟩
structure OnGrid(lo sz m:Int)(s:JD):Prop where
 low:∀l,s.1=some l→∃i,0≤i∧i<m∧l=lo+sz*i
 high:∀h,s.2=some h→∃j,0≤j∧j<m∧h=lo+sz*j - 1
noncomputable def JS(lo sz m:Int)(w:List WP):Prop:=∀p∈w,OnGrid lo sz m p.2
section
variable{lo sz m:Int}
theorem zh5{s t r:JD}(hs:OnGrid lo sz m s)(ht:OnGrid lo sz m t)(hr:r∈KD s t):OnGrid lo sz m r:=by
 obtain⟨a,b⟩:=s;obtain⟨c,d⟩:=t;unfold KD below above at hr;rcases A3.mp hr with z | z
 · cases c with
   | none=>simp at z
   | some l=>
    by_cases e:a=some l
    · simp[e] at z
    · simp[e] at z;subst z;refine⟨hs.low,λh e=>?_⟩;obtain⟨i,i0,i1,ei⟩:=ht.low l rfl;cases e;exact⟨i,i0,i1,by omega⟩
 · cases d with
   | none=>simp at z
   | some u=>
    by_cases e:b=some u
    · simp[e] at z
    · simp[e] at z;subst z;refine⟨λl e=>?_,hs.high⟩;obtain⟨j,j0,j1,ej⟩:=ht.high u rfl;cases e;exact⟨j,j0,j1,by omega⟩
theorem Z7{s t:JD}(hs:OnGrid lo sz m s)(ht:OnGrid lo sz m t):OnGrid lo sz m (Kr s.1 t.1,Ks s.2 t.2):=by
 obtain⟨a,b⟩:=s;obtain⟨c,d⟩:=t;refine⟨λl e=>?_,λh e=>?_⟩
 · cases a with
   | none=>exact ht.low l e
   | some a=>
    cases c with
    | none=>exact hs.low l e
    | some c=>
     by_cases q:a<c
     · simp only[Kr,if_pos q] at e;exact ht.low l e
     · simp only[Kr,if_neg q] at e;exact hs.low l e
 · cases b with
   | none=>exact ht.high h e
   | some b=>
    cases d with
    | none=>exact hs.high h e
    | some d=>
     by_cases q:d<b
     · simp only[Ks,if_pos q] at e;exact ht.high h e
     · simp only[Ks,if_neg q] at e;exact hs.high h e
theorem Py{w:List WP}{f:Str}{s:JD}(h:JS lo sz m w)(e:IR w f=some s):OnGrid lo sz m s:=by obtain⟨p,hp,_,rfl⟩:=M3 e;exact h p hp
theorem YR{w o n:List WP}(hw:JS lo sz m w)(ho:JS lo sz m o)(h:IsMet w o n):JS lo sz m n:=λp hp=>by
 have e:=h.sp p.1;rw[Op h.asc hp] at e;cases e1:IR w p.1 with
 | none=> rw[e1] at e;exact Py ho e.symm
 | some s=>
  rw[e1] at e;cases e2:IR o p.1 with
  | none=> rw[e2] at e;rw[A4 e];exact Py hw e1
  | some t=> rw[e2] at e;rw[A4 e];exact Z7 (Py hw e1) (Py ho e2)
theorem zh4{w o:List WP}(hw:JS lo sz m w)(ho:JS lo sz m o):JS lo sz m (Jw w o):=by
 by_cases h:∃n,IsMet w o n
 · obtain⟨n,hn⟩:=h;rw[Q_ hn];exact YR hw ho hn
 · unfold Jw;rw[dif_neg h];exact λp hp=>by simp at hp
theorem YS{w o r:List WP}(hw:JS lo sz m w)(ho:JS lo sz m o)(hr:r∈one w o):JS lo sz m r:=by
 have hm:=zh4 hw ho;unfold one at hr
 split at hr
 · rw[Aj.mp hr];exact hw
 · split at hr
   · rw[Aj.mp hr];exact hw
   · generalize Jw w o=n at*;obtain⟨i,_,hc⟩:=C9.mp hr;unfold KW at hc;cases e1:w[i]? with
     | none=>rw[e1] at hc;simp at hc
     | some p=>
      cases e2:n[i]? with
      | none=>rw[e1,e2] at hc;simp at hc
      | some q=>
       rw[e1,e2] at hc;obtain⟨b,hb,rfl⟩:=AB.mp hc;intro x hx;rcases A3.mp hx with z | z
       · rcases A3.mp z with z | z
         · exact hm x (BW z)
         · rw[Aj.mp z];exact zh5 (hw p (Ag e1)) (hm q (Ag e2)) hb
       · exact hw x (EF z)
theorem zjJ{w:List WP}{os:List (List WP)}(hw:JS lo sz m w)(ho:∀o∈os,JS lo sz m o):∀p∈IH w os,JS lo sz m p:=by
 unfold IH;have go:∀(os ps:List (List WP)),(∀o∈os,JS lo sz m o)→(∀p∈ps,JS lo sz m p)→∀p∈os.foldl (λps o=>ps.flatMap λp=>one p o) ps,JS lo sz m p:=by
  intro os
  induction os with
  | nil=>intro ps _ h;exact h
  | cons o os ih=> intro ps h1 h2;refine ih _ (λx hx=>h1 x (As _ hx)) λp hp=>?_;obtain⟨q,hq,hp⟩:=C9.mp hp;exact YS (h2 q hq) (h1 o Ao) hp
 exact go os [w] ho λp hp=>by rw[Aj.mp hp];exact hw
noncomputable def ME(lo sz:Int)(w:List WP):List PP:=w.map λp=>(p.1,p.2.1.getD (lo - sz))
theorem Rp(w:List WP):(ME lo sz w).map (·.1)=w.map (·.1):=by unfold ME;rw[Bx];rfl
theorem zko{w:List WP}(h:WOk w)(g:JS lo sz m w)(hz:1≤sz):IX w (ME lo sz w)=true:=by
 refine C8.mpr λp hp=>?_;have asc:((ME lo sz w).map (·.1)).Pairwise Jq:=by rw[Rp];exact h.asc
 have:=V_ asc (x:=(p.1,p.2.1.getD (lo - sz))) (AB.mpr ⟨p,hp,rfl⟩);refine takesP_iff.mpr ⟨_,this,?_⟩;have le:=(h.ok p hp).2;have gp:=g p hp;obtain⟨f,a,b⟩:=p;cases a with
 | some l=>
  cases b with
  | none=>simp[Jr,JL,JQ]
  | some u=>simp[Jr,JL,JQ,Ke] at le ⊢;exact le
 | none=>
  cases b with
  | none=>simp[Jr,JL,JQ]
  | some u=> obtain⟨j,j0,j1,ej⟩:=gp.high u rfl;have:0≤sz*j:=G6 (by omega) j0;simp[Jr,JL,JQ];omega
theorem Y4{w:List WP}(g:JS lo sz m w):∀x∈ME lo sz w,∃k, -1≤k∧k<m∧x.2=lo+sz*k∨x.2=lo+sz*(-1):=λx hx=>by
 obtain⟨p,hp,rfl⟩:=AB.mp hx;cases e:p.2.1 with
 | none=>exact⟨0,.inr (by show lo - sz=_;omega)⟩
 | some l=> obtain⟨i,i0,i1,ei⟩:=(g p hp).low l e;exact⟨i,.inl ⟨by omega,i1,ei⟩⟩
end
noncomputable def NI(fs:List Str)(lo sz wide:Int)(w:List WP):Prop:=∀p∈w,p.1∈fs∧OnGrid lo sz (2*wide) p.2
noncomputable def UA:Sp:=λvs H Q _=>∃(b g l t:Addr)(n lo sz wide:Int),vs=[.ref b,.ref t,.int wide]∧Well H b g l n∧n≤10^8∧H t=some (.tup [.int lo,.int sz])∧1≤sz∧sz≤10^10∧1≤wide∧wide≤100∧
 ∀(r:Addr)(a b':Option Int)(H':Hp),H' r=some (.tup [eV a,eV b'])→(Ke a b'=true∧OnGrid lo sz (2*wide) (a,b'))→Well H' b g l (n+3)→SameB b g H H'→Q (.ref r) H'
noncomputable def UE:Sp:=λvs H Q _=>∃(b g l a t:Addr)(n lo sz wide:Int)(fs:List Str),vs=[.ref b,.ref a,.ref t,.int wide]∧Well H b g l n∧n≤10^7∧NamesAt H b g a fs∧H t=some (.tup [.int lo,.int sz])∧1≤sz∧sz≤10^10∧1≤wide∧wide≤100∧
 ∀(r:Addr)(w:List WP)(H':Hp),WishAt H' r w→WOk w→NI fs lo sz wide w→w.length≤6→Well H' b g l (n+30)→SameB b g H H'→Q (.ref r) H'
noncomputable def V6:Sp:=λvs H Q _=>∃(b g l a t:Addr)(n lo sz wide many:Int)(fs:List Str),vs=[.ref b,.ref a,.ref t,.int wide,.int many]∧Well H b g l n∧n≤10^6∧NamesAt H b g a fs∧H t=some (.tup [.int lo,.int sz])∧1≤sz∧sz≤10^10∧1≤wide∧wide≤100∧0≤many∧many≤400∧
 ∀(r:Addr)(ws:List (Addr×List WP))(H':Hp),H r=none→WsAt H' r ws→(ws.length:Int)=many→(∀x∈ws,NI fs lo sz wide x.2∧x.2.length≤6)→Well H' b g l (n+40*many)→SameB b g H H'→Q (.ref r) H'
noncomputable abbrev Nn:=Sum (Option Int) Str
noncomputable def OV:Nn→Value→Bool
 | .inl none,.none=>true
 | .inl (some i),v=>Value.isInt i v
 | .inr x,v=>Et x v
 | _,_=>false
theorem Mc{k:Nn}{v:Value}(h:OV k v=true):(k= .inl none∧v= .none)∨(∃i t,k= .inl (some i)∧v= .int i t)∨∃x t,k= .inr x∧v= .str x t:=by
 cases k with
 | inl o=>
  cases o with
  | none=>cases v<;>simp[OV] at h ⊢
  | some i=> obtain⟨t,e⟩:=Value.isInt_shape (k:=i) (v:=v) h;exact .inr (.inl ⟨i,t,rfl,e⟩)
 | inr x=> obtain⟨t,e⟩:=DD (x:=x) (v:=v) h;exact .inr (.inr ⟨x,t,rfl,e⟩)
noncomputable def OM(w:World):Nn→Int
 | .inl none=>0xFCA86420
 | .inl (some i)=>hashInt i
 | .inr x=>hashStr w x
theorem Z8{Q:Int→Shared→Prop}(h:Q 0xFCA86420 {s with toks:=s.toks+1}):wpAny (model prog w) A (pyHash .none) Q E s:=by
 have ty:s.TypeIs .none "NoneType":=typeIs_none s;unfold pyHash;refine Aa ?_;rw[cRoomFor,if_neg (by rw[show [Value.none].any Value.onHeap=false from rfl];exact Au)];refine Ac ?_;refine Aa (Cn ty Db.lookup ?_);rw[if_neg (by rw[beq_builtin_none];exact Au)];refine Aa (Cn ty Db.lookup ?_);refine Aa (DA ty Db (AH Db ty PySem.F.entry_NoneType_hash ?go (PySem.F.args_NoneType_hash_1 _)))
 case go=>
  show wpAny _ _ (do ret (←mkInt 0xFCA86420)) _ _ s
  refine wpAny_ret_mkInt ?_;dsimp only;unfold pyHashByItsType.reduced;rw[if_pos (by decide)];exact Ac h
theorem YB{Q:Bool→Shared→Prop}(h:Q true s):wpAny (model prog w) A (eqBool .none .none) Q E s:=by
 unfold eqBool
 try with_reducible refine AN ?_
 rw[if_pos (by rfl)];exact Aa (BA (Ac h))
noncomputable def QG(prog:Bp)(w:World):KeyKind prog w Nn where
 is:=OV
 hash:=OM w
 inj:=λv a b ha hb=>by
  rcases Mc ha with⟨rfl,rfl⟩ | ⟨i,t,rfl,rfl⟩ | ⟨x,t,rfl,rfl⟩
  all_goals
   rcases Mc hb with⟨rfl,e⟩ | ⟨j,u,rfl,e⟩ | ⟨y,u,rfl,e⟩
   all_goals first | rfl | (injection e with e1 _;rw[e1];done) | (exact Value.noConfusion e)
 byValue:=λk v h=>by rcases Mc h with⟨rfl,rfl⟩ | ⟨i,t,rfl,rfl⟩ | ⟨x,t,rfl,rfl⟩<;>rfl
 pyHash:=λhv h=>by
  rcases Mc hv with⟨rfl,rfl⟩ | ⟨i,t,rfl,rfl⟩ | ⟨x,t,rfl,rfl⟩
  · exact Z8 h
  · exact wpAny_pyHash_int h
  · exact wpAny_pyHash_str h
 eqBool:=λhu hv h=>by
  rcases Mc hu with⟨rfl,rfl⟩ | ⟨i,t,rfl,rfl⟩ | ⟨x,t,rfl,rfl⟩
  · rcases Mc hv with⟨rfl,rfl⟩ | ⟨j,u,rfl,rfl⟩ | ⟨y,u,rfl,rfl⟩
    · rw[decide_eq_true rfl] at h;exact YB h
    · rw[decide_eq_false (by intro z;cases z)] at h;exact EH j u _ _ _ _ h
    · rw[decide_eq_false (by intro z;cases z)] at h;exact EI y u _ _ _ _ h
  · rcases Mc hv with⟨rfl,rfl⟩ | ⟨j,u,rfl,rfl⟩ | ⟨y,u,rfl,rfl⟩
    · rw[decide_eq_false (by intro z;cases z)] at h;exact EJ i t _ _ _ _ h
    · rw[show decide ((Sum.inl (some i):Nn)=Sum.inl (some j))=(i==j) by rw[Bm];simp] at h;exact wpAny_eqBool_int h
    · rw[decide_eq_false (by intro z;cases z)] at h;exact DO i t y u _ _ _ _ h
  · rcases Mc hv with⟨rfl,rfl⟩ | ⟨j,u,rfl,rfl⟩ | ⟨y,u,rfl,rfl⟩
    · rw[decide_eq_false (by intro z;cases z)] at h;exact EK x t _ _ _ _ h
    · rw[decide_eq_false (by intro z;cases z)] at h;exact DP x t j u _ _ _ _ h
    · rw[show decide ((Sum.inr x:Nn)=Sum.inr y)=decide (x=y) by rw[Bm];simp] at h;exact wpAny_eqBool_str h
 «strs»:=λk x t v h=>by
  rcases Mc h with⟨rfl,e⟩ | ⟨i,u,rfl,e⟩ | ⟨y,u,rfl,e⟩
  · exact nomatch e
  · exact nomatch e
  · injection e with e1 _
    subst e1;cases v<;>rfl
noncomputable def Nc(p:WP):List Nn:=[.inr p.1,.inl p.2.1,.inl p.2.2]
theorem Ua{p q:WP}(h:Nc p=Nc q):p=q:=by obtain⟨f,a,b⟩:=p;obtain⟨g,c,d⟩:=q;unfold Nc at h;simp only[EE,Sum.inr.injEq,Sum.inl.injEq,and_true] at h;obtain⟨rfl,rfl,rfl⟩:=h;rfl
inductive RefsAre(prog:Bp)(w:World)(h:Heap):List WP→List Value→Prop
 | nil:RefsAre prog w h [] []
 | cons {p:WP} {b:Addr} {ps:List WP} {vs:List Value}:IsTupleKey (QG prog w) h (Nc p) b→RefsAre prog w h ps vs→RefsAre prog w h (p::ps) (.ref b::vs)
noncomputable def IsWishKey(prog:Bp)(w:World)(h:Heap)(ws:List WP)(a:Addr):Prop:=∃o items n,h.get? a=some o∧o.cls= .type "tuple"∧o.data= .seq items n∧RefsAre prog w h ws items.toList
theorem RefsAre.inj{x y:List WP}{vs:List Value}(hx:RefsAre prog w h x vs)(hy:RefsAre prog w h y vs):x=y:=by
 induction hx generalizing y with
 | nil=>cases hy;rfl
 | cons h1 _ ih=>
  cases hy with
  | cons h2 t2=>rw[Ua (h1.inj h2),ih t2]
theorem RefsAre.keeps{h':Heap}{d:Addr}{o:Obj}{es:Array DictEntry}{ep:Nat}{x:List WP}{vs:List Value}(hx:RefsAre prog w h x vs)(ho:h.get? d=some o)(hd:o.data= .dict es ep)(hs:Bt d h h'):RefsAre prog w h' x vs:=by
 induction hx with
 | nil=>exact .nil
 | cons h1 _ ih=>exact .cons (h1.keeps ho hd hs) ih
theorem IsWishKey.typeIs{ws:List WP}(x:IsWishKey prog w s.heap ws a):s.TypeIs (.ref a) "tuple":=let⟨o,_,_,ho,hc,_⟩:=x;⟨o,ho,hc⟩
theorem IsWishKey.inj{x y:List WP}(hx:IsWishKey prog w h x a)(hy:IsWishKey prog w h y a):x=y:=by obtain⟨o,items,n,ho,_,hd,hi⟩:=hx;obtain⟨o',items',n',ho',_,hd',hi'⟩:=hy;rw[ho] at ho';cases ho';rw[hd] at hd';injection hd' with h1 _;subst h1;exact hi.inj hi'
theorem IsWishKey.keeps{h':Heap}{ws:List WP}{d:Addr}{o:Obj}{es:Array DictEntry}{ep:Nat}(x:IsWishKey prog w h ws a)(ho:h.get? d=some o)(hd:o.data= .dict es ep)(hs:Bt d h h'):IsWishKey prog w h' ws a:=by
 obtain⟨o',items,n,ho',hc,hd',hi⟩:=x;have hne:a≠d:=λe=>by subst e;rw[ho] at ho';cases ho';rw[hd] at hd';exact nomatch hd'
 exact⟨o',items,n,(hs.2 a hne).trans ho',hc,hd',hi.keeps ho hd hs⟩
noncomputable def Qq(w:World)(p:WP):Int:=reduceHash (DN ((Nc p).map (OM w)))
noncomputable def Qp(w:World)(ws:List WP):Int:=reduceHash (DN (ws.map (Qq w)))
theorem Z9{p:WP}{Q:Int→Shared→Prop}(hu:A.units<cLine)(hk:IsTupleKey (QG prog w) s.heap (Nc p) b)(h:Q (Qq w p) {s with toks:=s.toks+4}):wpAny (model prog w) A (pyHash (.ref b)) Q E s:=
 wpAny_pyHash_tuple hu hk h
theorem ZB{ws:List WP}{Q:Int→Shared→Prop}(hu:A.units+1<cLine)(hk:IsWishKey prog w s.heap ws a)(h:Q (Qp w ws) {s with toks:=s.toks+(4*ws.length+1)}):
 wpAny (model prog w) A (pyHash (.ref a)) Q E s:=by
 have ty:=hk.typeIs;obtain⟨o,items,n,ho,_,hd,hi⟩:=hk;unfold pyHash
 first | unfold pyHashByItsType | skip
 first | refine Aa (wpAny_cRoomFor_or (.inr (by omega)) ?_) | skip
 refine Aa (Cn ty Dr.lookup ?_);rw[if_neg (by rw[beq_builtin_none];exact Au)];refine Aa (Cn ty Dr.lookup ?_);refine Aa (DA ty Dr (AH Dr ty PySem.F.entry_tuple_hash ?go (PySem.F.args_tuple_hash_1 _)))
 case go=>
  show wpAny _ _ (DB (.ref a)>>=_) _ _ s;refine Aa (Ff ho hd (Aa ?_));rw[←Fg];refine CP _ (λrest(b:Array Int)s'=>∃done left,ws=done++left∧RefsAre prog w s.heap left rest∧b.toList=done.map (Qq w)∧s'={s with toks:=s.toks+4*done.length}) _ ?step ?done _ _ ⟨[],ws,rfl,hi,rfl,rfl⟩
  case step=>
   rintro x rest b s' ⟨dn,left,rfl,hl,hb,rfl⟩;cases hl with
   | @cons p c ps _ h1 hl'=>
    refine Aa (Z9 (p:=p) (by show A.units+1<cLine;exact hu) (by exact h1) ?_)
    first
     | exact Ac ⟨dn++[p],ps,by simp,hl',by simp[hb],by simp;omega⟩
     | exact Aa (Ac (Ac ⟨dn++[p],ps,by simp,hl',by simp[hb],by simp;omega⟩))
  case done=>
   rintro b s' ⟨dn,left,rfl,hl,hb,rfl⟩;cases hl;rw[Du] at h;show wpAny _ _ (retInt (DN b.toList)) _ _ _;rw[hb];refine wpAny_ret_mkInt ?_;unfold Qp reduceHash at h;dsimp only;unfold pyHashByItsType.reduced
   split at h
   · rename_i hr;rw[if_pos hr];exact Ac (by simpa [Nat.add_assoc] using h)
   · rename_i hr;rw[if_neg hr];exact Aa (BA (Ac (by simpa [Nat.add_assoc] using h)))
theorem YC{x y:List WP}{P:Fin→Shared→Prop}(hu:A.units<cLine)(hx:IsWishKey prog w s.heap x a)(hy:IsWishKey prog w s.heap y b)(h:P (.done (.ret (.bool (decide (x=y))))) s):
 wpAny (model prog w) A (Builtin.«tuple.__eq__» ⟨[.ref a,.ref b],[]⟩) P E s:=by
 have tb:=hy.typeIs;obtain⟨oa,us,na,g1,_,g2,g3⟩:=hx;obtain⟨ob,vs,nb,k1,_,k2,k3⟩:=hy;show wpAny _ _ (isInstance (.ref b) (.type "tuple")>>=_) _ _ s;refine Aa (Cf tb isSubtype_tuple_tuple ?_);simp only[CI,AR,if_false];refine Aa (Ff g1 g2 (Aa (Ff k1 k2 (Aa ?_))));refine CP _
  (λrest r s'=>r.1=none∧s'=s∧∃x' y' us' vs',rest=List.zip us' vs'∧RefsAre prog w s.heap x' us'∧RefsAre prog w s.heap y' vs'∧decide (x'=y')=decide (x=y)∧(us'.length==vs'.length)=(us.size==vs.size))
  _ ?step ?done _ _ ⟨rfl,rfl,x,y,us.toList,vs.toList,rfl,g3,k3,rfl,by simp⟩
 case step=>
  rintro⟨u,v⟩ rest r s' ⟨hr,rfl,x',y',us',vs',hz,q1,q2,hdec,hlen⟩;cases q1 with
  | nil=>simp at hz
  | @cons p c ps us'' c1 q1'=>
   cases q2 with
   | nil=>simp at hz
   | @cons p2 c' ps2 vs'' c2 q2'=>
    simp only[List.zip_cons_cons,EE,Prod.mk.injEq] at hz;obtain⟨⟨rfl,rfl⟩,rfl⟩:=hz;refine Aa (wpAny_eqBool_tuple hu c1 c2 ?_);by_cases hk:p=p2
    · subst hk;rw[decide_eq_true rfl];simp only[CI,AR,if_false];refine Ac ⟨rfl,rfl,ps,ps2,us'',vs'',rfl,q1',q2',?_,by simpa using hlen⟩;rw[←hdec];by_cases e:ps=ps2<;>simp[e]
    · rw[decide_eq_false (λz=>hk (Ua z))];simp only[G5,if_true];rw[show decide (x=y)=false by rw[←hdec];simp[hk]] at h;exact Aa (Ac (Ac (Ac h)))
 case done=>
  rintro⟨r1,r2⟩ s' ⟨hr,rfl,x',y',us',vs',hz,q1,q2,hdec,hlen⟩;simp only at hr;subst hr;refine Ac ?_;have fin:(us.size==vs.size)=decide (x=y):=by
   rw[←hdec,←hlen];cases q1 with
   | nil=>cases q2<;>simp
   | cons _ _=>
    cases q2 with
    | nil=>simp
    | cons _ _=>simp at hz
  show P (.done (.ret (.bool (us.size==vs.size)))) s';rw[fin];exact h
theorem YD{x y:List WP}{Q:Bool→Shared→Prop}(hu:A.units+1<cLine)(hx:IsWishKey prog w s.heap x a)(hy:IsWishKey prog w s.heap y b)(h:Q (decide (x=y)) s):
 wpAny (model prog w) A (eqBool (.ref a) (.ref b)) Q E s:=by
 unfold eqBool
 try with_reducible refine AN ?_
 by_cases hab:(Value.ref a==Value.ref b)=true
 · rw[if_pos hab];have e:a=b:=by have:=eq_of_beq hab;injection this
   subst e;obtain rfl:=hx.inj hy;exact Aa (BA (Ac (by simpa using h)))
 · rw[if_neg hab];refine Aa (BQ (op:= .Eq) hx.typeIs hy.typeIs D5
    (AH D5 hx.typeIs PySem.F.entry_tuple_eq (YC (by show A.units+1<cLine;exact hu) hx hy ⟨_,rfl,(λe=>nomatch e),Bk h⟩) (PySem.F.args_tuple_eq_2 _ _)) (by omega))
theorem zjl{p:WP}{Q:Bool→Shared→Prop}(hk:IsTupleKey (QG prog w) s.heap (Nc p) b)(h:Q true s):wpAny (model prog w) A (eqIsQuiet (n+1) (.ref b)) Q E s:=by
 have ty:=hk.typeIs;obtain⟨o,its,m,h1,_,h2,h3⟩:=hk;unfold eqIsQuiet;refine Aa (Cn ty D5.lookup ?_);show wpAny _ _ (isInstance (.ref b) (.type "tuple")>>=_) _ _ s;refine Aa (Cf ty isSubtype_tuple_tuple ?_);simp only[CI,AR,if_false];refine Aa (AW h1 h2 (Aa ?_));show wpAny _ _ (forIn its _ _) _ _ s;rw[←Fg];refine CP _ (λrest r s'=>r.1=none∧s'=s∧∀v∈rest,carriedByValue v=true) _ ?step ?done _ _ ⟨rfl,rfl,h3.byValue⟩
 case step=> rintro v rest r s' ⟨hr,rfl,al⟩;rw[eqIsQuiet_byValue _ (al v Ao)];refine Aa (Ac ?_);simp only[CI,AR,if_false];exact Ac ⟨rfl,rfl,λu hu'=>al u (As _ hu')⟩
 case done=> rintro⟨r1,r2⟩ s' ⟨hr,rfl,_⟩;simp only at hr;subst hr;exact Ac h
theorem zjk{ws:List WP}{Q:Bool→Shared→Prop}(hk:IsWishKey prog w s.heap ws a)(h:Q true s):wpAny (model prog w) A (eqIsQuiet 8 (.ref a)) Q E s:=by
 have ty:=hk.typeIs;obtain⟨o,its,m,h1,_,h2,h3⟩:=hk;unfold eqIsQuiet;refine Aa (Cn ty D5.lookup ?_);show wpAny _ _ (isInstance (.ref a) (.type "tuple")>>=_) _ _ s;refine Aa (Cf ty isSubtype_tuple_tuple ?_);simp only[CI,AR,if_false];refine Aa (AW h1 h2 (Aa ?_));show wpAny _ _ (forIn its _ _) _ _ s;rw[←Fg];refine CP _ (λrest r s'=>r.1=none∧s'=s∧∃ws',RefsAre prog w s.heap ws' rest) _ ?step ?done _ _ ⟨rfl,rfl,ws,h3⟩
 case step=>
  rintro v rest r s' ⟨hr,rfl,ws',hl⟩;cases hl with
  | @cons p c ps _ c1 hl'=> refine Aa (zjl c1 ?_);simp only[CI,AR,if_false];exact Ac ⟨rfl,rfl,ps,hl'⟩
 case done=> rintro⟨r1,r2⟩ s' ⟨hr,rfl,_⟩;simp only at hr;subst hr;exact Ac h
noncomputable def N_(prog:Bp)(w:World):HeapKind prog w (List WP) where
 is:=IsWishKey prog w
 hash:=Qp w
 draws:=λws=>4*ws.length+1
 room:=λA=>A.units+1<cLine
 inj:=λhx hy=>hx.inj hy
 keeps:=λx ho hd hs=>x.keeps ho hd hs
 pyHash:=λhu hk h=>ZB hu hk h
 eqBool:=λhu hx hy h=>YD hu hx hy h
 quiet:=λhk h=>zjk hk h
theorem US{ws:List WP}(hok:HOk P w H h)(e:WishAt H a ws):IsWishKey P w h ws a:=by
 obtain⟨ps,rfl,hA,hP⟩:=e;obtain⟨_,its,rv,o,h1,h2,_,n,h3⟩:=(show ObjOk P w H h a (.tup (ps.map λp=>V.ref p.1)) from hok a _ hA);refine⟨o,its.toArray,n,h1,h2,h3,?_⟩;rw[EO];clear hA h1 h3
 induction ps generalizing its with
 | nil=>cases rv;exact .nil
 | cons p ps ih=>
  rw[Ax] at rv;cases rv with
  | @cons _ u _ us r1 r2=>
   cases r1;refine .cons ?_ (ih (λx hx=>hP x (As _ hx)) (by rename_i hz;rw[Ax,AA] at hz;omega) us r2);obtain⟨_,it2,rv2,o2,k1,k2,_,m,k3⟩:=(show ObjOk P w H h p.1 (.tup [V.str p.2.1,eV p.2.2.1,eV p.2.2.2]) from hok p.1 _ (hP p Ao));refine⟨o2,it2.toArray,m,k1,k2,k3,?_⟩;rw[EO];have end_is:∀(e:Option Int)(v:Value),RelV (eV e) v→OV (.inl e) v=true:=λe v r=>by
    cases e with
    | none=>cases(show v=Value.none from r);rfl
    | some i=>obtain⟨t,rfl⟩:=(show ∃t,v=Value.int i t from r);exact VI i t
   cases rv2 with
   | @cons _ u1 _ _ a1 rv2=>
    cases rv2 with
    | @cons _ u2 _ _ a2 rv2=>
     cases rv2 with
     | @cons _ u3 _ _ a3 rv2=> cases rv2;obtain⟨t,rfl⟩:=(show ∃t,u1=Value.str p.2.1 t from a1);exact .cons (VJ _ t) (.cons (end_is _ _ a2) (.cons (end_is _ _ a3) .nil))
noncomputable def KeyRow(h:Heap)(d:Addr)(as:List Addr)(ep:Nat):Prop:=∃o es,h.get? d=some o∧o.ExactDict∧o.data= .dict es ep∧es.toList.map (·.key)=as.map Value.ref
theorem KeyRow.at'{h':Heap}{d:Addr}{as:List Addr}{ep:Nat}(x:KeyRow h d as ep)(k:∀o,h.get? d=some o→h'.get? d=some o):KeyRow h' d as ep:=let⟨o,es,ho,r⟩:=x;⟨o,es,k o ho,r⟩
theorem KeyRow.typeIs{d:Addr}{as:List Addr}{ep:Nat}(x:KeyRow s.heap d as ep):s.TypeIs (.ref d) "dict":=let⟨o,_,ho,hc,_⟩:=x;⟨o,ho,hc.1⟩
theorem KeyRow.size{h:Heap}{d:Addr}{as:List Addr}{ep:Nat}{es:Array DictEntry}(e:es.toList.map (·.key)=as.map Value.ref):es.size=as.length:=by have:=congrArg Be e;simpa using this
section
variable{it d:Addr}{ep:Nat}{as:List Addr}
theorem YW{Q:Value→Shared→Prop}(hd:(d==BC)=false)(R:KeyRow s.heap d as ep)
 (q:Q (.ref s.heap.objs.size) {s with heap:=s.heap.push {cls:= .type "dict_keyiterator",data:= .fields #[.ref d,.int 0 0,.int as.length 0,.int ep 0]}}):wpAny (model prog w) A (pyIter (.ref d)) Q E s:=by
 have ty:=R.typeIs;obtain⟨o,es,h1,h2,h3,h4⟩:=R;refine FB ty Gx (AH Gx ty PySem.F.entry_dict_iter ?go (PySem.F.args_dict_iter_1 _))
 case go=> unfold Builtin.«dict.__iter__» Builtin.Dict.dictSlotNone;refine Aa (Aa (E4 ty ?_));refine Ac ?_;show wpAny _ _ (E5 d>>=_) _ _ s;unfold E5;rw[if_neg (by rw[hd];exact Au)];refine Aa (Ac (Aa (CF h1 h3 (Aa (DL h1 h3 ?_)))));refine Aa (AM (Ac ⟨_,rfl,"dict_keyiterator",_,⟨_,Ak _ rfl,rfl⟩,BX.lookup,?_⟩));simpa [rawInt,KeyRow.size (h:=s.heap) (d:=d) (ep:=ep) h4] using q
theorem Zf{Q:Option Value→Shared→Prop}(hi:s.heap.IsKeyIter it d i as.length ep)(R:KeyRow s.heap d as ep)(ha:as[i]?=some a)
 (q:∀h',h'.IsKeyIter it d (i+1) as.length ep→Bt it s.heap h'→Q (some (.ref a)) {s with heap:=h'}):wpAny (model prog w) A (pyNext (.ref it)) Q E s:=by
 obtain⟨o,g1,g2,g3⟩:=id hi;obtain⟨od,es,h1,h2,h3,h4⟩:=R;have sz:es.size=as.length:=KeyRow.size (h:=s.heap) (d:=d) (ep:=ep) h4;have lt:i<es.size:=by rw[sz];exact(An.mp ha).1
 have ky:es[i].key= .ref a:=by
  have h5:(es.toList.map (·.key))[i]?=some es[i].key:=by rw[Af];simp[lt]
  rw[h4,Af,ha] at h5;exact(A4 h5).symm
 unfold pyNext;refine Aa (CH (AU (name:=BG "__next__") hi.typeIs BX (AH BX hi.typeIs Ea ?go (DV _))))
 case go=>
  refine Aa (Ac (Aa (Aa ?_)))
  first | refine Aa (CJ hi.typeIs (Ac ?_)) | refine Aa (Dn hi.typeIs (Ac ?_))
  refine Aa (EW g1 g3 ?_);simp only[show EY "dict_keyiterator"=false by decide,AR,if_false];show wpAny _ _ (if(Value.ref d==Value.none)=true then _ else _) _ _ s
  rw[if_neg (by intro z;cases z)];refine Aa (Ac (Aa (CF h1 h3 ?_)));rw[if_neg (by rw[sz];simp)];refine Aa (Ac (Aa (DL h1 h3 ?_)));rw[if_neg (by simp)];refine Ac ?_;simp only[show ¬((i:Int)<0) by omega,if_false,AZ,Bi lt];refine Aa ?_
  first | refine Aa (CJ hi.typeIs (Ac ?_)) | refine Aa (Dn hi.typeIs (Ac ?_))
  refine Aa (wpAny_isOneOf_keyiter hi.typeIs ?_);show wpAny _ _ (setField (.ref it) 1 (rawInt ((i:Int)+1))>>=_) _ _ s;refine Aa (BJ g1 g3 (by simp) ?_);have hi':(s.heap.update it (Dt (·.setIfInBounds 1 (rawInt ((i:Int)+1))))).IsKeyIter it d (i+1) as.length ep:=
   ⟨_,Bb _ g1 (E3 (CU g3 _)),(Fz ..).trans g2,by rw[CU g3];simp[rawInt]⟩
  refine Aa (AN (Aa (wpAny_isOneOf_keyiter (s:={s with heap:=s.heap.update it (Dt (·.setIfInBounds 1 (rawInt ((i:Int)+1))))}) hi'.typeIs ?_)))
  show wpAny _ _ (pure es[i].key) _ _ _;rw[ky];exact Ac (Ac ⟨_,rfl,Ac (q _ hi' (AQ ..))⟩)
theorem X7{Q:Option Value→Shared→Prop}(hh:A.handled=none)(hi:s.heap.IsKeyIter it d i as.length ep)(R:KeyRow s.heap d as ep)(ha:as.length≤i)
 (q:∀h',DC it s.heap h'→Q none {s with heap:=h'}):wpAny (model prog w) A (pyNext (.ref it)) Q E s:=by
 obtain⟨o,g1,g2,g3⟩:=id hi;obtain⟨od,es,h1,h2,h3,h4⟩:=R;have sz:es.size=as.length:=KeyRow.size (h:=s.heap) (d:=d) (ep:=ep) h4;unfold pyNext;refine Aa (CH (AU (name:=BG "__next__") hi.typeIs BX (AH BX hi.typeIs Ea ?go (DV _))))
 case go=>
  refine Aa (Ac (Aa (Aa ?_)))
  first | refine Aa (CJ hi.typeIs (Ac ?_)) | refine Aa (Dn hi.typeIs (Ac ?_))
  refine Aa (EW g1 g3 ?_);simp only[show EY "dict_keyiterator"=false by decide,AR,if_false];show wpAny _ _ (if(Value.ref d==Value.none)=true then _ else _) _ _ s
  rw[if_neg (by intro z;cases z)];refine Aa (Ac (Aa (CF h1 h3 ?_)));rw[if_neg (by rw[sz];simp)];refine Aa (Ac (Aa (DL h1 h3 ?_)));rw[if_neg (by simp)];refine Ac ?_;simp only[show ¬((i:Int)<0) by omega,if_false,AZ,Dw (show es.size≤i by omega)];refine Aa ?_
  first | refine Aa (CJ hi.typeIs (Ac ?_)) | refine Aa (Dn hi.typeIs (Ac ?_))
  show wpAny _ _ (setField (.ref it) 0 .none>>=_) _ _ s;refine Aa (BJ g1 g3 (by simp) ?_);show wpAny _ _ (newExc (Value.type "StopIteration") []>>=_) _ _ _;refine Aa ?_;unfold newExc newTuple;refine Aa (AM ?_ (by size_fits));refine Aa (m:=firstArgMember _ _) (Dv (a:=Value.none) (by first | rfl | (simp only[firstArgMember];rfl)) ?_)
  refine AM ?_ (by size_fits);unfold raiseNew;refine Aa (Fn ?_);rw[show A.in1.handled=none from hh];refine Aa (Ac (Gr ?_));refine Aa (Cf (T:="StopIteration") (b:=true) ⟨_,Ak _ rfl,rfl⟩ isSubtype_stop ?_);exact Ac (q _ (((AQ ..).extBut.push _).push _))
end
noncomputable def Kv(d:Addr)(as:List Addr)(ep:Nat):Heap→Prop:=λh=>(d==BC)=false∧KeyRow h d as ep
noncomputable def Xd(H:Hp)(d:Addr)(ks:List (Addr×List WP)):Prop:=(∃ep,H d=some (.ext (Kv d (ks.map (·.1)) ep)))∧∀k∈ks,WishAt H k.1 k.2
noncomputable def Nm(a:Addr)(as:List Addr)(ep:Nat):It:=
 ⟨λi H=>i<as.length∧H a=some (.ext (Kv a as ep)),λi H x H'=>H'=H∧∃f,as[i]?=some f∧x= .ref f,λi H=>as.length≤i∧H a=some (.ext (Kv a as ep))⟩
theorem ZL{K:Ae}{tg:Expr}(a it:Addr)(as:List Addr)(ep:Nat):Turn P w K tg (Nm a as ep) [it] it (λi h=>h.IsKeyIter it a i as.length ep) where
 mem:=by simp
 obj:=λi h st b hb=>by
  have e:b=it:=by simpa using hb
  subst e;obtain⟨o,e,c,d⟩:=st;exact⟨o,e,λv z=>by rw[d] at z;cases z⟩
 keep:=λi h h' st k=>let⟨o,e,r⟩:=st;⟨o,k it (by simp) o e,r⟩
 item:=by
  intro X hP hw hK hc i pins s σ H E I hfp st hg;subst hP hw hK;obtain⟨hi,hH⟩:=hg;have R:=(show ObjOk X.prog X.w H s.heap a (.ext (Kv a as ep)) from I.hok a _ hH).1.2;obtain⟨f0,f1,f2,f3,f4,f5⟩:=hfp it (by simp);have ha:as[i]?=some as[i]:=by simp
  refine Zf st R ha λh' hit' hs'=>?_;have I1:Inv X pins σ H {s with heap:=h'}:=I.turned (t':=s.toks) (λb o hb e=>hs'.extBut b o hb e) f0 f1 f3 f4 f5
  obtain⟨o2,e,c,d⟩:=id hit';exact⟨_,rfl,MI (s:={s with heap:=h'}) e c d (by decide) ⟨.ref as[i],H,I1,rfl,⟨rfl,_,ha,rfl⟩,hit',λb hb=>(hfp b hb).1⟩⟩
 done:=by intro X hP hw hK hc i pins s σ H E I hfp st hg;subst hP hw hK;obtain⟨hi,hH⟩:=hg;have R:=(show ObjOk X.prog X.w H s.heap a (.ext (Kv a as ep)) from I.hok a _ hH).1.2;obtain⟨f0,f1,f2,f3,f4,f5⟩:=hfp it (by simp);exact X7 (I.ok.hd hc) st R hi λh' eb=>⟨rfl,I.turned (t':=s.toks) (λb o hb e=>eb b o hb e) f0 f1 f3 f4 f5⟩
 self:=λ_ _ _ _ _ st h=>wpAny_pyIter_keyiter st h
section
variable{tg:Expr}
noncomputable def Sv(tl:TE):TI:=λσ H R=>tl σ H λx H1=>∃(a:Addr)(as:List Addr)(ep:Nat),x= .ref a∧H1 a=some (.ext (Kv a as ep))∧R (Nm a as ep) H1
theorem Tr{l:Expr}{tl:TE}(hl:PE X l tl):PI X tg l (Sv tl):=by
 intro pins s σ H R I h;refine IG (hl pins s σ H _ I h) λv s1 ⟨x,H1,I1,r1,q1⟩=>?_;obtain⟨a,as,ep,e,hH,q⟩:=q1;subst e;cases r1;have R:=(show ObjOk X.prog X.w H1 s1.heap a (.ext (Kv a as ep)) from I1.hok a _ hH).1;refine YW R.1 R.2 ?_;refine⟨s1.heap.objs.size,[s1.heap.objs.size],_,_,H1,rfl,I1.kept (t':=s1.toks) λb o e=>Ad _ e,ZL a _ as ep,⟨_,Ak _ rfl,rfl,rfl⟩,λb hb=>?_,q⟩;have e:b=s1.heap.objs.size:=by simpa using hb
 subst e;exact I1.fpOk (Ah _) (I1.hok.fresh (Ah _))
end
theorem XC{a p:Addr}{as:List Addr}{ep:Nat}{g:TG}{tc:TT}{te:TE}{Q:VK}{js:J5}(Pv:Nat→St→List V→Hp→Prop)(h0:Pv 0 (Kf js σ) [] (IC H p (.lst [])))
 (hl:∀i σ ys H,i≤as.length→Pv i σ ys H→H a=some (.ext (Kv a as ep))∧H p=some (.lst ys)∧ys.length<Ay)
 (hs:∀(i:Nat)x σ ys H(N:St→List V→Hp→Prop),as[i]?=some x→Pv i σ ys H→(∀σ' ys' H',Pv (i+1) σ' ys' H'→N σ' ys' H')→MK p g tc te ys (.ref x) σ H N)
 (hd:∀σ ys H,Pv as.length σ ys H→Q (.ref p) H):Lf (Nm a as ep) p js g tc te σ H Q:=
 Nv (n:=as.length) (J:=Nm a as ep) (js:=js) (σ:=σ) (H:=H) (p:=p) (Q:=Q) (g:=g) (tc:=tc) (te:=te) Pv h0 (λi σ ys H hi pv=>(hl i σ ys H hi pv).2)
  (λi σ ys H hi pv=>⟨hi,(hl i σ ys H (Bv hi) pv).1⟩) (λσ ys H pv=>⟨Ah _,(hl _ σ ys H (Ah _) pv).1⟩)
  (λi x σ ys H H' N hi y pv hN=>by obtain⟨rfl,f,hf,rfl⟩:=y;exact hs i f σ ys _ N hf pv hN) hd
theorem YG{as:List Addr}{ep:Nat}{g:TG}{tb:TS}{D:Ends}(Pv:Nat→St→Hp→Prop)(h0:Pv 0 σ H)(hl:∀i σ H,i≤as.length→Pv i σ H→H a=some (.ext (Kv a as ep)))
 (hs:∀i x σ H,as[i]?=some x→Pv i σ H→g (.ref x) σ H λσ2 H2=>tb {D with nx:=Pv (i+1),ct:=Pv (i+1),bk:=D.nx} σ2 H2) (hd:∀σ H,Pv as.length σ H→D.nx σ H):
 ∃W:Nat→Nat→St→Hp→Prop,(∃m,W 0 m σ H)∧∀i m σ H,W i m σ H→
  ((Nm a as ep).stop i H∧D.nx σ H)∨((Nm a as ep).go i H∧∃N:St→Hp→Prop,(∀σ' H',N σ' H'→∃m',m'<m∧W (i+1) m' σ' H')∧∀x H',(Nm a as ep).yld i H x H'→g x σ H' λσ2 H2=>tb {D with nx:=N,ct:=N,bk:=D.nx} σ2 H2):=by
 refine⟨λi m σ H=>m=as.length - i∧i≤as.length∧Pv i σ H,⟨as.length,by simp,AK _,h0⟩,?_⟩;rintro i m σ H ⟨rfl,hi,p⟩;have q:=hl i σ H hi p;by_cases hlt:i<as.length
 · refine .inr ⟨⟨hlt,q⟩,Pv (i+1),λσ' H' p'=>⟨as.length - (i+1),by omega,rfl,hlt,p'⟩,λx H' y=>?_⟩;obtain⟨rfl,f,hf,rfl⟩:=y;exact hs i f σ _ hf p
 · have e:i=as.length:=by omega
   subst e;exact .inl ⟨⟨Ah _,q⟩,hd σ H p⟩
noncomputable def L4(k:Addr×List WP):List WP×Addr×Value:=(k.2,k.1,.bool true)
noncomputable def JA(P:Bp)(w:World)(d:Addr)(ks:List (Addr×List WP)):Heap→Prop:=λh=>(d==BC)=false∧∃o es ep,h.get? d=some o∧o.ExactDict∧o.data= .dict es ep∧es.toList=(ks.map L4).map (entryOfKey (N_ P w))∧((ks.map L4).map (·.1)).Nodup
noncomputable def KN(ks:List (Addr×List WP))(a:Addr)(w:List WP):List (Addr×List WP):=if(ks.any λk=>decide (k.2=w))=true then ks else ks++[(a,w)]
section
variable{d:Addr}{ks:List (Addr×List WP)}
theorem Ub{P':Bp}{w':World}(x:JA P w d ks h):ObjOk P' w' H h d (.ext (JA P w d ks)):=⟨x,let⟨_,o,_,_,e,_⟩:=x;⟨o,e⟩,λh1 h2 ⟨y,o,es,ep,e,r⟩ k=>⟨y,o,es,ep,k o e,r⟩⟩
theorem YE{as:List Addr}{ep:Nat}(x:Kv d as ep h):ObjOk P w H h d (.ext (Kv d as ep)):=⟨x,let⟨_,o,_,e,_⟩:=x;⟨o,e⟩,λh1 h2 ⟨y,r⟩ k=>⟨y,r.at' k⟩⟩
theorem ZN(h:Heap)(hb:BC<h.objs.size):JA P w h.objs.size [] (h.push {cls:= .type "dict",data:= .dict #[]}):=
 ⟨by simpa using C2 hb,_,#[],0,Ak _ rfl,⟨rfl,rfl,rfl⟩,rfl,rfl,EV⟩
theorem ZP(x:JA P w d ks h):∃(es:Array DictEntry)(ep:Nat),Kv d (ks.map (·.1)) ep h:=by obtain⟨y,o,es,ep,e,c,dt,he,_⟩:=x;refine⟨es,ep,y,o,es,e,c,dt,?_⟩;rw[he,Bx,Bx,Bx];rfl
theorem Yk(x:JA P w d ks h)(k:∀k∈ks,IsWishKey P w h k.2 k.1):h.DictOfH (N_ P w) d (ks.map L4):=by obtain⟨y,o,es,ep,e,c,dt,he,nd⟩:=x;refine⟨o,es,ep,e,c,dt,he,λz hz=>?_,nd⟩;obtain⟨q,hq,rfl⟩:=AB.mp hz;exact k q hq
theorem ZO(hd:(d==BC)=false)(x:h.DictOfH (N_ P w) d (ks.map L4)):JA P w d ks h:=by obtain⟨o,es,ep,e,c,dt,he,_,nd⟩:=x;exact⟨hd,o,es,ep,e,c,dt,he,nd⟩
theorem zjf(ks:List (Addr×List WP))(a:Addr)(v:List WP):storedH (ks.map L4) v a (.bool true)=(KN ks a v).map L4:=by
 unfold KN;by_cases h:(ks.any λk=>decide (k.2=v))=true
 · rw[if_pos h];have ne:atKey (ks.map L4) v≠none:=by
    obtain⟨k,hk,e⟩:=C7.mp h;unfold atKey;intro z;have:=Option.map_eq_none_iff.mp z;exact absurd e (CW.mp this (L4 k) (Az hk))
   obtain⟨p,hp⟩:=Option.ne_none_iff_exists'.mp ne;rw[storedH_old hp,Bx];refine DF λk _=>?_;unfold putAt L4;simp only[Function.comp]
   split<;>rfl
 · rw[if_neg h,Aq];have:atKey (ks.map L4) v=none:=by
    unfold atKey;rw[Gv,List.find?_eq_none];intro x hx z;obtain⟨k,hk,rfl⟩:=AB.mp hx;exact h (C7.mpr ⟨k,hk,z⟩)
   rw[storedH_new this];rfl
end
noncomputable def Ud(J:It)(p:Addr)(js:J5)(g:TG)(tc:TT)(tk tv:TE)(σ:St)(H:Hp)(Q:VK):Prop:=
 ∃W:Nat→Nat→St→List (Addr×List WP)→Hp→Prop,(∃m,∀φ,W 0 m (Kf js σ) [] (IC H p (.ext φ)))∧∀i m σ' ks H,W i m σ' ks H→(∀k∈ks,WishAt H k.1 k.2)∧ks.length≤900∧
  ((J.stop i H∧∀ep,Q (.ref p) (IC H p (.ext (Kv p (ks.map (·.1)) ep))))∨(J.go i H∧∀x H',J.yld i H x H'→g x σ' H' λσ2 H2=>tc σ2 H2 λb H3=>
    if b=true then tk σ2 H3 λk H4=>tv σ2 H4 λy H5=>∃a w,k= .ref a∧y= .bl true∧WishAt H5 a w∧(∀k∈ks,WishAt H5 k.1 k.2)∧H5 p=H p∧∀φ,∃m',m'<m∧W (i+1) m' σ2 (KN ks a w) (IC H5 p (.ext φ))
    else H3 p=H p∧∃m',m'<m∧W (i+1) m' σ2 ks H3))
noncomputable def RW(wi:TI)(js:J5)(g:TG)(tc:TT)(tk tv:TE):TE:=λσ H Q=>wi σ H λJ H1=>∀p,H1 p=none→Ud J p js g tc tk tv σ H1 Q
section
variable{tg iter kx vx:Expr}{ifs:List Expr}{wi:TI}{js:J5}{g:TG}{tc:TT}{tk tv:TE}{N':List Str}
theorem Z1{pins:List (Addr×Obj)}{σ:St}{H:Hp}{s:Shared}{E:Value→Shared→Prop}{Q:VK}{J:It}{it:Addr}{fp:List Addr}{tn:Nat→Heap→Prop}{cl:List (Str×Addr)}
 (hr:KP X) (hc:X.calm=true) (ok:CapOk X N' js scope)
 (h2:∀x c,cl.lookup x=some c→X.env.cells.lookup x=some c) (h3:∀p∈scope.names,p.2= .free→(cl.lookup p.1).isSome=true)
 (hg:∀cl C s₀ H₀ ex,PG (Jh X N' scope cl C s₀ H₀ ex) tg g) (ht:∀cl C s₀ H₀ ex,Jj (Jh X N' scope cl C s₀ H₀ ex) ifs tc) (he:∀cl C s₀ H₀ ex,PE (Jh X N' scope cl C s₀ H₀ ex) kx tk) (hv:∀cl C s₀ H₀ ex,PE (Jh X N' scope cl C s₀ H₀ ex) vx tv)
 (I:Inv X pins σ H s) (T:Turn X.prog X.w X.K tg J fp it tn) (st:tn 0 s.heap) (hf:∀b∈fp,IJ X pins H b)
 (hw:∀p,H p=none→Ud J p js g tc tk tv σ H Q):
 wpAny (model X.prog X.w) X.A newDict (λacc s₃=>wpAny (model X.prog X.w) X.A (newFunctionEnv scope X.env.globals cl [] X.env.qual none .none (some X.env)) (λcenv s₄=>
  codeAny (model X.prog X.w) X.A (.compStart (.DictComp kx vx [⟨tg,iter,ifs,0⟩] scope pos) 0 (.ref it) acc {cenv with scope:=relabel scope X.env})
   (λr s'=>r= .ok .next∧(∃m,s'.heap.Ns cenv.locals m)∧∃v H',RelV v acc∧Inv X pins σ H' s'∧IJ X pins H' cenv.locals∧Q v H') s₄) E s₃) E s:=by
 have objs:=T.obj _ _ st;refine AM ?_;obtain⟨W,⟨m0,w0⟩,turn⟩:=hw s.heap.objs.size (I.hok.fresh (Ah _));generalize hp:s.heap.objs.size=p at*;have kp:∀b u,s.heap.get? b=some u→(s.heap.push {cls:= .type "dict",data:= .dict #[]}).get? b=some u:=λb u e=>Ad _ e;have I3:Inv X pins σ (IC H p (.ext (JA X.prog X.w p []))) {s with heap:=s.heap.push {cls:= .type "dict",data:= .dict #[]}}:=by subst hp;exact I.laid (t':=s.toks) kp (Ah _) (Ub (ZN s.heap I.big))
 have fne:∀b∈fp,b≠p:=λb hb=>by obtain⟨o,e,_⟩:=objs b hb;have:=Am e;rw[←hp];exact Ar this
 have hf3:∀b∈fp,IJ X pins (IC H p (.ext (JA X.prog X.w p []))) b:=λb hb=>⟨by rw[IZ (fne b hb)];exact(hf b hb).1,(hf b hb).2⟩;have st3:tn 0 (s.heap.push {cls:= .type "dict",data:= .dict #[]}):=T.keep _ _ _ st λb _ o e=>kp b o e;have lt3:∀b∈fp,b<(s.heap.push {cls:= .type "dict",data:= .dict #[]}).objs.size:=λb hb=>by obtain⟨o,e,_⟩:=objs b hb;exact Am (kp b o e)
 generalize hs3:({s with heap:=s.heap.push {cls:= .type "dict",data:= .dict #[]}}:Shared)=s3 at*
 have eh:s.heap.push {cls:= .type "dict",data:= .dict #[]}=s3.heap:=by rw[←hs3]
 rw[eh] at st3 lt3;refine Oo ok.cells λcl h₁ hns₁ k4 oc=>?_;have I4:=Oh (cl:=cl) (h₁:=h₁) (t':=s3.toks+([]:List (Str×Value)).length) ok I3 h2 h3 hf3 lt3 k4 hns₁ oc;have st4:tn 0 h₁:=T.keep _ _ _ st3 λb _ o e=>k4 b o e;generalize hX:Jh X N' scope cl s3.heap.objs.size s3 (IC H p (.ext (JA X.prog X.w p []))) fp=X' at I4;have hg':PG X' tg g:=by rw[←hX];exact hg _ _ _ _ _
 have ht':Jj X' ifs tc:=by rw[←hX];exact ht _ _ _ _ _
 have he':PE X' kx tk:=by rw[←hX];exact he _ _ _ _ _
 have hv':PE X' vx tv:=by rw[←hX];exact hv _ _ _ _ _
 have eP:X'.prog=X.prog:=by rw[←hX];rfl
 have ew:X'.w=X.w:=by rw[←hX];rfl
 have eK:X'.K=X.K:=by rw[←hX];rfl
 have ec:X'.calm=true:=by rw[←hX];exact hc
 have eA:X'.A=X.A:=by rw[←hX];rfl
 have ex:X'.xe=λ_ _=>False:=by rw[←hX];rfl
 have eE:X'.env=compEnvC scope cl s3.heap.objs.size X.env:=by rw[←hX];rfl
 have eEx:X'.ex=fp:=by rw[←hX];rfl
 have eN:X'.pn=[]:=by rw[←hX];rfl
 have stat:∀{H':Hp},(∀b∈fp,H' b=none)→∀b∈fp,IJ X' [] H' b:=λ{H'}hn b hb=>by have okc:=I4.ok;refine⟨hn b hb,(okc.exf b (by rw[eEx];exact hb)).1,okc.exfs b (by rw[eEx];exact hb),.inl (by rw[eEx];exact hb),(okc.exf b (by rw[eEx];exact hb)).2,λq hq=>?_⟩;rw[eN] at hq;cases hq
 have loop:∀s₄:Shared,s₄={s3 with heap:=h₁,toks:=s3.toks+([]:List (Str×Value)).length}→
  codeAny (model X.prog X.w) X.A (.compLoop (.DictComp kx vx [⟨tg,iter,ifs,0⟩] scope pos) 0 (.ref it) (.ref p) (compEnvC scope cl s3.heap.objs.size X.env))
   (λr s'=>r= .ok .next∧(∃m,s'.heap.Ns s3.heap.objs.size m)∧∃v H',RelV v (.ref p)∧Inv X pins σ H' s'∧IJ X pins H' s3.heap.objs.size∧Q v H') s₄:=by
  rintro s₄ rfl;refine Wz (λn s'=>∃i σ' ys H',Inv X' [] σ' H' s'∧tn i s'.heap∧(∀b∈fp,H' b=none)∧H' p=some (.ext (JA X.prog X.w p ys))∧W i n σ' ys H') ?_ m0 ⟨0,_,[],_,I4,st4,λb hb=>(hf3 b hb).1,IE,w0 _⟩;rintro n s5 ⟨i,σ5,ys,H5,I5,st5,fr5,hp5,w5⟩;obtain⟨wk5,lk5,tu⟩:=turn i n σ5 ys H5 w5;rcases tu with⟨stop,qn⟩ | ⟨go,step⟩
  · have D:=T.done X' eP ew eK ec i [] s5 σ5 H5 (λ_ _=>False) I5 (stat fr5) st5 stop;rw[eA] at D;refine IG D λr s6 ⟨hr,I6⟩=>?_;subst hr;obtain⟨es0,ep0,row⟩:=ZP ((show ObjOk X'.prog X'.w H5 s6.heap p (.ext (JA X.prog X.w p ys)) from I6.hok p _ hp5).1);have I3':Inv X' [] σ5 (IC H5 p (.ext (Kv p (ys.map (·.1)) ep0))) s6:=I6.write (t':=s6.toks) (x:=p) (e:=p) (by rw[hp5];exact True.intro) (.inl rfl) (λb u _ z=>z) (let⟨o,_,e,_⟩:=row.2;⟨o,e⟩) (YE row);refine⟨rfl,?_,.ref p,IC H5 p (.ext (Kv p (ys.map (·.1)) ep0)),rfl,?_,?_,qn ep0⟩
    · obtain⟨m,hm,_⟩:=I6.loc;rw[eE] at hm;exact⟨m,hm⟩
    · have b6:=I3'.base;have ho:=I3'.os;have hk:=I3'.hok;have hb:=I3'.bare;subst hX;exact I3.call' (ch:=fp) ho b6 hk hb λb hb'=>⟨(hf b hb').2.2.2.1,(hf b hb').2.1,(hf b hb').2.2.2.2.1,(hf b hb').2.2.2.2.2⟩
    · have fr:=I3'.free;rw[eE] at fr;exact I3.fpOk (Ah _) fr
  · have D:=T.item X' eP ew eK ec i [] s5 σ5 H5 (λ_ _=>False) I5 (stat fr5) st5 go;rw[eA] at D;refine IG D λr s6 ⟨u,hr,h6⟩=>?_;subst hr;refine IG h6 λ_ s7 ⟨x,H7,I7,r7,y7,st7,fr7⟩=>?_;have I7':=I7.pinned (stat fr7) (T.obj _ _ st7);have G:=hg' _ s7 σ5 H7 x u _ I7' r7 (step x H7 y7);rw[eP,ew,eA,ex,eE] at G;refine IG G λ_ s8 ⟨σ8,H8,I8,q8⟩=>?_;have Tt:=ht' _ s8 σ8 H8 _ I8 q8;rw[eP,ew,eA,ex,eE] at Tt;refine IG Tt λb s9 ⟨H9,I9,q9⟩=>?_;have again:∀{s':Shared}{ys':List (Addr×List WP)}{H':Hp},Inv X' ([]++Ki fp s7.heap) σ8 H' s'→H' p=some (.ext (JA X.prog X.w p ys'))→(∃m',m'<n∧W (i+1) m' σ8 ys' H')→
     ∃m,m<n∧∃i σ' ys H',Inv X' [] σ' H' s'∧tn i s'.heap∧(∀b∈fp,H' b=none)∧H' p=some (.ext (JA X.prog X.w p ys))∧W i m σ' ys H':=λ{s' ys' H'}I' hp' ⟨m',hm,w'⟩=>by
     refine⟨m',hm,i+1,σ8,ys',H',I'.unpinned,T.keep _ _ _ st7 λb hb o e=>(I'.pin (b,o) (Ai _ (Ai _ (K9 hb e)))).1,λb hb=>?_,hp',w'⟩;obtain⟨o,e,d⟩:=T.obj _ _ st7 b hb;exact(I'.pin (b,o) (Ai _ (Ai _ (K9 hb e)))).2.1
    cases b with
    | false=> obtain⟨e9,q9⟩:=q9;exact again I9 (e9.trans hp5) q9
    | true=> have Ee:=he' _ s9 σ8 H9 _ I9 q9;rw[eP,ew,eA,ex,eE] at Ee;show wpAny _ _ _ _ _ _;refine IG Ee λkv s10 ⟨kk,H10,I10,r10,q10⟩=>?_;have Ev:=hv' _ s10 σ8 H10 _ I10 q10;rw[eP,ew,eA,ex,eE] at Ev;refine IG Ev λvv s11 ⟨y,H11,I11,r11,a,wv,ek,ey,wa,wks,hp11,q11⟩=>?_;subst ek ey;cases(show kv=Value.ref a from r10);cases(show vv=Value.bool true from r11);have hp11':=hp11.trans hp5;have ph:=(show ObjOk X'.prog X'.w H11 s11.heap p (.ext (JA X.prog X.w p ys)) from I11.hok p _ hp11').1;have hok:=I11.hok;rw[eP,ew] at hok;refine wpAny_dictSet_heap (knd:=N_ X.prog X.w) (xs:=ys.map L4) (k:=wv) (by show X.A.units+1<cLine;unfold KP at hr;omega) (US hok wa) (Yk ph λk hk=>US hok (wks k hk)) (λh' dd' hs'=>?_) (by rw[Ab,sizeLine_eq];omega);rw[zjf] at dd';have he0:∃q,h'.get? p=some q:=let⟨q,_,_,hq,_⟩:=dd';⟨q,hq⟩;have I12:=Pi (t':=s11.toks+(N_ X.prog X.w).draws wv) (ob:= .ext (JA X.prog X.w p (KN ys a wv))) I11 (by rw[hp11'];exact True.intro) hs' he0 (Ub (ZO ph.1 dd'));exact again I12 IE (q11 _)
 exact Gq (loop _ rfl) (T.self _ 0 _ _ _ st4 (loop _ rfl))
theorem XJ(hr:KP X)(hc:X.calm=true)(ok:CapOk X N' js scope)(hi:PI X tg iter wi)
 (hg:∀cl C s₀ H₀ ex,PG (Jh X N' scope cl C s₀ H₀ ex) tg g) (ht:∀cl C s₀ H₀ ex,Jj (Jh X N' scope cl C s₀ H₀ ex) ifs tc) (he:∀cl C s₀ H₀ ex,PE (Jh X N' scope cl C s₀ H₀ ex) kx tk) (hv:∀cl C s₀ H₀ ex,PE (Jh X N' scope cl C s₀ H₀ ex) vx tv)
 (hs:∀x,Bc iter X.env x=pure x:=by intro _;rfl):PE X (.DictComp kx vx [⟨tg,iter,ifs,0⟩] scope pos) (RW wi js g tc tk tv):=by
 intro pins s σ H Q I h;obtain⟨cl,c1,c2,c3⟩:=N8 (scope:=scope) I.ok.has ok.free;show wpAny _ X.A (comprehension (.DictComp kx vx [⟨tg,iter,ifs,0⟩] scope pos) scope X.env _ newDict false (eval iter X.env)) _ _ s;refine Cu (use:=none) rfl hs c1 ok.kind ok.names (IG (hi pins s σ H _ I h) λv s1 h1=>IG h1 λitv s2 h2=>?_);obtain⟨it,fp,tn,J,H2,e,I2,T,st2,f2,hw⟩:=h2;subst e;refine A5 (Z1 (iter:=iter) (pos:=pos) hr hc ok c2 c3 hg ht he hv I2 T st2 f2 hw) (λacc s3 h3=>A5 h3 (λcenv s4 h4=>?_) λ_ _ z=>z) λ_ _ z=>z;refine Cg h4 λr s5 h5=>?_;obtain⟨rfl,⟨m,hm⟩,v,H5,rv,I5,f5,q5⟩:=h5;refine⟨m,hm,λh' sb=>?_⟩;obtain⟨f0,f1,_,f3,f4,f6⟩:=f5;exact⟨v,H5,I5.turned (t':=s5.toks) (λb o hb e=>(sb.2 b hb).trans e) f0 f1 f3 f4 f6,rv,q5⟩
end
noncomputable def R_(outer scope:Scope):Scope:={scope with names:=scope.names.map λ(n,k)=>if(k== .free && outer.kind== .function && outer.names.lookup n==some .cell) then(n,.cell) else(n,k)}
noncomputable def Xf(st:Stmt)(k:Nat):Scope:=match st with
 | .FunctionDef _ _ b _ _ _ _ _ _ _=>(match b[k]? with
  | some (.Assign _ (.ListComp _ _ sc _) _)=>sc
  | _=>IQ st)
 | _=>IQ st
noncomputable def Yz(K:Ae):R2:=λx y H Q=>∃(l:Addr)(ps:List (Addr×PD))(d:PD),y= .ref l∧SqL K H l (ps.map λp=>V.ref p.1)∧(∀p∈ps,Rep K H p.2 (.ref p.1)∧Jv p.2≤20)∧Rep K H d x∧Q (.bl (!ps.any λp=>IK p.2 d)) H
theorem zkG(hr:KP X):J2 X (BF .NotIn) (Yz X.K):=by
 intro pins s σ H x y v u Q I rx ry h;obtain⟨l,ps,d,rfl,hq,hp,hd,q⟩:=h;cases ry;obtain⟨its,r,pl,hz⟩:=I.list hq;obtain rfl:=Wf r;have at':∀p∈ps,Qi ps d (.ref p.1)=IK p.2 d:=λp hm=>by
  show((ps.find? λq=>decide (q.1=p.1)).any λq=>IK q.2 d)=IK p.2 d;cases e:ps.find? (λq=>decide (q.1=p.1)) with
  | none=>exact absurd (decide_eq_true rfl) (CW.mp e p hm)
  | some p'=> have h1:p'.1=p.1:=of_decide_eq_true (EC (p:=λ(q:Addr×PD)=>decide (q.1=p.1)) e);have h2:=(hp p' (Dk e)).1;rw[h1] at h2;rw[Option.any_some,Po I _ _ _ h2 (hp p hm).1]
 refine SeqAt.notIn_listAt (Qi ps d) pl.isList (λz hz'=>?_) ⟨.bl _,H,I,rfl,?_⟩
 · obtain⟨p,hm,rfl⟩:=AB.mp (show z∈ps.map λp=>Value.ref p.1 by simpa using hz');rw[at' p hm];have:=(hp p hm).2;exact MQ I _ p.2 d _ _ _ _ (hp p hm).1 hd rfl rx (by have:=hr;simp only[KP,Bq] at*;omega)
 · have e:(ps.map λp=>Value.ref p.1).toArray.any (Qi ps d)=ps.any λp=>IK p.2 d:=by
    rw[List.any_toArray,FR];have:∀qs:List (Addr×PD),(∀q∈qs,q∈ps)→qs.any (Qi ps d∘λp=>Value.ref p.1)=qs.any λp=>IK p.2 d:=λqs=>by
     induction qs with
     | nil=>intro _;rfl
     | cons q qs ih=> intro h;rw[CG,CG,ih λx hx=>h x (As _ hx)];congr 1;exact at' q (h q Ao)
    exact this ps λ_ h=>h
   rw[e];exact q
structure IsTop(ws qs:List (List WP)):Prop where
 nd:qs.Nodup
 mem:∀w,w∈qs↔w∈ws∧∀o∈ws,JC o w=true→o=w
theorem IsTop.some{ws qs:List (List WP)}(h:IsTop ws qs)(h2:2≤qs.length):∀w∈qs,w≠[]:=λw hw e=>by
 subst e;have all:∀v∈qs,v=[]:=λv hv=>(((h.mem v).mp hv).2 [] ((h.mem []).mp hw).1 rfl).symm
 match qs,h2,h.nd,all with
 | a::b::r,_,nd,all=> have e1:=all a Ao;have e2:=all b (As _ Ao);exact(Cm.mp nd).1 (by rw[e1,e2];exact Ao)
noncomputable def KO(qs:List (List WP)):Prop:=qs.Pairwise λx y=>Mu y x=false
theorem zjS{x y:List WP}(h1:Mu x y=false)(h2:Mu y x=false):x=y:=by
 by_cases e:x.map ky=y.map ky
 · exact List.map_inj_right (λ_ _ z=>XB z) |>.mp e
 · rcases sto_ky.tot _ _ e with z | z
   · rw[show Mu x y=true from z] at h1;cases h1
   · rw[show Mu y x=true from z] at h2;cases h2
theorem UP{ws qs qs':List (List WP)}(h:IsTop ws qs)(h':IsTop ws qs')(s:KO qs)(s':KO qs'):qs=qs':=
 List.Perm.eq_of_pairwise (λa b _ _ h1 h2=>zjS h2 h1) s s' ((List.perm_ext_iff_of_nodup h.nd h'.nd).mpr λw=>by rw[h.mem,h'.mem])
theorem IsTop.perm{ws qs qs':List (List WP)}(h:IsTop ws qs)(p:qs'.Perm qs):IsTop ws qs':=⟨p.nodup_iff.mpr h.nd,λw=>by rw[p.mem_iff];exact h.mem w⟩
theorem Xs{ws us:List (List WP)}(nd:us.Nodup)(hm:∀w,w∈us↔w∈ws)(f:List WP→Bool)(hf:∀w∈us,f w=true↔∀o∈us,JC o w=true→o=w):IsTop ws (us.filter f):=
 ⟨nd.filter _,λw=>by
  rw[List.mem_filter];constructor
  · rintro⟨h1,h2⟩;exact⟨(hm w).mp h1,λo ho=>(hf w h1).mp h2 o ((hm o).mpr ho)⟩
  · rintro⟨h1,h2⟩;have h1:=(hm w).mpr h1;exact⟨h1,(hf w h1).mpr λo ho=>h2 o ((hm o).mp ho)⟩⟩
theorem zj1{w:List WP}{p:WP}{f:Str}(e:w[i]?=some p)(hf:p.1=f)(hn:∀q∈w.take i,q.1≠f):IR w f=some p.2:=by
 have hi:i<w.length:=(An.mp e).1;unfold IR;have:w.find? (λq=>decide (q.1=f))=some p:=by rw[←E6 i w,F6,CW.mpr λq hq z=>hn q hq (of_decide_eq_true z),Bu hi];rw[show w[i]=p from(An.mp e).2];rw[List.find?_cons_of_pos (by simpa using hf)];rfl
 rw[this];rfl
noncomputable def Kt(p:WP):PD:= .tup [.str p.1,.bl p.2.1.isSome,.int (p.2.1.getD 0),.bl p.2.2.isNone,.int (p.2.2.getD 0)]
noncomputable def LM(w:List WP):PD:= .tup (w.map Kt)
noncomputable def Mg(p:WP):List V:=[.str p.1,.bl p.2.1.isSome,.int (p.2.1.getD 0),.bl p.2.2.isNone,.int (p.2.2.getD 0)]
theorem Ul{K:Ae}:∀qs:List (Addr×WP),(∀q∈qs,H q.1=some (.tup (Mg q.2)))→Reps K H ((qs.map (·.2)).map Kt) (qs.map λq=>V.ref q.1)
 | [],_=>by show Reps K H [] [];rw[Reps]
 | q::qs,h=>by show Reps K H (Kt q.2::_) (V.ref q.1::_);rw[Reps];refine⟨_,_,rfl,?_,Ul qs λx hx=>h x (As _ hx)⟩;unfold Kt;rw[Rep];refine⟨q.1,_,rfl,SqT.of (h q Ao),?_⟩;unfold Mg;simp only[Reps,Rep];exact⟨_,_,rfl,rfl,_,_,rfl,rfl,_,_,rfl,rfl,_,_,rfl,rfl,_,_,rfl,rfl,rfl⟩
theorem n'e(a b:Option Int)(r r':List PD):Jy (.bl a.isSome:: .int (a.getD 0)::r) (.bl b.isSome:: .int (b.getD 0)::r')=(decide (La a=La b) && Jy r r'):=by
 rw[Jy,Jy];cases a<;>cases b<;>simp[IK,La]<;>rfl
theorem n'f(a b:Option Int)(r r':List PD):Jy (.bl a.isNone:: .int (a.getD 0)::r) (.bl b.isNone:: .int (b.getD 0)::r')=(decide (Lb a=Lb b) && Jy r r'):=by
 rw[Jy,Jy];cases a<;>cases b<;>simp[IK,Lb]<;>rfl
theorem zl4(p q:WP):IK (Kt p) (Kt q)=decide (ky p=ky q):=by
 unfold Kt ky;rw[IK,Jy,n'e,n'f,Jy,IK];simp[Bool.decide_and];congr 1
theorem n'c(a b:Option Int)(r r':List PD):J9 (.bl a.isSome:: .int (a.getD 0)::r) (.bl b.isSome:: .int (b.getD 0)::r')=if La a=La b then J9 r r' else KU (La a) (La b):=by
 rw[J9,J9];cases a<;>cases b<;>simp[IK,I_,La,KU,Kc,M8]<;>congr 1
theorem n'd(a b:Option Int)(r r':List PD):J9 (.bl a.isNone:: .int (a.getD 0)::r) (.bl b.isNone:: .int (b.getD 0)::r')=if Lb a=Lb b then J9 r r' else KU (Lb a) (Lb b):=by
 rw[J9,J9];cases a<;>cases b<;>simp[IK,I_,Lb,KU,Kc,M8]<;>congr 1
theorem zl2(p q:WP)(hn:ky p≠ky q):I_ (Kt p) (Kt q)=K2 (ky p) (ky q):=by
 unfold Kt;rw[I_,J9,n'c,n'd,J9,IK,I_];unfold K2 Kc ky;unfold ky at hn
 by_cases h:p.1=q.1
 · simp only[h,beq_self_eq_true,if_true]
   by_cases h1:La p.2.1=La q.2.1
   · simp only[h1,if_true]
     by_cases h2:Lb p.2.2=Lb q.2.2
     · exact absurd (by rw[h,h1,h2]) hn
     · simp only[h2,if_false]
   · simp only[h1,if_false]
 · simp[h,Qg]
theorem Za(p q:WP):IN (Kt p) (Kt q)=true:=by
 unfold Kt;rw[IN,JJ,JJ,JJ,JJ,JJ,JJ]
 all_goals simp[IN]
theorem U_:∀w w':List WP,JJ (w.map Kt) (w'.map Kt)=true
 | [],w'=>by rw[BH,JJ];all_goals simp
 | x::r,[]=>by rw[BH,JJ];all_goals simp
 | x::r,y::r'=>by rw[Ax,Ax,JJ,Za,U_ r r'];simp
theorem Vj:∀w w':List WP,J9 (w.map Kt) (w'.map Kt)=J6 K2 (w.map ky) (w'.map ky)
 | [],[]=>by rw[BH,J9];rfl
 | [],y::r=>by rw[BH,Ax,J9];rfl
 | x::r,[]=>by rw[BH,Ax,J9];rfl
 | x::r,y::r'=>by
  rw[Ax,Ax,J9,zl4,Vj r r',Ax,Ax,J6];by_cases h:ky x=ky y
  · rw[if_pos (decide_eq_true h),if_pos h]
  · rw[if_neg (by simpa using h),if_neg h,zl2 x y h]
theorem Yx(w w':List WP):I_ (LM w) (LM w')=Mu w w':=by unfold LM Mu;rw[I_,Vj]
theorem Zs(w:List WP):Jv (LM w)≤2:=by
 have:∀w:List WP,JF (w.map Kt)≤1:=λw=>by
  induction w with
  | nil=>show JF []≤1;rw[JF];omega
  | cons p w ih=>
   rw[Ax,JF];have:Jv (Kt p)=1:=by unfold Kt;simp[Jv,JF]
   omega
 unfold LM;rw[Jv];have:=this w;omega
structure Dd(us ks:List (Addr×List WP)):Prop where
 sub:∀k∈ks,k∈us
 nd:(ks.map (·.2)).Nodup
 mem:∀w,w∈ks.map (·.2)↔w∈us.map (·.2)
 len:ks.length≤us.length
theorem Dd.nil:Dd [] []:=⟨λ_ h=>h,EV,λ_=>Iff.rfl,Ah _⟩
theorem Dd.put{us ks:List (Addr×List WP)}(h:Dd us ks)(x:Addr×List WP):Dd (us++[x]) (KN ks x.1 x.2):=by
 unfold KN;by_cases c:(ks.any λk=>decide (k.2=x.2))=true
 · rw[if_pos c];obtain⟨k,hk,e⟩:=C7.mp c;have e:=of_decide_eq_true e;have hx:x.2∈us.map (·.2):=(h.mem _).mp (by rw[←e];exact Az hk);refine⟨λk hk=>Bw _ (h.sub k hk),h.nd,λw=>?_,by rw[A6];have:=h.len;omega⟩;rw[h.mem,Aq,A3];refine⟨.inl,λz=>z.elim id λz=>?_⟩;rw[Ax,BH,Aj] at z;rw[z];exact hx
 · rw[if_neg c];have nx:x.2 ∉ ks.map (·.2):=λhx=>by
    obtain⟨k,hk,e⟩:=AB.mp hx;exact c (C7.mpr ⟨k,hk,decide_eq_true e⟩)
   refine⟨λk hk=>?_,?_,λw=>?_,by rw[A6,A6];have:=h.len;simp;omega⟩
   · rcases A3.mp hk with z | z
     · exact Bw _ (h.sub k z)
     · exact Ai _ z
   · rw[Aq,F9];refine⟨h.nd,by simp,λa ha b hb e=>?_⟩;rw[Ax,BH,Aj] at hb;rw[e,hb] at ha;exact nx ha
   · rw[Aq,Aq,A3,A3,h.mem]
theorem zgV{α:Type}(f:α→Bool)(l:List α):(l.filter f).isEmpty=!l.any f:=by rw[Bm];simp[FU,Es]
noncomputable def J_(ks:List (Addr×List WP))(w:List WP):Bool:=!(ks.any λk=>JC k.2 w && !decide (k.2=w))
theorem Dd.top{ws ks:List (Addr×List WP)}(h:Dd ws ks):IsTop (ws.map (·.2)) ((ks.filter λk=>J_ ks k.2).map (·.2)):=by
 have:=Xs h.nd h.mem (J_ ks) λw hw=>by
  unfold J_;rw[Dx,List.any_eq_false];constructor
  · intro z o ho r;obtain⟨k,hk,rfl⟩:=AB.mp ho;have:=z k hk;rw[r] at this;simpa using this
  · intro z k hk;have:=z k.2 (Az hk);cases r:JC k.2 w with
    | false=>simp
    | true=>simpa using this r
 rw[List.filter_map] at this;exact this
theorem Vl{M:Nat}{K:Ae}{sp:Sp}{t:Addr}{qs:List (Addr×List WP)}{Q:VK}(hn:qs.length≤M)(D:List WP→PD)(hW:WsAt H t qs)
 (hsp:∀x∈qs,∀H1,Same H H1→∀Q1:VK,(∀kv H2,Same H1 H2→Rep K H2 (D x.2) kv→Q1 kv H2)→sp [.ref x.1] H1 Q1 E0) (hf:Q2 qs.length λi=>D (qs.getD i (0,[])).2)
 (hd:∀w,Jv (D w)≤20) (hok:∀w w',IN (D w) (D w')=true) (hlt:∀w w',I_ (D w) (D w')=Mu w w')
 (q:∀(r:Addr)(rs:List (Addr×List WP))(H':Hp),Same H H'→H r=none→rs.Perm qs→KO (rs.map (·.2))→H' r=some (.lst (rs.map λx:Addr×List WP=>V.ref x.1))→Q (.ref r) H'):N7 M K sp [.ref t] H Q:=by
 have lm:(qs.map λx=>V.ref x.1).length=qs.length:=Ab _;have O:KS.Ord λi j=>I_ (D (qs.getD i (0,[])).2) (D (qs.getD j (0,[])).2):=by have:=sto_ky.ord λi=>(qs.getD i (0,[])).2.map ky;simp only[hlt];exact this
 refine⟨t,_,λi=>D (qs.getD i (0,[])).2,rfl,SqL.of hW.at',by rw[lm];exact hn,?refs,?cons,?_,by rw[lm];exact hf,λi=>hd _,λi j _ _=>hok _ _,O,?_⟩
 case refs=> intro v hv;obtain⟨x,_,rfl⟩:=AB.mp hv;exact⟨_,rfl⟩
 case cons=>
  intro i j hi hj e;rw[lm] at hi hj;rw[Af,Af] at e;have ei:qs[i]?=some qs[i]:=by simp
  have ej:qs[j]?=some qs[j]:=by simp
  rw[ei,ej] at e;have ea:qs[i].1=qs[j].1:=by have:=A4 e;injection this
  have w1:=(hW.ok _ (Ag ei)).1;have w2:=(hW.ok _ (Ag ej)).1;rw[ea] at w1;have:=w1.inj w2;show D (qs.getD i (0,[])).2=D (qs.getD j (0,[])).2;rw[AS,AS,ei,ej];show D qs[i].2=D qs[j].2;rw[this]
 · intro i v hv H2 s2 Q1 hQ;rw[Af] at hv;cases e1:qs[i]? with
   | none=>rw[e1] at hv;cases hv
   | some P1=>
    rw[e1] at hv;obtain rfl:V.ref P1.1=v:=A4 hv;have e2:qs.getD i (0,[])=P1:=by rw[AS,e1];rfl
    exact hsp P1 (Ag e1) H2 s2 Q1 λv' H' s' r'=>hQ v' H' s' (by show Rep K H' (D (qs.getD i (0,[])).2) v';rw[e2];exact r')
 · intro r p H' ok srt s2 nr e';rw[lm] at ok srt;have hsz:=ok.size;have em:(p.toList.map λi=>(qs.map λx=>V.ref x.1).getD i .non)=(p.toList.map λi=>qs.getD i (0,[])).map λx=>V.ref x.1:=by
    rw[Bx];refine DF λi hi=>?_;have hi':i<qs.length:=CK.mp (ok.perm.mem_iff.mp hi);rw[YN (λx:Addr×List WP=>V.ref x.1) (0,[]) V.non qs hi'];rfl
   rw[em] at e';refine q r _ H' s2 nr (Zk (0,[]) ok) ?_ e';unfold KO;rw[List.pairwise_map,List.pairwise_iff_getElem];intro i j hi hj hij;simp only[Ab,A9] at hi hj;simp only[CN,ED];have h1:=srt i j hij (by omega);have k1:KS.K p i=p[i]:=by show p.getD i 0=_;simp[FE,hi]
   have k2:KS.K p j=p[j]:=by show p.getD j 0=_;simp[FE,hj]
   rw[k1,k2] at h1;exact(hlt _ _).symm.trans h1
noncomputable def UD:Sp:=λvs H Q _=>∃(a d:Addr)(w:List WP)(ks:List (Addr×List WP)),vs=[.ref a,.ref d]∧WishAt H a w∧WOk w∧Xd H d ks∧(∀k∈ks,WOk k.2)∧∀H',Same H H'→Q (.bl (ks.any λk=>JC k.2 w && !decide (k.2=w))) H'
noncomputable def Qo(H:Hp)(r:Addr)(ws qs:List (Addr×List WP)):Prop:=H r=some (.lst (qs.map λx=>V.ref x.1))∧(∀x∈qs,x∈ws)∧IsTop (ws.map (·.2)) (qs.map (·.2))∧qs.length≤ws.length
noncomputable def UC:Sp:=λvs H Q _=>∃(l:Addr)(ws:List (Addr×List WP)),vs=[.ref l]∧WsAt H l ws∧∀(r:Addr)(qs:List (Addr×List WP))(H':Hp),Same H H'→H r=none→Qo H' r ws qs→Q (.ref r) H'
noncomputable def Tw:Sp:=λvs H Q _=>∃(a:Addr)(w:List WP)(f:Str),vs=[.ref a,.str f]∧WishAt H a w∧WOk w∧∀v H',Same H H'→(match IR w f with | none=>v= .non | some p=>∃t,v= .ref t∧H' t=some (.tup [eV p.1,eV p.2]))→Q v H'
noncomputable def TW:Sp:=λvs H Q _=>∃(a b:Addr)(w w':List WP),vs=[.ref a,.ref b]∧WishAt H a w∧WishAt H b w'∧WOk w∧WOk w'∧∀H',Same H H'→Q (.bl (JC w w')) H'
noncomputable def Ut(K:Ae):Sp:=λvs H Q _=>∃(a:Addr)(w:List WP),vs=[.ref a]∧WishAt H a w∧WOk w∧∀v H',Same H H'→Rep K H' (LM w) v→Q v H'
noncomputable def Qw(ns:List Int)(ps:List (List PP))(f:Str):List (List PP):=ps++ps.flatMap λp=>ns.map λn=>p++[(f,n)]
noncomputable def Kp(ns:List Int)(fs:List Str):List (List PP):=fs.foldl (Qw ns) [[]]
theorem V0(ns:List Int)(fs:List Str)(f:Str):Kp ns (fs++[f])=Qw ns (Kp ns fs) f:=by unfold Kp;rw[Ej];rfl
theorem ZH{α:Type}{a b:List α}{x:α}(h:a.Sublist (b++[x])):a.Sublist b∨∃a',a=a'++[x]∧a'.Sublist b:=by
 obtain⟨l1,l2,e,h1,h2⟩:=List.sublist_append_iff.mp h;cases l2 with
 | nil=>left;rw[e,Du];exact h1
 | cons y r=>
  right
  have:=h2.length_le;have er:r=[]:=by simpa using this
  subst er;have:y=x:=by have:=h2.subset Ao;simpa using this
  subst this;exact⟨l1,e,h1⟩
theorem Zc{ns:List Int}:∀(n:Nat)(fs:List Str),fs.length=n→∀P:List PP,(P.map (·.1)).Sublist fs→(∀x∈P,x.2∈ns)→P∈Kp ns fs:=by
 intro n
 induction n with
 | zero=> intro fs hf P h1 _;rw[Dp.mp hf] at h1 ⊢;have:P=[]:=List.map_eq_nil_iff.mp (List.sublist_nil.mp h1);rw[this];exact Aj.mpr rfl
 | succ n ih=>
  intro fs hf P h1 h2;rcases G7 fs with e | ⟨gs,f,e⟩
  · rw[e] at hf;cases hf
  · have e:fs=gs++[f]:=by rw[e];simp
    subst e;have hg:gs.length=n:=by simpa using hf
    rw[V0];unfold Qw;rcases ZH h1 with z | ⟨a,ea,z⟩
    · exact Bw _ (ih gs hg P z h2)
    · rcases G7 P with eP | ⟨R,x,eP⟩
      · rw[eP] at ea;simp at ea
      · have eP:P=R++[x]:=by rw[eP];simp
        subst eP;rw[Aq] at ea;obtain⟨e1,e2⟩:=List.append_inj' ea rfl;have e2:x.1=f:=by simpa using e2
        refine Ai _ (C9.mpr ⟨R,ih gs hg R (by rw[e1];exact z) λy hy=>h2 y (Bw _ hy),AB.mpr ⟨x.2,h2 x (by simp),?_⟩⟩);rw[←e2]
noncomputable def Ms(lo sz:Int)(k:Nat):List Int:=(BU k).map λi:Nat=>lo+sz*(-1+(i:Int))
theorem Vb{lo sz m:Int}{k:Nat}(hk:(k:Int)=m+1){j:Int}(h0: -1≤j)(h1:j<m):lo+sz*j∈Ms lo sz k:=
 AB.mpr ⟨(j+1).toNat,CK.mpr (by omega),by rw[show(-1+(((j+1).toNat:Nat):Int))=j by omega]⟩
theorem ZQ{lo sz m:Int}{k:Nat}{fs:List Str}{w:List WP}{os:List (List WP)}(hk:(k:Int)=m+1)(hm:0≤m)(hz:1≤sz)(asc:fs.Pairwise Jq)(kw:WOk w)(iw:∀p∈w,p.1∈fs)(gw:JS lo sz m w)(go:∀o∈os,JS lo sz m o)
 (h:AllOk w os (IH w os)):IH w os=[]↔∀P∈Kp (Ms lo sz k) fs,IX w P=true→∃o∈os,IX o P=true:=by
 constructor
 · intro e P _ t;rcases h.full P t with⟨p,hp,_⟩ | z
   · rw[e] at hp;simp at hp
   · exact z
 · intro a;cases e:IH w os with
   | nil=>rfl
   | cons p ps=>
    have hp:p∈IH w os:=by rw[e];exact Ao
    obtain⟨kp,fp⟩:=h.ok p hp;have gp:=zjJ gw go p hp;have tk:=zko kp gp hz;obtain⟨t1,t2⟩:=h.sound p hp _ tk;have hs:((ME lo sz p).map (·.1)).Sublist fs:=by rw[Rp,fp];refine NX _ _ kw.asc asc λf hf=>?_;obtain⟨x,hx,rfl⟩:=AB.mp hf;exact iw x hx
    have hn:∀x∈ME lo sz p,x.2∈Ms lo sz k:=λx hx=>by
     obtain⟨j,z⟩:=Y4 gp x hx;rcases z with⟨z0,z1,z2⟩ | z
     · rw[z2];exact Vb hk z0 z1
     · rw[z];exact Vb hk (EZ _) (by omega)
    obtain⟨o,ho,to⟩:=a _ (Zc _ fs rfl _ hs hn) t1;rw[t2 ((Rp p).trans fp) o ho] at to;cases to
noncomputable def Tz:Sp:=λvs H Q _=>∃(a t:Addr)(fs:List Str)(lo sz wide:Int),vs=[.ref a,.ref t,.int wide]∧H a=some (.lst (fs.map V.str))∧fs.length≤3∧(∀f∈fs,FieldOk f)∧fs.Pairwise Jq∧H t=some (.tup [.int lo,.int sz])∧1≤sz∧sz≤10^10∧1≤wide∧wide≤9∧
 ∀(r:Addr)(qs:List (Addr×List PP))(H':Hp),Same H H'→H' r=some (.lst (qs.map λq=>V.ref q.1))→qs.length≤8000→(∀q∈qs,PieceAt H' q.1 q.2∧POk q.2)→qs.map (·.2)=Kp (Ms lo sz (2*wide - (0 - 1)).toNat) fs→Q (.ref r) H'
theorem Td{w:List WP}(kw:WOk w)(lw:w.length≤3):∀(os2 os1:List (List WP)),AllOk w os1 (IH w os1)→(∀o∈os2,WOk o)→AllOk w (os1++os2) (IH w (os1++os2))
 | [],os1,h,_=>by rw[Du];exact h
 | o::os2,os1,h,ho=>by
  have h1:AllOk w (os1++[o]) (IH w (os1++[o])):=by rw[Rg];exact Vq h lw λp hp=>Vf (h.ok p hp).1 (ho o Ao)
  have:=Td kw lw os2 (os1++[o]) h1 λx hx=>ho x (As _ hx);rw[Dc] at this;exact this
theorem Pe{w:List WP}(kw:WOk w)(lw:w.length≤3){os:List (List WP)}(ho:∀o∈os,WOk o):AllOk w os (IH w os):=by have:=Td kw lw os [] (all_nil kw) ho;exact this
theorem zjq{w:List WP}(kw:WOk w)(lw:w.length≤3){os os':List (List WP)}(ho:∀o∈os,WOk o)(hs:∀o∈os',o∈os)(h:IH w os≠[]):IH w os'≠[]:=λe=>by
 have A:=Pe kw lw ho;have A':=Pe kw lw (os:=os') λo h=>ho o (hs o h);cases ep:IH w os with
 | nil=>exact h ep
 | cons p ps=>
  have hp:p∈IH w os:=by rw[ep];exact Ao
  obtain⟨kp,fp⟩:=A.ok p hp;obtain⟨t1,t2⟩:=A.sound p hp _ (Wv kp);rcases A'.full _ t1 with⟨q,hq,_⟩ | ⟨o,h1,h2⟩
  · rw[e] at hq;simp at hq
  · rw[t2 ((Qa p).trans fp) o (hs o h1)] at h2;cases h2
noncomputable def JH(w:List WP)(st:List (List WP)):List (List WP):=st.filter λx=>!decide (x=w)
noncomputable def Ju(w:List WP)(st:List (Addr×List WP)):List (Addr×List WP):=st.filter λx=>!decide (x.2=w)
theorem QV(w:List WP)(st:List (Addr×List WP)):(Ju w st).map (·.2)=JH w (st.map (·.2)):=by unfold Ju JH;rw[List.filter_map];rfl
theorem mem_butV{w x:List WP}{st:List (List WP)}:x∈JH w st↔x∈st∧x≠w:=by unfold JH;rw[List.mem_filter];simp
theorem NB{w:List WP}{st:List (Addr×List WP)}{x:Addr×List WP}(h:x∈Ju w st):x∈st:=(Da.mp h).1
theorem Oa(w:List WP)(st:List (Addr×List WP)):(Ju w st).length≤st.length:=AX _ _
theorem P7{w:List WP}{st:List (Addr×List WP)}{x:Addr×List WP}(e:st[i]?=some x):Ju w (st.take (i+1))=Ju w (st.take i)++(if x.2=w then [] else [x]):=by unfold Ju;rw[Jt e,BM];congr 1;rw[BL];by_cases h:x.2=w<;>simp[h]
noncomputable def Kd(st:List (List WP))(w:List WP):List (List WP):=if(IH w (JH w st)).isEmpty=true then JH w st else st
noncomputable def Jl(qs:List (List WP))(i:Nat):List (List WP):=(qs.reverse.take i).foldl Kd qs
noncomputable def Jz(qs:List (List WP)):List (List WP):=Jl qs qs.length
theorem VM(st:List (List WP))(w:List WP):(Kd st w).Sublist st:=by
 unfold Kd
 split
 · exact List.filter_sublist
 · exact Ek _
theorem PN{qs:List (List WP)}{w:List WP}(e:qs.reverse[i]?=some w):Jl qs (i+1)=Kd (Jl qs i) w:=by unfold Jl;rw[Jt e,Ej];rfl
theorem MX(qs:List (List WP)):∀i,(Jl qs i).Sublist qs
 | 0=>Ek _
 | i+1=>by
  cases e:qs.reverse[i]? with
  | none=>
   have:qs.reverse.length≤i:=List.getElem?_eq_none_iff.mp e;have h:Jl qs (i+1)=Jl qs i:=by unfold Jl;rw[A0 (by omega),A0 this]
   rw[h];exact MX qs i
  | some w=>rw[PN e];exact(VM _ _).trans (MX qs i)
theorem Pz(qs:List (List WP)):(Jz qs).Sublist qs:=MX qs _
theorem zjG{qs:List (List WP)}(ok:∀w∈qs,WOk w∧w.length≤3):∀w∈Jz qs,IH w (JH w (Jz qs))≠[]:=by
 have go:∀i,i≤qs.length→∀w∈qs.reverse.take i,w∈Jl qs i→IH w (JH w (Jl qs i))≠[]:=by
  intro i
  induction i with
  | zero=>intro _ w hw;simp at hw
  | succ i ih=>
   intro hi w hw hin;have li:i<qs.reverse.length:=by rw[EM];omega
   have e:qs.reverse[i]?=some qs.reverse[i]:=Al li;rw[Jt e] at hw;rw[PN e] at hin ⊢;generalize qs.reverse[i]=x at*;have sb:=VM (Jl qs i) x;have hq:=(MX qs i).subset (sb.subset hin);by_cases ex:w=x
   · subst ex;unfold Kd at hin ⊢;by_cases c:(IH w (JH w (Jl qs i))).isEmpty=true
     · rw[if_pos c] at hin;exact absurd rfl (mem_butV.mp hin).2
     · rw[if_neg c];exact λz=>c (by rw[z];rfl)
   · have hw':w∈qs.reverse.take i:=by
      rcases A3.mp hw with z | z
      · exact z
      · exact absurd (Aj.mp z) ex
     refine zjq (ok w hq).1 (ok w hq).2 (λo ho=>(ok o ((MX qs i).subset (mem_butV.mp ho).1)).1) (λo ho=>?_) (ih (by omega) w hw' (sb.subset hin));obtain⟨h1,h2⟩:=mem_butV.mp ho;exact mem_butV.mpr ⟨sb.subset h1,h2⟩
 intro w hw;refine go qs.length (Ah _) w ?_ hw;rw[A0 (by simp)];exact List.mem_reverse.mpr ((Pz qs).subset hw)
theorem X2{lo sz m:Int}{k:Nat}{fs:List Str}{w:List WP}{os:List (Addr×List WP)}{ps:List (Addr×List PP)}(hk:(k:Int)=m+1)(hm:0≤m)(hz:1≤sz)(asc:fs.Pairwise Jq)(kw:WOk w)(lw:w.length≤3)(iw:Nb fs w)(gw:JS lo sz m w)(go:∀o∈os,WOk o.2∧JS lo sz m o.2)
 (ep:ps.map (·.2)=Kp (Ms lo sz k) fs):(ps.filter λq=>IX w q.2 && os.all λo=>!IX o.2 q.2).isEmpty=(IH w (os.map (·.2))).isEmpty:=by
 have ho:∀o∈os.map (·.2),WOk o∧JS lo sz m o:=λo h=>by obtain⟨x,hx,rfl⟩:=AB.mp h;exact go x hx
 have:=ZQ hk hm hz asc kw iw gw (λo h=>(ho o h).2) (Pe kw lw λo h=>(ho o h).1);rw[←ep] at this;rw[Bm,FU,FU,this,Es];constructor
 · intro h P hP t;obtain⟨q,hq,rfl⟩:=AB.mp hP;have:=h q hq;rw[t,Ex] at this;have:=Dz.mpr this;rw[Eh] at this;obtain⟨o,h1,h2⟩:=this;exact⟨o.2,Az h1,by simpa using h2⟩
 · intro h q hq z;rw[AF] at z;obtain⟨o,h1,h2⟩:=h q.2 (Az hq) z.1;obtain⟨x,hx,rfl⟩:=AB.mp h1;have:=C8.mp z.2 x hx;rw[h2] at this;cases this
theorem VW{f:Addr×List WP→Bool}:∀(l:List (Addr×List WP))(x:Addr×List WP),(l.map (·.2)).Nodup→x∈l→f x=true→(∀y∈l,y.2≠x.2→f y=false)→l.filter f=[x]
 | [],x,_,h,_,_=>by simp at h
 | y::l,x,nd,h,hx,hn=>by
  rw[Ax,Cm] at nd;rcases Aw.mp h with e | h
  · subst e;rw[BL,if_pos hx];congr 1;rw[Es];intro z hz;rw[hn z (As _ hz) λe=>nd.1 (by rw[←e];exact Az hz)];exact Au
  · rw[BL,if_neg (by rw[hn y Ao λe=>nd.1 (by rw[e];exact Az h)];exact Au)];exact VW l x nd.2 h hx λz hz=>hn z (As _ hz)
theorem ToldPc.keep{H':Hp}{v:V}{ps:List (List WP)}(h:ToldPc H v ps)(s:Tups H H'):ToldPc H' v ps:=by
 cases ps with
 | nil=>exact h
 | cons p ps=>obtain⟨t,h1,h2⟩:=h;exact⟨t,h1,h2.keep s⟩
theorem UG{K:Ae}{p:Addr}{w:List WP}(e:H p=some (.lst [V.ref a]))(h:WishAt H a w):Rep K H (.lst [dW w]) (.ref p):=by rw[Rep];refine⟨p,_,rfl,SqL.of e,?_⟩;rw[Reps];exact⟨_,_,rfl,Lp h,by rw[Reps]⟩
theorem zjO(w:List WP):Jv (.lst [dW w])≤3:=by rw[Jv,JF,JF];have:=Ny w;omega
theorem zku(w:List WP):IK (.lst [dW w]) (.lst [dW w])=true:=by rw[IK,Jy,Jy,Nx];simp
noncomputable def OZ:Sp:=λvs H Q _=>∃(l:Addr)(ws:List (Addr×List WP)),vs=[.ref l]∧WsAt H l ws∧ws.length≤7∧∀(r:Addr)(qs:List (Addr×List WP))(H':Hp),Same H H'→H r=none→Qo H' r ws qs→KO (qs.map (·.2))→Q (.ref r) H'
noncomputable def UH:Sp:=λvs H Q _=>∃(a l:Addr)(w:List WP)(ws:List (Addr×List WP)),vs=[.ref a,.ref l]∧WishAt H a w∧WsAt H l ws∧∀(r:Addr)(H':Hp),Same H H'→H r=none→H' r=some (.lst ((Ju w ws).map λx=>V.ref x.1))→Q (.ref r) H'
structure LeanAt(H:Hp)(r:Addr)(ts:List (Addr×Addr×V×List WP))(st:List (List WP)):Prop where
 at':H r=some (.lst (ts.map λt=>V.ref t.1))
 eq:ts.map (·.2.2.2)=st
 ok:∀t∈ts,H t.1=some (.tup [.ref t.2.1,t.2.2.1])∧WishAt H t.2.1 t.2.2.2∧WOk t.2.2.2∧ToldPc H t.2.2.1 (IH t.2.2.2 (JH t.2.2.2 st))
theorem LeanAt.same{H':Hp}{r:Addr}{ts:List (Addr×Addr×V×List WP)}{st:List (List WP)}(h:LeanAt H r ts st)(s:Same H H'):LeanAt H' r ts st:=
 ⟨s _ _ h.at',h.eq,λt ht=>let⟨a,b,c,d⟩:=h.ok t ht;⟨s _ _ a,b.same s,c,d.same s⟩⟩
noncomputable def Ts:Sp:=λvs H Q _=>∃(l:Addr)(ws:List (Addr×List WP))(fs:List Str),vs=[.ref l]∧WsAt H l ws∧ws.length≤7∧fs.length≤3∧(∀x∈ws,Nb fs x.2)∧
 ∀(r:Addr)(qs:List (List WP))(ts:List (Addr×Addr×V×List WP))(H':Hp),Same H H'→H r=none→IsTop (ws.map (·.2)) qs→KO qs→LeanAt H' r ts (Jz qs)→Q (.ref r) H'
noncomputable def TC:Sp:=λvs H Q _=>∃(l p:Addr)(ws:List (Addr×List WP))(ps:List (Addr×List PP))(fs:List Str)(lo sz m:Int)(k:Nat),vs=[.ref l,.ref p]∧WsAt H l ws∧ws.length≤7∧H p=some (.lst (ps.map λq=>V.ref q.1))∧(∀q∈ps,PieceAt H q.1 q.2∧POk q.2)∧ps.length≤8000∧ps.map (·.2)=Kp (Ms lo sz k) fs∧(k:Int)=m+1∧0≤m∧1≤sz∧fs.Pairwise Jq∧fs.length≤3∧(∀x∈ws,Nb fs x.2∧JS lo sz m x.2)∧
 ∀(r:Addr)(qs:List (List WP))(rs:List (Addr×List WP))(H':Hp),Same H H'→IsTop (ws.map (·.2)) qs→KO qs→WsAt H' r rs→rs.map (·.2)=Jz qs→(∀x∈rs,x∈ws)→Q (.ref r) H'
end L2
set_option maxHeartbeats 4000000
namespace K14
open PySem PySem.Spec PyProof.Rows L2
theorem IU{α:Type}{l:List (Addr×α)}{x:V}(h:(l.map λy=>V.ref y.1)[i]?=some x):∃y,l[i]?=some y∧x=V.ref y.1:=by
 rw[Af] at h;cases e:l[i]? with
 | none=>rw[e] at h;cases h
 | some y=>rw[e] at h;exact⟨y,rfl,(A4 h).symm⟩
noncomputable def top(i:Nat):Stmt:=PySem.Challenge.pw_newsways_k14_the_lean_list_by_trial.main.body.getD i (.Pass ⟨0,0,0,0⟩)
noncomputable abbrev Rs:Stmt:=top 5
noncomputable abbrev QK:Stmt:=top 6
noncomputable abbrev QY:Stmt:=top 7
noncomputable abbrev R7:Stmt:=top 8
noncomputable abbrev On:Stmt:=top 9
noncomputable abbrev RF:Stmt:=top 10
noncomputable abbrev PH:Stmt:=top 13
noncomputable abbrev R5:Stmt:=top 14
noncomputable abbrev PX:Stmt:=top 15
noncomputable abbrev P4:Stmt:=top 16
noncomputable abbrev Qc:Stmt:=top 17
noncomputable abbrev R4:Stmt:=top 18
noncomputable abbrev Qe:Stmt:=top 19
noncomputable abbrev RJ:Stmt:=top 20
noncomputable abbrev P_:Stmt:=top 21
noncomputable abbrev R3:Stmt:=top 23
noncomputable abbrev R6:Stmt:=top 24
noncomputable abbrev OY:Stmt:=top 22
noncomputable abbrev Rr:Stmt:=top 34
noncomputable abbrev Om:Stmt:=top 33
noncomputable abbrev Rq:Stmt:=top 28
noncomputable abbrev R8:Stmt:=top 38
noncomputable abbrev RI:Stmt:=top 37
noncomputable abbrev PU:Stmt:=top 36
noncomputable abbrev PV:Stmt:=top 35
noncomputable abbrev P8:Stmt:=top 31
noncomputable abbrev Ri:Stmt:=top 30
noncomputable abbrev P3:Stmt:=top 32
noncomputable abbrev OX:Stmt:=top 29
noncomputable abbrev Oe:Stmt:=top 40
noncomputable abbrev Ry:Stmt:=top 41
noncomputable abbrev PJ:Stmt:=top 42
noncomputable abbrev RB:Stmt:=top 43
noncomputable abbrev Rt:Stmt:=top 44
noncomputable abbrev Ru:Stmt:=top 45
noncomputable abbrev Rx:Stmt:=top 46
noncomputable abbrev Rz:Stmt:=top 47
noncomputable abbrev RC:Stmt:=top 48
noncomputable abbrev Rv:Stmt:=top 49
noncomputable abbrev RA:Stmt:=top 50
noncomputable abbrev Rw:Stmt:=top 51
noncomputable abbrev NF:Stmt:=top 52
noncomputable abbrev RE:Stmt:=top 54
noncomputable abbrev Rj:Stmt:=top 53
noncomputable abbrev PR:Stmt:=top 55
noncomputable abbrev Oq:Stmt:=top 56
noncomputable abbrev P9:Stmt:=top 57
noncomputable abbrev ND:Stmt:=top 58
noncomputable abbrev Mp:Stmt:=top 59
noncomputable def QC(m:Nat):Sp:=λvs H Q _=>∃(v v':V)(d:DY),vs=[v,v']∧m≤9∧RepY H d v∧RepY H d v'∧JB d≤m∧∀H',Same H H'→Q (.bl true) H'
noncomputable def TV:Sp:=λvs H Q _=>∃(a:Addr)(p:List PP),vs=[.ref a]∧PieceAt H a p∧POk p∧∀H',Same H H'→Q (.bl true) H'
noncomputable def spPoints:Sp:=λvs H Q _=>∃(a t:Addr)(fs:List Str)(lo sz wide:Int),vs=[.ref a,.ref t,.int wide]∧H a=some (.lst (fs.map V.str))∧fs.length≤3∧(∀f∈fs,FieldOk f)∧fs.Pairwise Jq∧H t=some (.tup [.int lo,.int sz])∧1≤sz∧sz≤10^10∧1≤wide∧wide≤9∧
 ∀(r:Addr)(qs:List (Addr×List PP))(H':Hp),Same H H'→H' r=some (.lst (qs.map λq=>V.ref q.1))→qs.length≤8000→(∀q∈qs,PieceAt H' q.1 q.2∧POk q.2)→Q (.ref r) H'
noncomputable def RZ:Sp:=λvs H Q _=>∃(a l c:Addr)(w:List WP)(os:List (Addr×List WP))(p:List PP),vs=[.ref a,.ref l,.ref c]∧WishAt H a w∧WsAt H l os∧PieceAt H c p∧POk p∧∀H',Same H H'→Q (.bl (IX w p && os.all λo=>!IX o.2 p)) H'
noncomputable def Ml(p:PP):DY:= .tup [.str p.1,.int p.2]
noncomputable def Mk(p:List PP):DY:= .tup (p.map Ml)
theorem Vo:∀ps:List (Addr×PP),(∀p∈ps,H p.1=some (.tup [.str p.2.1,.int p.2.2]))→(∀p∈ps,p.2.1.length≤8)→RepYs H ((ps.map (·.2)).map Ml) (ps.map λp=>V.ref p.1)
 | [],_,_=>RepYs.nil
 | p::ps,h,hl=>by refine RepYs.cons ?_ (Vo ps (λx hx=>h x (As _ hx)) λx hx=>hl x (As _ hx));refine Pp (h p Ao) (RepYs.cons ?_ (RepYs.cons (by rw[RepY]) RepYs.nil)) (by simp);rw[RepY];exact⟨rfl,AD (hl p Ao) (by decide)⟩
theorem Y2{p:List PP}(h:PieceAt H a p)(ok:POk p):RepY H (Mk p) (.ref a):=by obtain⟨ps,rfl,e,f⟩:=h;refine Pp e (Vo ps f λp hp=>?_) (by have:=ok.len;rw[Ab] at*;omega);exact(ok.ok p.2 (Az hp)).eight
theorem Zt(p:List PP):JB (Mk p)≤2:=by
 unfold Mk;rw[JB];have:KJ (p.map Ml)≤1:=PM λd hd=>by obtain⟨p,_,rfl⟩:=AB.mp hd;unfold Ml;simp only[JB,KJ];omega
 omega
noncomputable def WH:List (List WP)→DY
 | []=> .non
 | p::_=>Mk (K7 p)
theorem NH{v:V}{ps:List (List WP)}(h:ToldPc H v ps)(ok:∀p∈ps,WOk p):RepY H (WH ps) v:=by
 cases ps with
 | nil=> have:v= .non:=h;subst this;show RepY H .non .non;rw[RepY]
 | cons p ps=> obtain⟨t,rfl,h⟩:=h;exact Y2 h (Ro (ok p Ao))
theorem Nf(ps:List (List WP)):JB (WH ps)≤2:=by
 cases ps with
 | nil=>show JB .non≤2;rw[JB];omega;all_goals simp
 | cons p ps=>exact Zt _
section
variable{K:Ae}{mg:Str→Option Value}{base:Heap}
theorem Jp{N P:List Str}{sc:Scope}(h1:sc.kind= .function:=by rfl)(h2:sc.isCoroutine=false:=by rfl)(h3:sc.isGenerator=false:=by rfl)(h4:N.Nodup:=by decide+kernel)(h5:N.take P.length=P:=by rfl)(h6:∀x∈P,sc.names.lookup x=some .local∨sc.names.lookup x=some .cell:=by decide+kernel)(h7:∀y∈sc.names,y.2≠ .free:=by decide+kernel):FnScope N P sc:=⟨h1,h2,h3,h4,h5,h6,h7⟩
theorem zhq:FnScope ["thing"] ["thing"] (IQ Rs):=Jp
theorem zkj:FnScope ["thing"] ["thing"] (IQ QK):=Jp
theorem GS:FnScope ["thing","low","high"] ["thing"] (IQ QY):=Jp
theorem GT:FnScope ["one","other","low","high","other_low","other_high","reaches_down","reaches_up"] ["one","other"] (IQ R7):=Jp
theorem GU:FnScope ["one","other","low","high"] ["one","other"] (IQ On):=Jp
theorem GV:FnScope ["span","low","high"] ["span"] (IQ RF):=Jp
theorem zhr:FnScope ["thing"] ["thing"] (IQ PH):=Jp
theorem GW:FnScope ["thing","field","low","high"] ["thing"] (IQ R5):=Jp
theorem zee:FnScope ["parts"] ["parts"] (IQ PX):=Jp
theorem zjg:FnScope ["thing"] ["thing"] (IQ P4):=Jp
theorem zfx:FnScope ["thing"] ["thing"] (IQ Qc):=Jp
theorem zes:FnScope ["thing"] ["thing"] (IQ R4):=Jp
theorem zdG:FnScope ["wish"] ["wish"] (IQ Qe):=Jp
theorem GX:FnScope ["one","other_spans","field","low","high"] ["one","other_spans"] (IQ RJ):=Jp
theorem GY:FnScope ["one","other","met","field","low","high","shared"] ["one","other"] (IQ P_):=Jp
theorem zeX:FnScope ["low"] ["low"] (IQ R3):=Jp
theorem zer:FnScope ["high"] ["high"] (IQ R6):=Jp
theorem YA:FnScope ["wish"] ["wish"] (IQ OY):=Jp
theorem GZ:FnScope ["wish","others","spans","other"] ["wish","others"] (IQ Rr):=Jp
theorem G_:FnScope ["wishes","unlike"] ["wishes"] (IQ Om):=Jp
theorem zhs:FnScope ["wishes"] ["wishes"] (IQ Rq):=Jp
theorem Ha:FnScope ["span","inner","low","high","inner_low","inner_high","below","above"] ["span","inner"] (IQ R8):=Jp
theorem Hb:FnScope ["wish","other","met","parts","at","field","low","high","part_low","part_high"] ["wish","other"] (IQ RI):=Jp
theorem Hc:FnScope ["wish","others","parts","other"] ["wish","others"] (IQ PU):=Jp
theorem Hd:FnScope ["wish","others","parts"] ["wish","others"] (IQ PV):=Jp
theorem zgo:FnScope ["wishes"] ["wishes"] (IQ P8):=Jp
theorem zgp:FnScope ["wishes","fields"] ["wishes","fields"] (IQ Ri):=Jp
theorem zjh:FnScope ["wish","wishes"] ["wish","wishes"] (IQ P3):=Jp
theorem He:FnScope ["wishes","stay","wish","others"] ["wishes"] (IQ OX):=Jp
theorem Hf:FnScope ["script","great","small","seed","number"] ["script"] (IQ Oe):=Jp
theorem Hg:FnScope ["well","many","number","cell"] ["well","many"] (IQ Ry):=Jp
theorem Hh:FnScope ["well","most","letters"] ["well","most"] (IQ PJ):=Jp
theorem Hi:FnScope ["well","many","letters","found","k","pick","first","letter","at","word"] ["well","many"] (IQ RB):=Jp
theorem Hj:FnScope ["well","pick","sign","number"] ["well"] (IQ Rt):=Jp
theorem Hk:FnScope ["well","pick","size"] ["well"] (IQ Ru):=Jp
theorem Hl:FnScope ["well","grid","wide","pick","low","high"] ["well","grid","wide"] (IQ Rx):=Jp
theorem Hm:FnScope ["well","names","grid","wide","parts","field","low","high"] ["well","names","grid","wide"] (IQ Rz):=Jp
theorem Hn:FnScope ["well","names","grid","wide","many","found","k","pick","wish","old","at"] ["well","names","grid","wide","many"] (IQ RC):=Jp
theorem Ho:FnScope ["wish","field","other","low","high"] ["wish","field"] (IQ Rv):=Jp
theorem Hq:FnScope ["one","other","field","low","high","there"] ["one","other"] (IQ RA):=Jp
theorem Hr:FnScope ["wish","found","field","low","high"] ["wish"] (IQ Rw):=Jp
theorem Hs:FnScope ["wishes","some","wish","top"] ["wishes"] (IQ NF):=Jp
theorem zgn:FnScope ["thing"] ["thing"] (IQ RE):=Jp
theorem Ht:FnScope ["wish","piece","there","field","low","high"] ["wish","piece"] (IQ Rj):=Jp
theorem Hu:FnScope ["thing","last","pair"] ["thing"] (IQ PR):=Jp
theorem Hv:FnScope ["names","grid","wide","numbers","found","field","longer","piece"] ["names","grid","wide"] (IQ Oq):=Jp
theorem WA:FnScope ["found","due"] ["found","due"] (IQ P9):=Jp
theorem Hw:FnScope ["wishes","points","stay","wish","others","alone","one"] ["wishes","points"] (IQ ND):=Jp
theorem Hx:FnScope ["script","well","names","wide","many","grid","wishes","due","handed","found","k","pair"] ["script"] (IQ Mp):=Jp
section
variable(P:Bp)(w:World)(K:Ae)(mg:Str→Option Value)(base:Heap)
noncomputable abbrev Γ0:=Jk P w K mg base 1 "is_whole" ["thing"] (Ph K)
noncomputable abbrev Γ1:=Jk P w K mg base 2 "is_end" ["thing"] (SM K)
noncomputable abbrev Γ6:=Jk P w K mg base 1 "is_field" ["thing"] (Us)
noncomputable abbrev Γ2:=Jk P w K mg base 3 "is_span" ["thing"] (UK K)
noncomputable abbrev Γ8:=Jk P w K mg base 1 "fields_ascend" ["parts"] (UI)
noncomputable abbrev Γ7:=Jk P w K mg base 4 "is_wish_part" ["thing"] (Wt)
noncomputable abbrev Γ9:=Jk P w K mg base 5 "is_wish" ["thing"] (UL)
noncomputable abbrev Γ10:=Jk P w K mg base 6 "are_wishes" ["thing"] (Ur)
noncomputable abbrev Γ3:=Jk P w K mg base 1 "span_reaches" ["one","other"] (U9)
noncomputable abbrev Γ12:=Jk P w K mg base 1 "spans_by_field" ["wish"] (Ws)
noncomputable abbrev Γ4:=Jk P w K mg base 1 "span_shared" ["one","other"] (UM)
noncomputable abbrev Γ15:=Jk P w K mg base 1 "rank_of_low" ["low"] (T0)
noncomputable abbrev Γ16:=Jk P w K mg base 1 "rank_of_high" ["high"] (U8)
noncomputable abbrev Γ13:=Jk P w K mg base 2 "reaches_spans" ["one","other_spans"] (V5)
noncomputable abbrev Γ18:=Jk P w K mg base 3 "is_under" ["wish","others"] (UD)
noncomputable abbrev Γ11:=Jk P w K mg base 7 "check_wishes" ["thing"] (UJ)
noncomputable abbrev Γ19:=Jk P w K mg base 4 "greatest_of" ["wishes"] (UC)
noncomputable abbrev Γ17:=Jk P w K mg base 2 "rank" ["wish"] (TB K)
noncomputable abbrev Γ14:=Jk P w K mg base 2 "wish_shared" ["one","other"] (Tu)
noncomputable abbrev Γ21:=Jk P w K mg base 1 "spans_beside" ["span","inner"] (Wx)
noncomputable abbrev Γ22:=Jk P w K mg base 3 "parts_beside_one" ["wish","other"] (Wr)
noncomputable abbrev Γ23:=Jk P w K mg base 4 "parts_beside" ["wish","others"] (Uv)
noncomputable abbrev Γ5:=Jk P w K mg base 1 "number_of" ["span"] (Uu)
noncomputable abbrev Γ26:=Jk P w K mg base 1 "check_few" ["wishes","fields"] (SN)
noncomputable abbrev Γ20:=Jk P w K mg base 8 "greatest" ["wishes"] (OZ)
noncomputable abbrev Γ25:=Jk P w K mg base 1 "fields_of" ["wishes"] (Wd)
noncomputable abbrev Γ27:=Jk P w K mg base 1 "all_but" ["wish","wishes"] (UH)
noncomputable abbrev Γ24:=Jk P w K mg base 5 "piece_beside" ["wish","others"] (Ww)
noncomputable abbrev Γ30:=Jk P w K mg base 1 "_law_take" ["well","many"] (TD)
noncomputable abbrev Γ31:=Jk P w K mg base 2 "_law_name" ["well","most"] (Tv)
noncomputable abbrev Γ33:=Jk P w K mg base 2 "_law_base" ["well"] (TR)
noncomputable abbrev Γ35:=Jk P w K mg base 2 "_law_span" ["well","grid","wide"] (UA)
noncomputable abbrev Γ36:=Jk P w K mg base 3 "_law_wish" ["well","names","grid","wide"] (UE)
noncomputable abbrev Γ38:=Jk P w K mg base 1 "_law_part" ["wish","field"] (Tw)
noncomputable abbrev Γ40:=Jk P w K mg base 1 "_law_rank" ["wish"] (Ut K)
noncomputable abbrev Γ39:=Jk P w K mg base 2 "_law_covers" ["one","other"] (TW)
noncomputable abbrev Γ42:=Jk P w K mg base 1 "_law_whole" ["thing"] (Ph K)
noncomputable abbrev Γ41:=Jk P w K mg base 4 "_law_greatest" ["wishes"] (OZ)
noncomputable abbrev Γ43:=Jk P w K mg base 1 "_law_wants" ["wish","piece"] (UB)
noncomputable abbrev Γ29:=Jk P w K mg base 1 "_law_well" ["script"] (TF K)
noncomputable abbrev Γ32:=Jk P w K mg base 3 "_law_fields" ["well","many"] (V4)
noncomputable abbrev Γ34:=Jk P w K mg base 3 "_law_grid" ["well"] (TU)
noncomputable abbrev Γ37:=Jk P w K mg base 4 "_law_wishes" ["well","names","grid","wide","many"] (V6)
noncomputable abbrev Γ47:=Jk P w K mg base 5 "_law_stay" ["wishes","points"] (TC)
noncomputable abbrev Γ28:=Jk P w K mg base 9 "lean" ["wishes"] (Ts)
noncomputable abbrev Γ46:=Jk P w K mg base 11 "_law_alike" ["found","due"] (Q0 9 QC)
noncomputable abbrev Γ45:=Jk P w K mg base 1 "_law_points" ["names","grid","wide"] (Tz)
noncomputable abbrev Γ44:=Jk P w K mg base 2 "_law_is_piece" ["thing"] (TV)
end
theorem WL:0≤Ay:=by decide
theorem LA:1≤Ay:=by decide
theorem SH:4≤Ay:=by decide
theorem OS:5≤Ay:=by decide
theorem zq6:6≤Ay:=by decide
theorem zq8:8≤Ay:=by decide
theorem OJ:BD (["end"]:List Str):=by decide+kernel
theorem OI:BD (["sign"]:List Str):=by decide+kernel
theorem O9:BD (["ahead","behind"]:List Str):=by decide+kernel
theorem Sn:BD (["part"]:List Str):=by decide+kernel
theorem O4:BD (["wish"]:List Str):=by decide+kernel
theorem K0:BD (["field","low","high"]:List Str):=by decide+kernel
theorem Sm:BD (["field","met"]:List Str):=by decide+kernel
theorem Sl:BD (["wish","unlike"]:List Str):=by decide+kernel
theorem O3:BD (["part","smaller","other"]:List Str):=by decide+kernel
theorem Mf:BD (["wish","field","low","high"]:List Str):=by decide+kernel
theorem OH:BD (["other","wish"]:List Str):=by decide+kernel
theorem OG:BD (["wish","stay"]:List Str):=by decide+kernel
theorem M7:BD (["cell"]:List Str):=by decide+kernel
theorem OF:BD (["k","well","letters"]:List Str):=by decide+kernel
theorem OE:BD (["wish","some"]:List Str):=by decide+kernel
theorem M6:BD (["one","wish"]:List Str):=by decide+kernel
theorem OD:BD (["k","grid"]:List Str):=by decide+kernel
theorem OC:BD (["number","field","piece"]:List Str):=by decide+kernel
theorem OB:BD (["k","found","due"]:List Str):=by decide+kernel
theorem OA:BD (["piece","wish"]:List Str):=by decide+kernel
theorem O8:BD (["piece","one"]:List Str):=by decide+kernel
theorem O5:BD (["one","pair"]:List Str):=by decide+kernel
theorem Jx:2≤Ay:=by decide
theorem NN:3≤Ay:=by decide
variable{f:Addr}{fd:BP}(B:Bl mg){tML':Tok}(qML':mg "MOST_LETTERS"=some (.int 8 tML')){tMW':Tok}(qMW':mg "MOST_WISHES"=some (.int 7 tMW')){tMF':Tok}(qMF':mg "MOST_FIELDS"=some (.int 3 tMF'))
include B qML' qMW' qMF'
theorem zhJ(F:Fun K "is_whole" "is_whole" Rs f fd)  :FnOk P w K mg base Jc 1 f fd ["thing"] (Ph K):=by
 refine F.ok zhq (λvs H Q E h=>?_) (λcdv A outer s H vs Q E hr h=>?_)
 · obtain⟨v,t,rfl,hty,q⟩:=h;rfl
 obtain⟨v,t,rfl,hty,q⟩:=h;refine⟨_,(IL (IT (Lr (Jd (Kg (n:="")) rfl B.isinstance_ JT (I0 (pv 0) (I0 (JK (v:= .ty "int") rfl B.int_ Pf rfl) IB))) (KL (Tq (Jd (Kg (n:="")) rfl B.isinstance_ JT (I0 (pv 0) (I0 (JK (v:= .ty "bool") rfl B.bool_ Pq rfl) IB)))))))),?_⟩;cases hty
 all_goals first
  | exact⟨_,rfl,_,"int","int",true,rfl,.int _,rfl,_,rfl,ID ⟨_,rfl,_,"int","bool",false,rfl,.int _,rfl,_,rfl,q⟩⟩
  | exact⟨_,rfl,_,"bool","int",true,rfl,.bl _,rfl,_,rfl,ID ⟨_,rfl,_,"bool","bool",true,rfl,.bl _,rfl,_,rfl,q⟩⟩
  | exact⟨_,rfl,_,_,"int",false,rfl,(by first | exact .non | exact .str _ | exact .flt _ | (exact .lst (by assumption)) | (exact .frz (by assumption)) | (exact .tup (by assumption)) | (exact .dK (by assumption)) | (exact .dT (by assumption))),rfl,_,rfl,IA q⟩
theorem zkK(F:Fun K "is_end" "is_end" QK f fd)(Hy:Γ0 P w K mg base):FnOk P w K mg base Jc 2 f fd ["thing"] (SM K):=by
 refine F.ok zkj (λvs H Q E h=>?_) (λcdv A outer s H vs Q E hr h=>?_)
 · obtain⟨v,t,rfl,hty,q⟩:=h;rfl
 obtain⟨v,t,rfl,hty,q⟩:=h;refine⟨_,(IL (IT (NQ (Ls (Ku (pv 0))) (KL (IS Hy (hr.mono (by decide)) rfl (I0 (pv 0) IB)))))),?_⟩;refine⟨_,rfl,_,rfl,?_⟩;cases hty
 case non=>exact ID q
 all_goals refine IA ?_
 case int i=>exact⟨_,rfl,_,_,rfl,.int _,q⟩
 all_goals exact⟨_,rfl,_,_,rfl,(by first | exact .bl _ | exact .str _ | exact .flt _ | (exact .lst (by assumption)) | (exact .frz (by assumption)) | (exact .tup (by assumption)) | (exact .dK (by assumption)) | (exact .dT (by assumption))),q⟩
theorem zjt(F:Fun K "is_span" "is_span" QY f fd)(Hz:Γ1 P w K mg base):FnOk P w K mg base Jc 3 f fd ["thing"] (UK K):=by
 refine F.ok GS (λvs H Q E h=>?_) (λcdv A outer s H vs Q E hr h=>?_)
 · obtain⟨v,t,rfl,hty,hp,q⟩:=h;rfl
 obtain⟨v,t,rfl,hty,hp,q⟩:=h;refine⟨_,(II (Jo (PW.pt (Kn (Kk (JN (Jd (Kg (n:="")) rfl B.isinstance_ JT (I0 (pv 0) (I0 (JK (v:= .ty "tuple") rfl B.tuple_ Lk rfl) IB))))) (KB (Jn LB (Jd Kw rfl B.len_ JZ (I0 (pv 0) IB)) IF (Ji _))))) (IL (IT JI)) Jm)
  (II (Lu (pv 0) (K6 rfl (Jg (IP (i:=1) GS.nd rfl (Or.inl rfl)) (Jg (IP (i:=2) GS.nd rfl (Or.inl rfl)) Kh))))
  (II (Jo (PW.pt (Kn (Kk (JN (IS Hz (hr.mono (by decide)) rfl (I0 (pv 1) IB)))) (KB (Kk (JN (IS Hz (hr.mono (by decide)) rfl (I0 (pv 2) IB))))))) (IL (IT JI)) Jm)
  (IL (IT (NQ (Ls (Ku (pv 1))) (NQ (Ls (Ku (pv 2))) (KL (MP NO (pv 1) (pv 2) (Ji _)))))))))),?_⟩
 have q0:Li H v=false→Q (.bl false) H:=λh=>by rw[←h];exact q
 cases hty
 case tup a xs e=>
  refine⟨_,rfl,_,"tuple","tuple",true,rfl,.tup e,rfl,_,rfl,IA ⟨_,rfl,a,_,rfl,.inr (SqT.of e),rfl,_,rfl,?_⟩⟩;by_cases hl:xs.length=2
  · match xs,hl with
    | [x,y],_=>
     refine IA ⟨_,rfl,a,_,rfl,SqT.of e,rfl,_,_,rfl,_,_,rfl,rfl,?_⟩;obtain⟨t1,t2,h1,h2⟩:=hp a x y rfl e;have es:Li H (.ref a)=(KC x && KC y && Sq x y):=by unfold Li;simp only[e]
     rw[es] at q;refine⟨_,rfl,_,_,rfl,h1,_,rfl,?_⟩;cases ex:KC x with
     | false=> rw[ex] at q;exact ID q
     | true=>
      rw[ex] at q;refine IA ⟨_,rfl,_,_,rfl,h2,_,rfl,?_⟩;cases ey:KC y with
      | false=> rw[ey] at q;exact ID q
      | true=>
       rw[ey] at q;refine IA ⟨_,rfl,_,rfl,?_⟩;cases x with
       | non=>exact ID q
       | int i=>
        refine IA ⟨_,rfl,_,rfl,?_⟩;cases y with
        | non=>exact ID q
        | int j=>exact IA ⟨_,rfl,_,rfl,_,_,rfl,rfl,q⟩
        | _=>exact absurd ey Au
       | _=>exact absurd ex Au
  · have es:Li H (.ref a)=false:=by
     unfold Li;simp only[e]
     match xs,hl with
     | [],_=>rfl
     | [_],_=>rfl
     | [_,_],h=>exact absurd rfl h
     | _::_::_::_,_=>rfl
    have ed:(!decide (V.int ((xs.length:Nat):Int)=V.int 2))=true:=by
     have:¬V.int ((xs.length:Nat):Int)=V.int 2:=λz=>by injection z with z;omega
     rw[decide_eq_false this];rfl
    rw[es] at q;show if(!decide (V.int ((xs.length:Nat):Int)=V.int 2))=true then _ else _
    rw[ed];exact ID q
 case non=>exact⟨_,rfl,_,_,"tuple",false,rfl,.non,rfl,_,rfl,ID (q0 rfl)⟩
 case bl b=>exact⟨_,rfl,_,_,"tuple",false,rfl,(.bl b),rfl,_,rfl,ID (q0 rfl)⟩
 case int i=>exact⟨_,rfl,_,_,"tuple",false,rfl,(.int i),rfl,_,rfl,ID (q0 rfl)⟩
 case str x=>exact⟨_,rfl,_,_,"tuple",false,rfl,(.str x),rfl,_,rfl,ID (q0 rfl)⟩
 case flt x=>exact⟨_,rfl,_,_,"tuple",false,rfl,(.flt x),rfl,_,rfl,ID (q0 rfl)⟩
 case lst a xs e=>exact⟨_,rfl,_,_,"tuple",false,rfl,(.lst e),rfl,_,rfl,ID (q0 (by unfold Li;simp only[e]))⟩
 case frz a o xs e=>exact⟨_,rfl,_,_,"tuple",false,rfl,(.frz e),rfl,_,rfl,ID (q0 (by unfold Li;simp only[e]))⟩
 case dK a kvs e=>exact⟨_,rfl,_,_,"tuple",false,rfl,(.dK e),rfl,_,rfl,ID (q0 (by unfold Li;simp only[e]))⟩
 case dT a kvs e=>exact⟨_,rfl,_,_,"tuple",false,rfl,(.dT e),rfl,_,rfl,ID (q0 (by unfold Li;simp only[e]))⟩
theorem zeF(F:Fun K "span_reaches" "span_reaches" R7 f fd)  :FnOk P w K mg base Jc 1 f fd ["one","other"] (U9):=by
 refine F.ok GT (λvs H Q E h=>?_) (λcdv A outer s H vs Q E hr h=>?_)
 · obtain⟨v,w,lo,hi,lo2,hi2,rfl,S1,S2,q⟩:=h;rfl
 obtain⟨v,w,lo,hi,lo2,hi2,rfl,S1,S2,q⟩:=h;refine⟨_,(II (Lu (pv 0) (K6 rfl (Jg (IP (i:=2) GT.nd rfl (Or.inl rfl)) (Jg (IP (i:=3) GT.nd rfl (Or.inl rfl)) Kh))))
  (II (Lu (pv 1) (K6 rfl (Jg (IP (i:=4) GT.nd rfl (Or.inl rfl)) (Jg (IP (i:=5) GT.nd rfl (Or.inl rfl)) Kh))))
  (II (IY (i:=6) GT.nd rfl (Or.inl rfl) (NQ (Ls (Ku (pv 2))) (KL (Lr (Ls (KZ (pv 4))) (KL (MP NO (pv 2) (pv 4) (Ji _)))))))
  (II (IY (i:=7) GT.nd rfl (Or.inl rfl) (NQ (Ls (Ku (pv 3))) (KL (Lr (Ls (KZ (pv 5))) (KL (MP NO (pv 5) (pv 3) (Ji _)))))))
  (IL (IT (Lr (pv 6) (KL (pv 7))))))))),?_⟩
 obtain⟨a,rfl,e1⟩:=S1;obtain⟨c,rfl,e2⟩:=S2;refine⟨_,rfl,a,_,rfl,SqT.of e1,rfl,_,_,rfl,_,_,rfl,rfl,?_⟩;refine⟨_,rfl,c,_,rfl,SqT.of e2,rfl,_,_,rfl,_,_,rfl,rfl,?_⟩;cases lo<;>cases lo2<;>cases hi<;>cases hi2
 all_goals
  refine⟨_,rfl,_,rfl,?_⟩
  first
   | refine ID ?_
   | (refine IA ⟨_,rfl,_,rfl,?_⟩;first | refine IA ?_ | refine ID ⟨_,rfl,_,rfl,_,_,rfl,rfl,?_⟩)
  refine⟨_,rfl,_,rfl,?_⟩
  first
   | refine ID ?_
   | (refine IA ⟨_,rfl,_,rfl,?_⟩;first | refine IA ?_ | refine ID ⟨_,rfl,_,rfl,_,_,rfl,rfl,?_⟩)
  refine⟨_,rfl,_,rfl,?_⟩
  first
   | exact IA q
   | exact ID ⟨_,rfl,q⟩
   | exact Je (λh=>⟨_,rfl,by rw[Lv,LP,h] at q;exact q⟩) (λh=>by rw[Lv,LP,Dz.mpr h] at q;exact q)
theorem ze0(F:Fun K "span_shared" "span_shared" On f fd)  :FnOk P w K mg base Jc 1 f fd ["one","other"] (UM):=by
 refine F.ok GU (λvs H Q E h=>?_) (λcdv A outer s H vs Q E hr h=>?_)
 · obtain⟨v,w,lo,hi,lo2,hi2,rfl,S1,S2,q⟩:=h;rfl
 obtain⟨v,w,lo,hi,lo2,hi2,rfl,S1,S2,q⟩:=h;refine⟨_,(II (IY (i:=2) GU.nd rfl (Or.inl rfl) (Rf (ZV rfl) rfl B.max_ Tf (I0 (K5 (N':=["end"]) (js:=[none]) rfl (JE (N:=["one","other","low","high"]) (outer:=IQ On) (by decide+kernel)) (KQ (J0 (I0 (Jf JM (pv 0) IF (λ_ _=>rfl)) (I0 (Jf JM (pv 1) IF (λ_ _=>rfl)) IB)))) (λ_ _ _ _ _=>(IP (i:=0) OJ rfl (Or.inl rfl))) (λ_ _ _ _ _=>K_ (JU (KZ (pv 0)))) (λ_ _ _ _ _=>(pv 0))) IB) (Q8 Le Qy)))
  (II (IY (i:=3) GU.nd rfl (Or.inl rfl) (Rf (ZX rfl) rfl B.min_ Tg (I0 (K5 (N':=["end"]) (js:=[none]) rfl (JE (N:=["one","other","low","high"]) (outer:=IQ On) (by decide+kernel)) (KQ (J0 (I0 (Jf JM (pv 0) IF (λ_ _=>rfl)) (I0 (Jf JM (pv 1) IF (λ_ _=>rfl)) IB)))) (λ_ _ _ _ _=>(IP (i:=0) OJ rfl (Or.inl rfl))) (λ_ _ _ _ _=>K_ (JU (KZ (pv 0)))) (λ_ _ _ _ _=>(pv 0))) IB) (Q8 Le Qy)))
  (II (Jo (PW.pt (LW (JU (KZ (pv 2))) (LW (JU (KZ (pv 3))) (M0 (Jn Mt (pv 2) (pv 3) (Ji _)))))) (IL (IT Le)) Jm)
  (IL (IT (J0 (I0 (pv 2) (I0 (pv 3) IB)))))))),?_⟩
 obtain⟨a,rfl,e1⟩:=S1;obtain⟨c,rfl,e2⟩:=S2;refine⟨_,rfl,a,_,0,_,rfl,rfl,SqT.of e1,rfl,_,rfl,c,_,0,_,rfl,rfl,SqT.of e2,rfl,Jx,λt ht=>⟨t,rfl,⟨_,SqT.of IE⟩,λp hp=>?_⟩⟩;refine Uw (os:=[lo,lo2]) (cap:=[]) Fp (by simp) (SqT.of IE) hp ?_ ?_ ?_ ?_ ?_
 · rfl
 · exact λs=>s.seqT (SqT.of IE)
 · exact λo H' R s r=>⟨_,rfl,_,rfl,by rw[VE];exact r⟩
 · exact λo H' R s r=>⟨_,rfl,r⟩
 intro H1 s1 h1;obtain⟨ns,n1,n2⟩:=Zw lo lo2;rw[n1] at h1;refine⟨p,ns,.non,rfl,rfl,SqL.of h1,?_⟩;rw[n2];have s2:Same H H1:=(IM ht _).trans s1;clear n1 n2 h1 hp s1 ht;refine⟨_,rfl,a,_,1,_,rfl,rfl,SqT.of (s2 _ _ e1),rfl,_,rfl,c,_,1,_,rfl,rfl,SqT.of (s2 _ _ e2),rfl,Jx,λt ht=>⟨t,rfl,⟨_,SqT.of IE⟩,λp hp=>?_⟩⟩;refine Uw (os:=[hi,hi2]) (cap:=[]) Fp (by simp) (SqT.of IE) hp ?_ ?_ ?_ ?_ ?_
 · rfl
 · exact λs=>s.seqT (SqT.of IE)
 · exact λo H' R s r=>⟨_,rfl,_,rfl,by rw[VE];exact r⟩
 · exact λo H' R s r=>⟨_,rfl,r⟩
 intro H3 s3 h1;obtain⟨ns,n1,n2⟩:=YL hi hi2;rw[n1] at h1;refine⟨p,ns,.non,rfl,rfl,SqL.of h1,?_⟩;rw[n2];have s4:Same H H3:=s2.trans ((IM ht _).trans s3);clear n1 n2 h1 hp s3 ht;have fin:J4 (Kr lo lo2) (Ks hi hi2)=false→∀r,H3 r=none→Q (.ref r) (IC H3 r (.tup [eV (Kr lo lo2),eV (Ks hi hi2)])):=λh r hr=>by refine q _ _ (s4.trans (IM hr _)) ?_;unfold OT;rw[h];exact IA ⟨r,rfl,IE⟩
 refine⟨_,rfl,_,rfl,?_⟩;cases e5:Kr lo lo2 with
 | none=> rw[e5] at fin;exact IA ⟨_,rfl,_,rfl,Jx,fin rfl⟩
 | some x=>
  refine ID ⟨_,rfl,_,rfl,?_⟩;cases e6:Ks hi hi2 with
  | none=> rw[e5,e6] at fin;exact IA ⟨_,rfl,_,rfl,Jx,fin rfl⟩
  | some y=> refine ID ⟨_,rfl,_,rfl,_,_,rfl,rfl,_,rfl,?_⟩;rw[e5,e6] at fin;refine Je (λh=>q _ _ s4 ?_) (λh=>⟨_,rfl,_,rfl,Jx,fin (Dz.mpr h)⟩);unfold OT;rw[e5,e6];exact(if_pos h).symm ▸ rfl
theorem zgE(F:Fun K "number_of" "number_of" RF f fd)  :FnOk P w K mg base Jc 1 f fd ["span"] (Uu):=by
 refine F.ok GV (λvs H Q E h=>?_) (λcdv A outer s H vs Q E hr h=>?_)
 · obtain⟨v,lo,hi,rfl,S1,q⟩:=h;rfl
 obtain⟨v,lo,hi,rfl,S1,q⟩:=h;refine⟨_,(II (Lu (pv 0) (K6 rfl (Jg (IP (i:=1) GV.nd rfl (Or.inl rfl)) (Jg (IP (i:=2) GV.nd rfl (Or.inl rfl)) Kh))))
  (II (Jo (JU (KZ (pv 1))) (IL (IT (pv 1))) Jm)
  (II (Jo (JU (KZ (pv 2))) (IL (IT (pv 2))) Jm)
  (IL (IT IF))))),?_⟩
 obtain⟨a,rfl,e1⟩:=S1;refine⟨_,rfl,a,_,rfl,SqT.of e1,rfl,_,_,rfl,_,_,rfl,rfl,?_⟩;cases lo with
 | some l=>exact⟨_,rfl,_,rfl,ID ⟨_,rfl,q⟩⟩
 | none=>
  cases hi with
  | none=>exact⟨_,rfl,_,rfl,IA ⟨_,rfl,_,rfl,IA q⟩⟩
  | some h=>exact⟨_,rfl,_,rfl,IA ⟨_,rfl,_,rfl,ID ⟨_,rfl,q⟩⟩⟩
theorem zhL(F:Fun K "is_field" "is_field" PH f fd)  :FnOk P w K mg base Jc 1 f fd ["thing"] (Us):=by
 refine F.ok zhr (λvs H Q E h=>?_) (λcdv A outer s H vs Q E hr h=>?_)
 · obtain⟨x,rfl,F1,q⟩:=h;rfl
 obtain⟨x,rfl,F1,q⟩:=h;refine⟨_,(II (Jo (PW.pt (Kn (Kk (JN (Jd (Kg (n:="")) rfl B.isinstance_ JT (I0 (pv 0) (I0 (JK (v:= .ty "str") rfl B.str_ O_ rfl) IB))))) (KB (Kk (Z_ NO NO IF (Jd R9 rfl B.len_ JZ (I0 (pv 0) IB)) (Pl (v:= .int 8) rfl qML' ⟨_,rfl⟩)))))) (IL (IT JI)) Jm)
  (IL (IT (Jd (Ob rfl) rfl B.all_ NV (I0 (K5 (N':=["sign"]) (js:=[none]) rfl (JE (N:=["thing"]) (outer:=IQ PH) (by decide+kernel)) (TJ (pv 0)) (λ_ _ _ _ _=>(IP (i:=0) OI rfl (Or.inl rfl))) (λ_ _ _ _ _=>K8) (λ_ _ _ _ _=>(Zi Re Re MM (pv 0) MM))) IB))))),?_⟩
 have l1:(1:Int)≤(x.length:Int):=by have:=F1.one;omega
 have l8:(x.length:Int)≤8:=by have:=F1.eight;omega
 refine⟨_,rfl,_,"str","str",true,rfl,.str x,rfl,_,rfl,IA ⟨_,rfl,x,rfl,MF (by have:=F1.eight;omega),_,_,rfl,rfl,_,rfl,?_⟩⟩;rw[decide_eq_true l1];refine ID ⟨_,_,rfl,rfl,_,rfl,?_⟩;rw[decide_eq_true l8];refine IA ⟨_,rfl,x,rfl,λp hp=>?_⟩;have s0:=IM hp (.lst []);have sl:(L2.signs x).length=x.length:=by unfold L2.signs;rw[Ab,A9];rfl
 refine Tk (xs:=L2.signs x) (λi σ' ys H'=>(∃v,σ'=[v])∧Same H H'∧H' p=some (.lst ys)∧ys=By i (V.bl true)) ⟨⟨none,rfl⟩,s0,IE,rfl⟩ ?_ ?_ ?_
 · rintro i σ' ys H' hi ⟨_,_,h1,h2⟩;refine⟨h1,?_⟩;rw[h2,Cp];have:=F1.eight;exact J7 (by omega)
 · rintro i y σ' ys H' N hy ⟨⟨v,rfl⟩,s,h1,h2⟩ hN;unfold L2.signs at hy;rw[Af] at hy;cases hc:x.cps.toList[i]? with
   | none=>rw[hc] at hy;cases hy
   | some c=>
    rw[hc] at hy;obtain rfl:V.str ⟨#[c]⟩=y:=A4 hy;have ok:=F1.all c (Ag hc);refine⟨_,rfl,_,_,rfl,rfl,_,rfl,?_⟩;rw[Sy ok];refine ID ⟨_,_,rfl,rfl,?_⟩;rw[So ok];refine⟨h1,hN _ _ _ ⟨⟨_,rfl⟩,?_,IE,by rw[h2];exact CD.symm⟩⟩;intro b o q';have:b≠p:=λz=>by rw[z,hp] at q';cases q'
    rw[IZ this];exact s b o q'
 · rintro σ' ys H' ⟨_,s,h1,h2⟩;refine⟨p,By (L2.signs x).length true,rfl,SqL.of (by rw[h1,h2,DW]),?_⟩;have:(By (L2.signs x).length true).all id=true:=by simp
   rw[this];exact q H' s
theorem zeL(F:Fun K "is_wish_part" "is_wish_part" R5 f fd)(HA:Γ6 P w K mg base)(HB:Γ2 P w K mg base):FnOk P w K mg base Jc 4 f fd ["thing"] (Wt):=by
 refine F.ok GW (λvs H Q E h=>?_) (λcdv A outer s H vs Q E hr h=>?_)
 · obtain⟨p,f,lo,hi,rfl,hp,F1,hle,q⟩:=h;rfl
 obtain⟨p,f,lo,hi,rfl,hp,F1,hle,q⟩:=h;refine⟨_,(II (Jo (PW.pt (Kn (Kk (JN (Jd (Kg (n:="")) rfl B.isinstance_ JT (I0 (pv 0) (I0 (JK (v:= .ty "tuple") rfl B.tuple_ Lk rfl) IB))))) (KB (Jn LB (Jd Kw rfl B.len_ JZ (I0 (pv 0) IB)) IF (Ji _))))) (IL (IT JI)) Jm)
  (II (Lu (pv 0) (K6 rfl (Jg (IP (i:=1) GW.nd rfl (Or.inl rfl)) (Jg (IP (i:=2) GW.nd rfl (Or.inl rfl)) (Jg (IP (i:=3) GW.nd rfl (Or.inl rfl)) Kh)))))
  (IL (IT (Lr (IS HA (hr.mono (by decide)) rfl (I0 (pv 1) IB)) (KL (IS HB (hr.mono (by decide)) rfl (I0 (J0 (I0 (pv 2) (I0 (pv 3) IB))) IB)))))))),?_⟩
 refine⟨_,rfl,_,"tuple","tuple",true,rfl,.tup hp,rfl,_,rfl,IA ⟨_,rfl,p,_,rfl,.inr (SqT.of hp),rfl,_,rfl,?_⟩⟩;refine IA ⟨_,rfl,p,_,rfl,SqT.of hp,rfl,_,_,rfl,_,_,rfl,_,_,rfl,rfl,?_⟩;refine⟨_,rfl,f,rfl,F1,λH1 s1=>⟨_,rfl,ID ⟨_,rfl,_,rfl,Jx,λt ht=>?_⟩⟩⟩;have S:SpanAt (IC H1 t (.tup [eV lo,eV hi])) (.ref t) lo hi:=⟨t,rfl,IE⟩;refine⟨.ref t,"tuple",rfl,S.ty.1,S.ty.2,?_⟩;rw[zk6 S,hle];exact q _ (s1.trans (IM ht _))
theorem zeh(F:Fun K "fields_ascend" "fields_ascend" PX f fd)  :FnOk P w K mg base Jc 1 f fd ["parts"] (UI):=by
 refine F.ok zee (λvs H Q E h=>?_) (λcdv A outer s H vs Q E hr h=>?_)
 · obtain⟨a,ps,rfl,ha,hl,hp,hlt,q⟩:=h;rfl
 obtain⟨a,ps,rfl,ha,hl,hp,hlt,q⟩:=h;refine⟨_,(IL (IT (Jd (Ob rfl) rfl B.all_ NV (I0 (K5 (N':=["ahead","behind"]) (js:=[none,none]) rfl (JE (N:=["parts"]) (outer:=IQ PX) (by decide+kernel)) (XQ rfl B.zip_ (I0 (pv 0) (I0 (LK Uq (pv 0) (LH IF) LG) IB))) (λ_ _ _ _ _=>(NW K rfl (n:=2) rfl (Jg (IP (i:=0) O9 rfl (Or.inl rfl)) (Jg (IP (i:=1) O9 rfl (Or.inl rfl)) Kh)))) (λ_ _ _ _ _=>K8) (λ_ _ _ _ _=>(MP zkH (Jf (MO K rfl) (pv 0) IF (λ_ _=>rfl)) (Jf (MO K rfl) (pv 1) IF (λ_ _=>rfl)) (Ji _)))) IB)))),?_⟩;refine⟨_,rfl,_,rfl,_,rfl,?_⟩;dsimp only[U4];refine Yd (SqT.of ha) λp1 H1 s1 q1=>?_;refine⟨a,p1,rfl,⟨_,s1.seqT (SqT.of ha)⟩,⟨_,q1⟩,λp hp'=>?_⟩;have s0:=IM hp' (.lst []);have ld:((ps.map λp=>V.ref p.1).drop 1).length=ps.length - 1:=by rw[D6,Ab]
 refine XD (n:=ps.length - 1) (xs:=ps.map λp=>V.ref p.1) (ys:=(ps.map λp=>V.ref p.1).drop 1) (by rw[Ab];omega) (by rw[ld];exact Ah _) (.inr (by rw[ld];exact Ah _))
  (λi σ' ys H'=>(∃v w,σ'=[v,w])∧Same H1 H'∧H' p=some (.lst ys)∧ys=By i (V.bl true)) ⟨⟨none,none,rfl⟩,s0,IE,rfl⟩ ?_ ?_ ?_
 · rintro i σ' zs H' hi ⟨_,s,h1,h2⟩;refine⟨(s1.trans s).seqT (SqT.of ha),s.seqT q1,h1,?_⟩;rw[h2,Cp];exact J7 (by omega)
 · rintro i x y σ' zs H' r N hx hy hr' ⟨⟨v,w',rfl⟩,s,h1,h2⟩ hN;rw[Af] at hx;rw[List.getElem?_drop,Af,Nat.add_comm] at hy;cases e1:ps[i]? with
   | none=>rw[e1] at hx;cases hx
   | some P1=>
    cases e2:ps[i+1]? with
    | none=>rw[e2] at hy;cases hy
    | some P2=>
     rw[e1] at hx;rw[e2] at hy;obtain rfl:V.ref P1.1=x:=A4 hx;obtain rfl:V.ref P2.1=y:=A4 hy;have s3:=IM hr' (.tup [V.ref P1.1,V.ref P2.1]);have t3:=(s1.trans s).trans s3;have f1:=t3 _ _ (hp P1 (Ag e1));have f2:=t3 _ _ (hp P2 (Ag e2));refine⟨r,_,rfl,SqT.of IE,rfl,_,_,rfl,_,_,rfl,rfl,?_⟩;refine⟨_,rfl,P1.1,_,0,_,rfl,rfl,SqT.of f1,Qj,_,rfl,P2.1,_,0,_,rfl,rfl,SqT.of f2,Qj,_,_,rfl,rfl,?_⟩;rw[decide_eq_true (show P1.2.1.cps.toList<P2.2.1.cps.toList from hlt i P1 P2 e1 e2)];refine⟨s3 _ _ h1,hN _ _ _ ⟨⟨_,_,rfl⟩,?_,IE,by rw[h2];exact CD.symm⟩⟩;intro b o q';have:b≠p:=λz=>by rw[z,hp'] at q';cases q'
     rw[IZ this];exact s3 _ _ (s b o q')
 · rintro σ' zs H' ⟨_,s,h1,h2⟩;refine⟨p,By (ps.length - 1) true,rfl,SqL.of (by rw[h1,h2,DW]),?_⟩;have:(By (ps.length - 1) true).all id=true:=by simp
   rw[this];exact q H' (s1.trans s)
theorem zjs(F:Fun K "is_wish" "is_wish" P4 f fd)(HC:Γ8 P w K mg base)(HD:Γ7 P w K mg base):FnOk P w K mg base Jc 5 f fd ["thing"] (UL):=by
 refine F.ok zjg (λvs H Q E h=>?_) (λcdv A outer s H vs Q E hr h=>?_)
 · obtain⟨a,w',rfl,hw,wok,q⟩:=h;rfl
 obtain⟨a,w',rfl,hw,wok,q⟩:=h;refine⟨_,(II (Jo (Kk (JN (Jd (Kg (n:="")) rfl B.isinstance_ JT (I0 (pv 0) (I0 (JK (v:= .ty "tuple") rfl B.tuple_ Lk rfl) IB))))) (IL (IT JI)) Jm)
  (IL (IT (Lr (Jd (Ob rfl) rfl B.all_ NV (I0 (K5 (N':=["part"]) (js:=[none]) rfl (JE (N:=["thing"]) (outer:=IQ P4) (by decide+kernel)) (KQ (pv 0)) (λ_ _ _ _ _=>(IP (i:=0) Sn rfl (Or.inl rfl))) (λ_ _ _ _ _=>K8) (λ_ _ _ _ _=>(IS HD (hr.mono (by decide)) rfl (I0 (pv 0) IB)))) IB)) (KL (IS HC (hr.mono (by decide)) rfl (I0 (pv 0) IB))))))),?_⟩
 obtain⟨ps,rfl,hA,hP⟩:=hw;have ll:ps.length≤100:=by have:=wok.len;rw[Ab] at this;exact this
 refine⟨_,rfl,_,"tuple","tuple",true,rfl,.tup hA,rfl,_,rfl,IA ?_⟩;refine⟨_,rfl,a,rfl,⟨_,SqT.of hA⟩,λp hp=>?_⟩;refine Pb (xs:=ps.map λp=>V.ref p.1) (λi σ' ys H'=>(∃v,σ'=[v])∧Same H H'∧H' p=some (.lst ys)∧ys=By i (V.bl true)) ⟨⟨none,rfl⟩,IM hp _,IE,rfl⟩ ?_ ?_ ?_
 · rintro i σ' ys H' hi ⟨_,s,h1,h2⟩;refine⟨s.seqT (SqT.of hA),h1,?_⟩;rw[h2,Cp];rw[Ab] at hi;exact J7 (by omega)
 · rintro i x σ' ys H' N hx ⟨⟨v,rfl⟩,s,h1,h2⟩ hN;obtain⟨P1,e1,rfl⟩:=IU hx;have hm:=Ag e1;obtain⟨o1,o2⟩:=wok.ok P1.2 (Az hm);refine⟨_,rfl,P1.1,P1.2.1,P1.2.2.1,P1.2.2.2,rfl,s _ _ (hP P1 hm),o1,o2,λH2 s2=>?_⟩;refine⟨s2 _ _ h1,hN _ _ _ ⟨⟨_,rfl⟩,JP (s.trans s2) hp,IE,by rw[h2];exact CD.symm⟩⟩
 · rintro σ' ys H' ⟨_,s,h1,h2⟩;refine⟨p,By (ps.map λp=>V.ref p.1).length true,rfl,SqL.of (by rw[h1,h2,DW]),_,rfl,?_⟩;rw[show(By (ps.map λp=>V.ref p.1).length true).all id=true by simp];refine ID ⟨_,rfl,a,ps.map (λp=>(p.1,p.2.1,[eV p.2.2.1,eV p.2.2.2])),rfl,?_,by rw[Ab];exact ll,?_,?_,λH2 s2=>q H2 (s.trans s2)⟩
   · rw[Bx];exact s _ _ hA
   · intro r hr;rw[AB] at hr;obtain⟨P1,hm,rfl⟩:=hr;exact s _ _ (hP P1 hm)
   · intro i r1 r2 h3 h4;rw[Af] at h3 h4;cases e1:ps[i]? with
     | none=>rw[e1] at h3;cases h3
     | some P1=>
      cases e2:ps[i+1]? with
      | none=>rw[e2] at h4;cases h4
      | some P2=> rw[e1] at h3;rw[e2] at h4;obtain rfl:=A4 h3;obtain rfl:=A4 h4;have l2:=(An.mp e2).1;have:=Dj.mp wok.asc i (i+1) (by simp;omega) (by simp;omega) (by omega);simp only[CN] at this;rw[(An.mp e1).2,(An.mp e2).2] at this;exact this
theorem zfO(F:Fun K "are_wishes" "are_wishes" Qc f fd)(HE:Γ9 P w K mg base):FnOk P w K mg base Jc 6 f fd ["thing"] (Ur):=by
 refine F.ok zfx (λvs H Q E h=>?_) (λcdv A outer s H vs Q E hr h=>?_)
 · obtain⟨l,ws,rfl,hw,q⟩:=h;rfl
 obtain⟨l,ws,rfl,hw,q⟩:=h;refine⟨_,(IL (IT (Lr (Jd (Kg (n:="")) rfl B.isinstance_ JT (I0 (pv 0) (I0 (JK (v:= .ty "list") rfl B.list_ Mz rfl) IB))) (KL (Jd (Ob rfl) rfl B.all_ NV (I0 (K5 (N':=["wish"]) (js:=[none]) rfl (JE (N:=["thing"]) (outer:=IQ Qc) (by decide+kernel)) (JO (pv 0)) (λ_ _ _ _ _=>(IP (i:=0) O4 rfl (Or.inl rfl))) (λ_ _ _ _ _=>K8) (λ_ _ _ _ _=>(IS HE (hr.mono (by decide)) rfl (I0 (pv 0) IB)))) IB)))))),?_⟩;have hA:=hw.at';refine⟨_,rfl,_,"list","list",true,rfl,.lst hA,rfl,_,rfl,ID ?_⟩;refine⟨_,rfl,l,rfl,⟨_,SqL.of hA⟩,λp hp=>?_⟩;refine Lj (xs:=ws.map λx=>V.ref x.1) (λi σ' ys H'=>(∃v,σ'=[v])∧Same H H'∧H' p=some (.lst ys)∧ys=By i (V.bl true)) ⟨⟨none,rfl⟩,IM hp _,IE,rfl⟩ ?_ ?_ ?_
 · rintro i σ' ys H' hi ⟨_,s,h1,h2⟩;refine⟨s.seq (SqL.of hA),h1,?_⟩;rw[h2,Cp];rw[Ab] at hi;have:=hw.len;exact J7 (by omega)
 · rintro i x σ' ys H' N hx ⟨⟨v,rfl⟩,s,h1,h2⟩ hN;obtain⟨P1,e1,rfl⟩:=IU hx;obtain⟨o1,o2⟩:=hw.ok P1 (Ag e1);refine⟨_,rfl,P1.1,P1.2,rfl,o1.same s,o2,λH2 s2=>?_⟩;refine⟨s2 _ _ h1,hN _ _ _ ⟨⟨_,rfl⟩,JP (s.trans s2) hp,IE,by rw[h2];exact CD.symm⟩⟩
 · rintro σ' ys H' ⟨_,s,h1,h2⟩;refine⟨p,By (ws.map λx=>V.ref x.1).length true,rfl,SqL.of (by rw[h1,h2,DW]),?_⟩;rw[show(By (ws.map λx=>V.ref x.1).length true).all id=true by simp];exact q _ s
theorem zeM(F:Fun K "check_wishes" "check_wishes" R4 f fd)(HF:Γ10 P w K mg base):FnOk P w K mg base Jc 7 f fd ["thing"] (UJ):=by
 refine F.ok zes (λvs H Q E h=>?_) (λcdv A outer s H vs Q E hr h=>?_)
 · obtain⟨l,ws,rfl,hw,q⟩:=h;rfl
 obtain⟨l,ws,rfl,hw,q⟩:=h;refine⟨_,(IL (Jo (Kk (JN (IS HF (hr.mono (by decide)) rfl (I0 (pv 0) IB)))) (IL QT) Jm)),?_⟩;exact⟨_,rfl,l,ws,rfl,hw,λH' s=>⟨_,rfl,IA (q H' s)⟩⟩
theorem zdV(F:Fun K "spans_by_field" "spans_by_field" Qe f fd)  :FnOk P w K mg base Jc 1 f fd ["wish"] (Ws):=by
 refine F.ok zdG (λvs H Q E h=>?_) (λcdv A outer s H vs Q E hr h=>?_)
 · obtain⟨a,w',rfl,hw,wok,q⟩:=h;rfl
 obtain⟨a,w',rfl,hw,wok,q⟩:=h;refine⟨_,(IL (IT (WQ (N':=["field","low","high"]) (js:=[none,none,none]) rfl (JE (N:=["wish"]) (outer:=IQ Qe) (by decide+kernel)) (KQ (pv 0)) (λ_ _ _ _ _=>(NW K rfl (n:=3) rfl (Jg (IP (i:=0) K0 rfl (Or.inl rfl)) (Jg (IP (i:=1) K0 rfl (Or.inl rfl)) (Jg (IP (i:=2) K0 rfl (Or.inl rfl)) Kh))))) (λ_ _ _ _ _=>K8) (λ_ _ _ _ _=>(pv 0)) (λ_ _ _ _ _=>(J0 (I0 (pv 1) (I0 (pv 2) IB))))))),?_⟩;obtain⟨ps,rfl,hA,hP⟩:=hw;have ll:ps.length≤100:=by have:=wok.len;rw[Ab] at this;exact this
 refine⟨_,rfl,a,rfl,⟨_,SqT.of hA⟩,λd hd=>?_⟩;refine XX (xs:=ps.map λp=>V.ref p.1) (λi σ' kvs H'=>(∃v1 v2 v3,σ'=[v1,v2,v3])∧Same H H'∧H' d=some (.dK kvs)∧kvs.length≤i∧(∃bs,kvs=KG bs∧bs.map (·.1)=((ps.map (·.2)).take i).map (·.1))∧∀f:Str,match IR ((ps.map (·.2)).take i) f with
  | none=>Jb kvs (.inr f)=none
  | some s=>∃t,Jb kvs (.inr f)=some (.ref t)∧H' t=some (.tup [eV s.1,eV s.2])) ⟨⟨none,none,none,rfl⟩,IM hd _,IE,AK _,⟨[],rfl,rfl⟩,λf=>rfl⟩ ?_ ?_ ?_
 · rintro i σ' kvs H' hi ⟨_,s,h1,h2,_⟩;rw[Ab] at hi;exact⟨s.seqT (SqT.of hA),h1,J7 (by omega)⟩
 · rintro i x σ' kvs H' N hx ⟨⟨v1,v2,v3,rfl⟩,s,h1,h2,⟨bs,rfl,kb⟩,h3⟩ hN;obtain⟨P1,e1,rfl⟩:=IU hx;have hm:=Ag e1;refine⟨P1.1,_,rfl,SqT.of (s _ _ (hP P1 hm)),rfl,_,_,rfl,_,_,rfl,_,_,rfl,rfl,?_⟩;refine⟨_,rfl,_,rfl,_,rfl,Jx,λu hu=>?_⟩;have su:=IM hu (.tup [eV P1.2.2.1,eV P1.2.2.2]);have eu:(IC H' u (.tup [eV P1.2.2.1,eV P1.2.2.2])) u=some (.tup [eV P1.2.2.1,eV P1.2.2.2]):=IE;have h1':=su _ _ h1;generalize IC H' u (.tup [eV P1.2.2.1,eV P1.2.2.2])=H2 at*;have du:u≠d:=LD eu h1' (by intro z;cases z);refine⟨Sum.inr P1.2.1,rfl,h1',hN _ _ _ ⟨⟨_,_,_,rfl⟩,JP (s.trans su) hd,IE,?_,⟨Ko bs P1.2.1 (V.ref u),QU _ _ _,?_⟩,λf=>?_⟩⟩
   · have:=Os (KG bs) (Sum.inr P1.2.1:IV) (V.ref u);omega
   · have ew:(ps.map (·.2))[i]?=some P1.2:=by rw[Af,e1];rfl
     have fr:=V8 (wok.fresh ew);rw[V1,if_neg,kb,Jt ew,Aq]
     · rfl
     · rw[kb];intro z;obtain⟨y,hy,ey⟩:=AB.mp z;exact fr y hy ey
   · have ew:(ps.map (·.2))[i]?=some P1.2:=by rw[Af,e1];rfl
     have fr:=wok.fresh ew;rw[Jt ew,Wj _ _ _ fr,QO];by_cases hf:f=P1.2.1
     · subst hf;rw[if_pos rfl,if_pos rfl];exact⟨u,rfl,by rw[IZ du];exact eu⟩
     · rw[if_neg hf,if_neg (λz=>hf (by injection z))];have:=h3 f;cases hs:IR ((ps.map (·.2)).take i) f with
       | none=>rw[hs] at this;exact this
       | some sp=> rw[hs] at this;obtain⟨t,t1,t2⟩:=this;exact⟨t,t1,by rw[IZ (LD (su _ _ t2) h1' (by intro z;cases z))];exact su _ _ t2⟩
 · rintro σ' kvs H' ⟨_,s,h1,h2,⟨bs,rfl,kb⟩,h3⟩;have et:(ps.map (·.2)).take (ps.map λp=>V.ref p.1).length=ps.map (·.2):=A0 (by simp);rw[et] at kb;refine q d H' s hd ⟨bs,h1,kb,λf=>?_⟩;have:=h3 f;rw[et] at this;rw[MS] at this;exact this
theorem zeg(F:Fun K "reaches_spans" "reaches_spans" RJ f fd)(HG:Γ3 P w K mg base):FnOk P w K mg base Jc 2 f fd ["one","other_spans"] (V5):=by
 refine F.ok GX (λvs H Q E h=>?_) (λcdv A outer s H vs Q E hr h=>?_)
 · obtain⟨a,d,w',w2,rfl,hw,hd,q⟩:=h;rfl
 obtain⟨a,d,w',w2,rfl,hw,hd,q⟩:=h;refine⟨_,(II (Kj AV rfl (KQ (pv 0)) (K6 rfl (Jg (IP (i:=2) GX.nd rfl (Or.inl rfl)) (Jg (IP (i:=3) GX.nd rfl (Or.inl rfl)) (Jg (IP (i:=4) GX.nd rfl (Or.inl rfl)) Kh)))) (IL (Jo (PW.pt (Kn (JU (Vy (LR hr) (pv 2) (pv 1)) (by with_unfolding_all rfl)) (KB (Kk (JN (IS HG (hr.mono (by decide)) rfl (I0 (J0 (I0 (pv 3) (I0 (pv 4) IB))) (I0 (NY (LR hr) (pv 1) (pv 2) (λ_ _=>rfl)) IB)))))))) (IL (IT JI)) Jm)))
  (IL (IT JI))),?_⟩
 obtain⟨ps,rfl,hA,hP⟩:=hw;refine⟨_,rfl,a,rfl,⟨_,SqT.of hA⟩,MN (K:=K) (a:=a) (xs:=ps.map λp=>V.ref p.1) (λi σ H'=>(∃y2 y3 y4,σ=[some (.ref a),some (.ref d),y2,y3,y4])∧Same H H'∧JC ((ps.map (·.2)).take i) w2=true) ⟨⟨none,none,none,rfl⟩,Same.refl _,rfl⟩ (λi σ H' _ ⟨_,s,_⟩=>s.seqT (SqT.of hA)) ?_ ?_⟩
 · rintro i x σ H' hx ⟨⟨y2,y3,y4,rfl⟩,s,hr'⟩;obtain⟨P1,e1,rfl⟩:=IU hx;have hm:=Ag e1;have ew:(ps.map (·.2))[i]?=some P1.2:=by rw[Af,e1];rfl
   obtain⟨kvs,k1,k2,k3⟩:=hd.same s;have kf:=k3 P1.2.1;refine⟨P1.1,_,rfl,SqT.of (s _ _ (hP P1 hm)),rfl,_,_,rfl,_,_,rfl,_,_,rfl,rfl,?_⟩;have out:Mx w2 P1.2=false→JC (ps.map (·.2)) w2=false:=λh=>by unfold JC;rw[Eh];exact⟨P1.2,Az hm,by rw[h];exact Au⟩
   refine⟨_,rfl,_,rfl,d,_,rfl,DGet.k (k:=Sum.inr P1.2.1) k1,_,rfl,?_⟩;cases hs:IR w2 P1.2.1 with
   | none=> rw[hs] at kf;rw[kf];refine ID ?_;have o1:=out (Wh hs);rw[o1] at q;exact q _ s
   | some sp=>
    rw[hs] at kf;obtain⟨t,t1,t2⟩:=kf;rw[t1];refine IA ⟨_,rfl,_,rfl,Jx,λu hu=>?_⟩;have su:=IM hu (.tup [eV P1.2.2.1,eV P1.2.2.2]);have gd:DGet (IC H' u (.tup [eV P1.2.2.1,eV P1.2.2.2])) d (.str P1.2.1) (some (.ref t)):=by have:=DGet.k (k:=Sum.inr P1.2.1) (su _ _ k1);rw[t1] at this;exact this
    refine⟨_,rfl,_,rfl,d,_,rfl,gd,.ref u,.ref t,P1.2.2.1,P1.2.2.2,sp.1,sp.2,rfl,⟨u,rfl,IE⟩,⟨t,rfl,su _ _ t2⟩,_,rfl,?_⟩;cases hb:Lv P1.2.2.1 P1.2.2.2 sp.1 sp.2 with
    | false=> refine ID ?_;have o1:=out ((Rh hs).trans hb);rw[o1] at q;exact q _ (s.trans su)
    | true=> refine IA ⟨⟨_,_,_,rfl⟩,s.trans su,?_⟩;rw[Jt ew];unfold JC at*;rw[DM,hr',Ex,C5,FV,Rh hs,hb];rfl
 · rintro σ H' ⟨_,s,hr'⟩;rw[show(ps.map (·.2)).take (ps.map λp=>V.ref p.1).length=ps.map (·.2) from A0 (by simp)] at hr';rw[hr'] at q;exact q _ s
theorem zeZ(F:Fun K "wish_shared" "wish_shared" P_ f fd)(HH:Γ12 P w K mg base)(HI:Γ4 P w K mg base):FnOk P w K mg base Jc 2 f fd ["one","other"] (Tu):=by
 refine F.ok GY (λvs H Q E h=>?_) (λcdv A outer s H vs Q E hr h=>?_)
 · obtain⟨a,b,w1,w2,rfl,hw1,hw2,ok1,ok2,hl,qN,qS⟩:=h;rfl
 obtain⟨a,b,w1,w2,rfl,hw1,hw2,ok1,ok2,hl,qN,qS⟩:=h;refine⟨_,(II (IY (i:=2) GY.nd rfl (Or.inr rfl) (IS HH (hr.mono (by decide)) rfl (I0 (pv 0) IB)))
  (II (Kj AV rfl (KQ (pv 1)) (K6 rfl (Jg (IP (i:=3) GY.nd rfl (Or.inl rfl)) (Jg (IP (i:=4) GY.nd rfl (Or.inl rfl)) (Jg (IP (i:=5) GY.nd rfl (Or.inl rfl)) Kh)))) (II (IY (i:=6) GY.nd rfl (Or.inl rfl) (IS HI (hr.mono (by decide)) rfl (I0 (Zj (LR hr) (pv 2) (pv 3) (J0 (I0 Le (I0 Le IB))) ⟨rfl,rfl,rfl,rfl⟩) (I0 (J0 (I0 (pv 4) (I0 (pv 5) IB))) IB))))
  (II (Jo (JU (Ku (pv 6))) (IL (IT Le)) Jm)
  (IL (Yv (LR hr) (pv 2) (pv 3) (pv 6) rfl)))))
  (IL (IT (MZ PY rfl B.tuple_ Lk (I0 (K5 (N':=["field","met"]) (js:=[none,some 2]) rfl (JE (N:=["one","other","met","field","low","high","shared"]) (outer:=IQ P_) (by decide+kernel)) (JO (Jd (zf4 rfl) rfl B.sorted_ P6 (I0 (pv 2) IB))) (λ_ _ _ _ _=>(IP (i:=0) Sm rfl (Or.inl rfl))) (λ_ _ _ _ _=>K8) (λ_ _ _ _ _=>(J0 (I0 (pv 0) (I0 (Jf (MO K rfl) (NY (LR hr) (pv 1) (pv 0) (λ_ _=>rfl)) IF (λ_ _=>rfl)) (I0 (Jf (MO K rfl) (NY (LR hr) (pv 1) (pv 0) (λ_ _=>rfl)) IF (λ_ _=>rfl)) IB)))))) IB)))))),?_⟩
 refine⟨_,rfl,a,w1,rfl,hw1,ok1,λd H1 s1 n1 D1=>?_⟩;obtain⟨bs0,b1,b2,b3⟩:=D1;obtain⟨ps,rfl,hA,hP⟩:=hw2.same s1;have bd:b≠d:=LD hA b1 (by intro z;cases z);have pd:∀p∈ps,p.1≠d:=λp hp=>LD (hP p hp) b1 (by intro z;cases z);refine⟨_,rfl,b,rfl,⟨_,SqT.of hA⟩,MN (K:=K) (a:=b) (xs:=ps.map λp=>V.ref p.1) (λi σ H'=>(∃y3 y4 y5 y6,σ=[some (.ref a),some (.ref b),some (.ref d),y3,y4,y5,y6])∧(∀c o,H1 c=some o→c≠d→H' c=some o)∧∃bs:List (Str×V),H' d=some (.dK (KG bs))∧(bs.map (·.1)).Nodup∧bs.length≤w1.length+i∧KY w1 ((ps.map (·.2)).take i)=false∧
  ∀f:Str,match Kq (IR w1 f) (IR ((ps.map (·.2)).take i) f) with
   | none=>JG bs f=none
   | some s=>∃t,JG bs f=some (.ref t)∧H' t=some (.tup [eV s.1,eV s.2])) ?_ ?_ ?_ ?_⟩
 · refine⟨⟨none,none,none,none,rfl⟩,λc o h _=>h,bs0,b1,?_,?_,rfl,λf=>?_⟩
   · rw[b2];exact Vr ok1.asc
   · have:=congrArg Be b2;simp at this;omega
   · have:=b3 f;cases e:IR w1 f with
     | none=>rw[e] at this;exact this
     | some s=>rw[e] at this;exact this
 · rintro i σ H' _ ⟨_,kp,_⟩;exact SqT.of (kp _ _ hA bd)
 · rintro i x σ H2 hx ⟨⟨y3,y4,y5,y6,rfl⟩,kp,bs,k1,k2,k3,k4,k5⟩;obtain⟨P1,e1,rfl⟩:=IU hx;have hm:=Ag e1;have li:=(An.mp e1).1;have ew:(ps.map (·.2))[i]?=some P1.2:=by rw[Af,e1];rfl
   have fr:=ok2.fresh ew;have kf:=k5 P1.2.1;rw[fr] at kf;refine⟨P1.1,_,rfl,SqT.of (kp _ _ (hP P1 hm) (pd P1 hm)),rfl,_,_,rfl,_,_,rfl,_,_,rfl,rfl,?_⟩;refine⟨_,rfl,d,rfl,.inl ⟨KG bs,.inl k1⟩,_,rfl,Jx,λv hv=>?_⟩;have sv:=IM hv (.tup [V.non,V.non]);have ev:(IC H2 v (.tup [V.non,V.non])) v=some (.tup [V.non,V.non]):=IE;have k1v:=sv _ _ k1;generalize IC H2 v (.tup [V.non,V.non])=H3 at*;have gd:=DGet.k (k:=Sum.inr P1.2.1) k1v;rw[MS] at gd;obtain⟨sp,esp,tt,ett,htt⟩:∃sp:JD,(IR w1 P1.2.1).getD (none,none)=sp∧∃tt,(JG bs P1.2.1).getD (.ref v)= .ref tt∧H3 tt=some (.tup [eV sp.1,eV sp.2]):=by
    cases hs:IR w1 P1.2.1 with
    | none=>rw[hs] at kf;rw[show JG bs P1.2.1=none from kf];exact⟨(none,none),rfl,v,rfl,ev⟩
    | some sp=>rw[hs] at kf;obtain⟨t,z1,z2⟩:=kf;rw[z1];exact⟨sp,rfl,t,rfl,sv _ _ z2⟩
   refine⟨_,gd,?_⟩;rw[ett];refine⟨_,rfl,_,rfl,Jx,λu hu=>?_⟩;have su:=IM hu (.tup [eV P1.2.2.1,eV P1.2.2.2]);refine⟨.ref tt,.ref u,sp.1,sp.2,P1.2.2.1,P1.2.2.2,rfl,⟨tt,rfl,su _ _ htt⟩,⟨u,rfl,IE⟩,λv' H4 s4 m4=>?_⟩;have s24:Same H2 H4:=sv.trans (su.trans s4);have sH4:Same H H4:=λc o h=>s24 _ _ (kp _ _ (s1 _ _ h) (λe=>by rw[e,n1] at h;cases h));have le1:=(ok2.ok P1.2 (Az hm)).2;unfold OT at m4;by_cases ap:J4 (Kr sp.1 P1.2.2.1) (Ks sp.2 P1.2.2.2)=true
   · rw[if_pos ap] at m4;subst m4;have aw:KY w1 (ps.map (·.2))=true:=by
      refine C7.mpr ⟨P1.2,Az hm,?_⟩;unfold NR;cases hs:IR w1 P1.2.1 with
      | none=> rw[hs] at esp;subst esp;have:J4 P1.2.2.1 P1.2.2.2=true:=ap;rw[VL,this] at le1;cases le1
      | some s=> rw[hs] at esp;obtain rfl:s=sp:=esp;exact ap
     exact⟨_,rfl,_,rfl,ID (qN aw _ sH4)⟩
   · rw[if_neg ap] at m4;obtain⟨t4,rfl,e4⟩:=m4;have k14:=s24 _ _ k1;have td:t4≠d:=LD e4 k14 (by intro z;cases z);refine⟨_,rfl,_,rfl,IA ⟨_,rfl,_,rfl,_,rfl,d,_,rfl,DPut.k (k:=Sum.inr P1.2.1) k14 (J7 (by unfold KG;rw[Ab];have:=ok1.len;have:=ok2.len;simp at this;omega)),⟨_,_,_,_,rfl⟩,λc o h cd=>by rw[IZ cd];exact s24 _ _ (kp c o h cd),Ko bs P1.2.1 (V.ref t4),by rw[IE,QU],zjm k2 _ _,?_,?_,λf=>?_⟩⟩
     · have:=zl5 bs P1.2.1 (V.ref t4);omega
     · rw[Jt ew];unfold KY at k4 ⊢;rw[List.any_append,k4];simp only[CG,List.any_nil,Bool.or_false,Bool.false_or];unfold NR;cases hs:IR w1 P1.2.1 with
       | none=>rfl
       | some s=> rw[hs] at esp;obtain rfl:s=sp:=esp;simpa using ap
     · rw[Jt ew,Wj _ _ _ fr,YQ];by_cases hf:f=P1.2.1
       · subst hf;rw[if_pos rfl,if_pos rfl];have em:Kq (IR w1 P1.2.1) (some P1.2.2)=some (Kr sp.1 P1.2.2.1,Ks sp.2 P1.2.2.2):=by
          cases hs:IR w1 P1.2.1 with
          | none=>rw[hs] at esp;subst esp;rfl
          | some s=>rw[hs] at esp;obtain rfl:s=sp:=esp;rfl
         rw[em];exact⟨t4,rfl,by rw[IZ td];exact e4⟩
       · rw[if_neg hf,if_neg hf];have:=k5 f;cases hs:Kq (IR w1 f) (IR ((ps.map (·.2)).take i) f) with
         | none=>rw[hs] at this;exact this
         | some s=> rw[hs] at this;obtain⟨t,t1,t2⟩:=this;exact⟨t,t1,by rw[IZ (LD (s24 _ _ t2) k14 (by intro z;cases z))];exact s24 _ _ t2⟩
 · rintro σ H2 ⟨⟨y3,y4,y5,y6,rfl⟩,kp,bs,k1,k2,k3,k4,k5⟩;have et:(ps.map (·.2)).take (ps.map λp=>V.ref p.1).length=ps.map (·.2):=A0 (by simp);rw[et] at k4 k5;have lb:bs.length≤60:=by simp at k3 hl;omega
   have sH2:Same H H2:=λc o h=>kp _ _ (s1 _ _ h) (λe=>by rw[e,n1] at h;cases h);refine⟨_,rfl,d,KG bs,bs.map (·.1),rfl,.inl k1,YX bs,(by rw[Ab];omega),λz ms mp mn mso hz=>?_⟩;have sz:=IM hz (.lst (ms.map V.str));have lms:ms.length=bs.length:=by have:=mp.length_eq;simpa using this
   have hk:∀f,f∈ms↔(Kq (IR w1 f) (IR (ps.map (·.2)) f)).isSome=true:=λf=>by
    rw[mp.mem_iff,YO];have:=k5 f;cases hs:Kq (IR w1 f) (IR (ps.map (·.2)) f) with
    | none=>rw[hs] at this;rw[show JG bs f=none from this];simp
    | some s=>rw[hs] at this;obtain⟨t,t1,_⟩:=this;rw[t1];simp
   have im:IsMet w1 (ps.map (·.2)) (LC w1 (ps.map (·.2)) ms):=UY (V3 mso mn) hk (by simp at k3 ⊢;omega);have mk:(LC w1 (ps.map (·.2)) ms).map (·.1)=ms:=by unfold LC;rw[Bx];exact List.map_id _
   refine⟨z,rfl,⟨_,SqL.of IE⟩,λp hp=>?_⟩;refine YZ (cap:=[some (.ref d)]) (LC w1 (ps.map (·.2)) ms) (by unfold LC;rw[Ab];omega) (by rw[mk];exact SqL.of IE) hp rfl ?_ ?_
   · intro x hx H' R s' hR;have kd:=s' _ _ (sz _ _ k1);obtain⟨f,hf,rfl⟩:=AB.mp hx;have hso:=(hk f).mp hf;have kf:=k5 f;obtain⟨tt,t1,t2⟩:∃t,JG bs f=some (.ref t)∧H2 t=some (.tup [eV (Nr w1 (ps.map (·.2)) f).1,eV (Nr w1 (ps.map (·.2)) f).2]):=by
      unfold Nr;cases hs:Kq (IR w1 f) (IR (ps.map (·.2)) f) with
      | none=>rw[hs] at hso;cases hso
      | some s=>rw[hs] at kf;exact kf
     have gd:DGet H' d (.str f) (some (.ref tt)):=by have:=DGet.k (k:=Sum.inr f) kd;rw[MS,t1] at this;exact this
     have t3:=s' _ _ (sz _ _ t2);exact⟨_,rfl,_,rfl,_,rfl,d,_,rfl,gd,tt,_,0,_,rfl,rfl,SqT.of t3,rfl,_,rfl,_,rfl,d,_,rfl,gd,tt,_,1,_,rfl,rfl,SqT.of t3,rfl,NN,hR⟩
   intro H3 qs s3 q1 q2 q3;refine⟨p,_,rfl,.inl ⟨SqL.of q2,λt ht=>?_⟩⟩;have st:=IM ht (.tup (qs.map λq=>V.ref q.1));exact qS k4 t _ _ im (sH2.trans (sz.trans (s3.trans st))) ⟨qs,q1,IE,λq hq=>st _ _ (q3 q hq)⟩
theorem ze1(F:Fun K "rank_of_low" "rank_of_low" R3 f fd)  :FnOk P w K mg base Jc 1 f fd ["low"] (T0):=by
 refine F.ok zeX (λvs H Q E h=>?_) (λcdv A outer s H vs Q E hr h=>?_)
 · obtain⟨o,rfl,q⟩:=h;rfl
 obtain⟨o,rfl,q⟩:=h;refine⟨_,(IL (IT (My (JU (Ku (pv 0))) (J0 (I0 IF (I0 IF IB))) (J0 (I0 IF (I0 (pv 0) IB)))))),?_⟩;cases o with
 | none=>exact⟨_,rfl,_,rfl,ID ⟨Jx,λt ht=>q t _ (IM ht _) IE⟩⟩
 | some l=>exact⟨_,rfl,_,rfl,IA ⟨_,rfl,Jx,λt ht=>q t _ (IM ht _) IE⟩⟩
theorem zeG(F:Fun K "rank_of_high" "rank_of_high" R6 f fd)  :FnOk P w K mg base Jc 1 f fd ["high"] (U8):=by
 refine F.ok zer (λvs H Q E h=>?_) (λcdv A outer s H vs Q E hr h=>?_)
 · obtain⟨o,rfl,q⟩:=h;rfl
 obtain⟨o,rfl,q⟩:=h;refine⟨_,(IL (IT (My (JU (Ku (pv 0))) (J0 (I0 IF (I0 IF IB))) (J0 (I0 IF (I0 (pv 0) IB)))))),?_⟩;cases o with
 | none=>exact⟨_,rfl,_,rfl,ID ⟨Jx,λt ht=>q t _ (IM ht _) IE⟩⟩
 | some l=>exact⟨_,rfl,_,rfl,IA ⟨_,rfl,Jx,λt ht=>q t _ (IM ht _) IE⟩⟩
theorem Ys(F:Fun K "rank" "rank" OY f fd)(HJ:Γ15 P w K mg base)(HK:Γ16 P w K mg base):FnOk P w K mg base Jc 2 f fd ["wish"] (TB K):=by
 refine F.ok YA (λvs H Q E h=>?_) (λcdv A outer s H vs Q E hr h=>?_)
 · obtain⟨a,w',rfl,hw,wok,q⟩:=h;rfl
 obtain⟨a,w',rfl,hw,wok,q⟩:=h;refine⟨_,(IL (IT (K5 (N':=["field","low","high"]) (js:=[none,none,none]) rfl (JE (N:=["wish"]) (outer:=IQ OY) (by decide+kernel)) (KQ (pv 0)) (λ_ _ _ _ _=>(NW K rfl (n:=3) rfl (Jg (IP (i:=0) K0 rfl (Or.inl rfl)) (Jg (IP (i:=1) K0 rfl (Or.inl rfl)) (Jg (IP (i:=2) K0 rfl (Or.inl rfl)) Kh))))) (λ_ _ _ _ _=>K8) (λ_ _ _ _ _=>(J0 (I0 (pv 0) (I0 (IS HJ (hr.mono (by decide)) rfl (I0 (pv 1) IB)) (I0 (IS HK (hr.mono (by decide)) rfl (I0 (pv 2) IB)) IB)))))))),?_⟩;obtain⟨ps,rfl,hA,hP⟩:=hw;have ll:ps.length≤100:=by have:=wok.len;rw[Ab] at this;exact this
 refine⟨_,rfl,a,rfl,⟨_,SqT.of hA⟩,λp hp=>?_⟩;refine Pb (xs:=ps.map λp=>V.ref p.1) (λj σ' ys H2=>(∃v1 v2 v3,σ'=[v1,v2,v3])∧Same H H2∧H2 p=some (.lst ys)∧∃qs:List (Addr×Addr×Addr×WP),ys=qs.map (λq=>V.ref q.1)∧qs.map (·.2.2.2)=(ps.map (·.2)).take j∧∀q∈qs,RkAt H2 q) ⟨⟨none,none,none,rfl⟩,IM hp _,IE,[],rfl,rfl,λq hq=>by simp at hq⟩ ?_ ?_ ?_
 · rintro j σ' ys H2 hj ⟨_,s2,h1,qs,rfl,h3,_⟩;refine⟨s2.seqT (SqT.of hA),h1,?_⟩;have:=congrArg Be h3;rw[Ab,AE,Ab] at this;rw[Ab];exact J7 (by omega)
 · rintro j y σ' ys H2 N hy ⟨⟨v1,v2,v3,rfl⟩,s2,h1,qs,rfl,h3,h4⟩ hN;obtain⟨P2,e2,rfl⟩:=IU hy;have hm2:=Ag e2;have ep:(ps.map (·.2))[j]?=some P2.2:=by rw[Af,e2];rfl
   refine⟨P2.1,_,rfl,SqT.of (s2 _ _ (hP P2 hm2)),rfl,_,_,rfl,_,_,rfl,_,_,rfl,rfl,?_⟩;refine⟨_,rfl,_,rfl,P2.2.2.1,rfl,λt1 H3 s3 e3=>?_⟩;refine⟨_,rfl,P2.2.2.2,rfl,λt2 H4 s4 e4=>?_⟩;refine⟨NN,λt ht=>?_⟩;have st:=IM ht (.tup [V.str P2.2.1,.ref t1,.ref t2]);have s5:=(s3.trans s4).trans st;have h5:=s5 _ _ h1;have tl:=LJ (o:= .lst (qs.map (λq=>V.ref q.1)++[V.ref t])) h5;refine⟨h5,hN _ _ _ ⟨⟨_,_,_,rfl⟩,JP (s2.trans s5) hp,IE,qs++[(t,t1,t2,P2.2)],?_,?_,?_⟩⟩
   · rw[Aq];rfl
   · rw[Aq,h3,Jt ep];rfl
   · intro q hq;rcases A3.mp hq with z | z
     · exact(h4 q z).keep (s5.tups.trans tl)
     · rw[Aj.mp z];exact⟨tl _ _ IE,tl _ _ (st _ _ (s4 _ _ e3)),tl _ _ (st _ _ e4)⟩
 · rintro σ' ys H2 ⟨_,s2,h1,qs,rfl,h3,h4⟩;have et:(ps.map (·.2)).take (ps.map λp=>V.ref p.1).length=ps.map (·.2):=A0 (by simp);rw[et] at h3;have:=XU (K:=K) h1 h4;rw[h3] at this;exact q _ _ s2 this
theorem zhK(F:Fun K "is_under" "is_under" Rr f fd)(HH:Γ12 P w K mg base)(HL:Γ13 P w K mg base):FnOk P w K mg base Jc 3 f fd ["wish","others"] (UD):=by
 refine F.ok GZ (λvs H Q E h=>?_) (λcdv A outer s H vs Q E hr h=>?_)
 · obtain⟨a,d,w',ks,rfl,hw,wok,hd,kok,q⟩:=h;rfl
 obtain⟨a,d,w',ks,rfl,hw,wok,hd,kok,q⟩:=h;refine⟨_,(II (IY (i:=2) GZ.nd rfl (Or.inl rfl) (IS HH (hr.mono (by decide)) rfl (I0 (pv 0) IB)))
  (II (Kj AV rfl (Tr (pv 1)) (IP (i:=3) GZ.nd rfl (Or.inl rfl)) (IL (Jo (PW.pt (LW (JN (IS HL (hr.mono (by decide)) rfl (I0 (pv 3) (I0 (pv 2) IB)))) (M0 (Jn (NU (KR hr)) (pv 3) (pv 0) (Ji _))))) (IL (IT JI)) Jm)))
  (IL (IT JI)))),?_⟩
 refine⟨_,rfl,a,w',rfl,hw,wok,λsd H1 s1 hsd D1=>?_⟩;obtain⟨⟨ep,ed⟩,hk⟩:=hd;refine⟨_,rfl,d,_,ep,rfl,s1 _ _ ed,YG (λi σ H'=>(∃y,σ=[some (.ref a),some (.ref d),some (.ref sd),y])∧Same H1 H'∧((ks.take i).any λk=>JC k.2 w' && !decide (k.2=w'))=false) ⟨⟨none,rfl⟩,Same.refl _,rfl⟩ (λi σ H' _ ⟨_,s,_⟩=>s _ _ (s1 _ _ ed)) ?_ ?_⟩
 · rintro i x σ H' hx ⟨⟨y,rfl⟩,s,hr'⟩;rw[Af] at hx;cases e1:ks[i]? with
   | none=>rw[e1] at hx;cases hx
   | some K1=>
    rw[e1] at hx;obtain rfl:K1.1=x:=A4 hx;have hm:=Ag e1;have w1:=(hk K1 hm).same (s1.trans s);have step:(JC K1.2 w' && !decide (K1.2=w'))=false→((ks.take (i+1)).any λk=>JC k.2 w' && !decide (k.2=w'))=false:=λh=>by rw[Jt e1,List.any_append,hr',Bool.false_or,CG,List.any_nil,h];rfl
    refine⟨_,rfl,_,rfl,K1.1,sd,K1.2,w',rfl,w1,D1.sp.same s,λH2 s2=>⟨_,rfl,?_⟩⟩;cases rc:JC K1.2 w' with
    | false=> refine IA ⟨⟨_,rfl⟩,s.trans s2,step ?_⟩;rw[rc];rfl
    | true=>
     refine ID ⟨_,rfl,_,rfl,dW K1.2,dW w',Lp (w1.same s2),Lp (hw.same (s1.trans (s.trans s2))),Bn (Ny _) (by decide),?_⟩;rw[Nx];by_cases e:K1.2=w'
     · rw[decide_eq_true e];refine⟨_,rfl,IA ⟨⟨_,rfl⟩,s.trans s2,step ?_⟩⟩;rw[rc,decide_eq_true e];rfl
     · rw[decide_eq_false e];refine⟨_,rfl,ID ?_⟩;have:(ks.any λk=>JC k.2 w' && !decide (k.2=w'))=true:=C7.mpr ⟨K1,hm,by rw[rc,decide_eq_false e];rfl⟩;rw[this] at q;exact q _ (s1.trans (s.trans s2))
 · rintro σ H' ⟨_,s,hr'⟩;rw[Ab,Bd] at hr';rw[hr'] at q;exact q _ (s1.trans s)
theorem ze2(F:Fun K "greatest_of" "greatest_of" Om f fd)(HM:Γ18 P w K mg base):FnOk P w K mg base Jc 4 f fd ["wishes"] (UC):=by
 refine F.ok G_ (λvs H Q E h=>?_) (λcdv A outer s H vs Q E hr h=>?_)
 · obtain⟨l,ws,rfl,hw,q⟩:=h;rfl
 obtain⟨l,ws,rfl,hw,q⟩:=h;refine⟨_,(II (IY (i:=1) G_.nd rfl (Or.inr rfl) (XJ (KR hr) (N':=["wish"]) (js:=[none]) rfl (JE (N:=["wishes","unlike"]) (outer:=IQ Om) (by decide+kernel)) (JO (pv 0)) (λ_ _ _ _ _=>(IP (i:=0) O4 rfl (Or.inl rfl))) (λ_ _ _ _ _=>K8) (λ_ _ _ _ _=>(pv 0)) (λ_ _ _ _ _=>JI)))
  (IL (IT (K5 (N':=["wish","unlike"]) (js:=[none,some 1]) rfl (JE (N:=["wishes","unlike"]) (outer:=IQ Om) (by decide+kernel)) (Tr (pv 1)) (λ_ _ _ _ _=>(IP (i:=0) Sl rfl (Or.inl rfl))) (λ_ _ _ _ _=>K_ (Kk (JN (IS HM (hr.mono (by decide)) rfl (I0 (pv 0) (I0 (pv 1) IB)))))) (λ_ _ _ _ _=>(pv 0)))))),?_⟩
 have hA:=hw.at';refine⟨_,rfl,l,rfl,⟨_,SqL.of hA⟩,λp hp=>⟨λi m σ' ks H'=>m=ws.length - i∧i≤ws.length∧(∃v,σ'=[v])∧Dd (ws.take i) ks∧Same H H',⟨ws.length,λφ=>⟨by simp,AK _,⟨none,rfl⟩,Dd.nil,IM hp _⟩⟩,?_⟩⟩;rintro i m σ' ks H1 ⟨rfl,hi,⟨v,rfl⟩,dd,s1⟩;have wk:∀k∈ks,WishAt H1 k.1 k.2:=λk hk=>((hw.ok k (BW (dd.sub k hk))).1).same s1;have lk:ks.length≤800:=by have h1:=dd.len;have h2:=hw.len;rw[AE] at h1;omega
 refine⟨wk,by omega,?_⟩;by_cases hlt:i<ws.length
 · refine .inr ⟨⟨_,_,SqL.of (s1 _ _ hA),by rw[Af,Al hlt];rfl⟩,λx H2 y=>?_⟩;obtain⟨rfl,y⟩:=y;have y:=y _ (SqL.of (s1 _ _ hA));rw[Af,Al hlt] at y;obtain rfl:V.ref ws[i].1=x:=A4 y;simp only[Ky,if_true];refine⟨_,rfl,ws[i].1,ws[i].2,rfl,rfl,((hw.ok _ (Ez hlt)).1).same s1,wk,rfl,λφ=>⟨ws.length - (i+1),by omega,rfl,hlt,⟨_,rfl⟩,?_,JP s1 hp⟩⟩;rw[Jt (Al hlt)];exact dd.put _
 · obtain rfl:i=ws.length:=by omega
   rw[Bd] at dd;refine .inl ⟨⟨_,SqL.of (s1 _ _ hA),by rw[Ab];exact Ah _⟩,λep=>?_⟩;have s2:=JP (o:= .ext (Kv p (ks.map (·.1)) ep)) s1 hp;have e2:(IC H1 p (.ext (Kv p (ks.map (·.1)) ep))) p=some (.ext (Kv p (ks.map (·.1)) ep)):=IE;have wk2:∀k∈ks,WishAt (IC H1 p (.ext (Kv p (ks.map (·.1)) ep))) k.1 k.2∧WOk k.2:=λk hk=>⟨((hw.ok k (dd.sub k hk)).1).same s2,(hw.ok k (dd.sub k hk)).2⟩;generalize IC H1 p (.ext (Kv p (ks.map (·.1)) ep))=H2 at*;refine⟨_,rfl,p,_,ep,rfl,e2,λr hr'=>?_⟩;refine XC (λi σ' ys H'=>(∃v,σ'=[v,some (.ref p)])∧Same H2 H'∧H' r=some (.lst ys)∧ys=((ks.take i).filter λk=>J_ ks k.2).map λx=>V.ref x.1) ⟨⟨none,rfl⟩,IM hr' _,IE,rfl⟩ ?_ ?_ ?_
   · rintro i σ' ys H' hi ⟨_,s,h1,h2⟩;refine⟨s _ _ e2,h1,?_⟩;rw[h2,Ab];have h3:=AX (λk=>J_ ks k.2) (ks.take i);rw[AE] at h3;exact J7 (by omega)
   · rintro i x σ' ys H3 N hx ⟨⟨v,rfl⟩,s3,h1,h2⟩ hN;rw[Af] at hx;cases ew:ks[i]? with
     | none=>rw[ew] at hx;cases hx
     | some X1=>
      rw[ew] at hx;obtain rfl:X1.1=x:=A4 hx;obtain⟨x1,x2⟩:=wk2 X1 (Ag ew);refine⟨_,rfl,_,rfl,X1.1,p,X1.2,ks,rfl,x1.same s3,x2,⟨⟨ep,s3 _ _ e2⟩,λk hk=>((wk2 k hk).1).same s3⟩,λk hk=>(wk2 k hk).2,λH4 s4=>⟨_,rfl,?_⟩⟩;have st:((ks.take (i+1)).filter λk=>J_ ks k.2)=(ks.take i).filter (λk=>J_ ks k.2)++(if J_ ks X1.2 then [X1] else []):=by rw[Jt ew,BM];congr 1;rw[BL];rfl
      cases c:ks.any (λk=>JC k.2 X1.2 && !decide (k.2=X1.2)) with
      | true=>
       have ct:J_ ks X1.2=false:=by unfold J_;rw[c];rfl
       rw[ct] at st;exact IA (hN _ _ _ ⟨⟨_,rfl⟩,s3.trans s4,s4 _ _ h1,by rw[h2,st];simp⟩)
      | false=>
       have ct:J_ ks X1.2=true:=by unfold J_;rw[c];rfl
       rw[ct] at st;exact ID ⟨_,rfl,s4 _ _ h1,hN _ _ _ ⟨⟨_,rfl⟩,JP (s3.trans s4) hr',IE,by rw[h2,st];simp⟩⟩
   · rintro σ' ys H3 ⟨_,s3,h1,rfl⟩;rw[Ab,Bd] at h1;exact q r _ H3 (s2.trans s3) (s2.free hr') ⟨h1,λx hx=>dd.sub x (Da.mp hx).1,dd.top,AD (AX _ _) dd.len⟩
theorem zhM(F:Fun K "greatest" "greatest" Rq f fd)(HN:Γ11 P w K mg base)(HP:Γ19 P w K mg base)(HQ:Γ17 P w K mg base):FnOk P w K mg base Jc 8 f fd ["wishes"] (OZ):=by
 refine F.ok zhs (λvs H Q E h=>?_) (λcdv A outer s H vs Q E hr h=>?_)
 · obtain⟨l,ws,rfl,hw,l7,q⟩:=h;rfl
 obtain⟨l,ws,rfl,hw,l7,q⟩:=h;refine⟨_,(II (L0 (IS HN (hr.mono (by decide)) rfl (I0 (pv 0) IB)))
  (IL (IT (Wa HQ (hr.mono (by decide)) rfl B.sorted_ rfl (I0 (IS HP (hr.mono (by decide)) rfl (I0 (pv 0) IB)) IB))))),?_⟩
 refine⟨_,rfl,l,ws,rfl,hw,λH1 s1=>?_⟩;refine⟨_,rfl,l,ws,rfl,hw.same s1,λt qs H2 s2 nt T2=>?_⟩;have W2:WsAt H2 t qs:=⟨T2.1,λx hx=>⟨((hw.ok x (T2.2.1 x hx)).1).same (s1.trans s2),(hw.ok x (T2.2.1 x hx)).2⟩,AD T2.2.2.2 hw.len⟩;refine Vl (AD T2.2.2.2 (by omega)) Ll W2 (λx hx H3 s3 Q1 hQ=>⟨x.1,x.2,rfl,((W2.ok x hx).1).same s3,(W2.ok x hx).2,hQ⟩) (.inr (.inl λi=>⟨_,rfl⟩)) (λw=>AD (Zu w) (by decide)) Yn Yy λr rs H3 s3 nr pm sr e3=>?_;exact q r rs H3 (s1.trans (s2.trans s3)) (s1.free (s2.free nr)) ⟨e3,λx hx=>T2.2.1 x (pm.mem_iff.mp hx),T2.2.2.1.perm (pm.map _),by rw[pm.length_eq];exact T2.2.2.2⟩ sr
theorem zeE(F:Fun K "spans_beside" "spans_beside" R8 f fd)  :FnOk P w K mg base Jc 1 f fd ["span","inner"] (Wx):=by
 refine F.ok Ha (λvs H Q E h=>?_) (λcdv A outer s H vs Q E hr h=>?_)
 · obtain⟨v,w',s',t',rfl,S1,S2,W,q⟩:=h;rfl
 obtain⟨v,w',s',t',rfl,S1,S2,W,q⟩:=h;refine⟨_,(II (Lu (pv 0) (K6 rfl (Jg (IP (i:=2) Ha.nd rfl (Or.inl rfl)) (Jg (IP (i:=3) Ha.nd rfl (Or.inl rfl)) Kh))))
  (II (Lu (pv 1) (K6 rfl (Jg (IP (i:=4) Ha.nd rfl (Or.inl rfl)) (Jg (IP (i:=5) Ha.nd rfl (Or.inl rfl)) Kh))))
  (II (IY (i:=6) Ha.nd rfl (Or.inl rfl) (My (Jn LB (pv 4) (pv 2) (Ji _)) (Kb (I0 (J0 (I0 (pv 2) (I0 (IW Mw (pv 4) IF) IB))) IB)) (Kb IB)))
  (II (IY (i:=7) Ha.nd rfl (Or.inl rfl) (My (Jn LB (pv 5) (pv 3) (Ji _)) (Kb (I0 (J0 (I0 (IW Ka (pv 5) IF) (I0 (pv 3) IB))) IB)) (Kb IB)))
  (IL (IT (IW Tn (pv 6) (pv 7)))))))),?_⟩
 obtain⟨a,rfl,ea⟩:=S1;obtain⟨b,rfl,eb⟩:=S2;obtain⟨a1,b1⟩:=s';obtain⟨c1,d1⟩:=t';dsimp only at ea eb;refine⟨_,rfl,a,_,rfl,SqT.of ea,rfl,_,_,rfl,_,_,rfl,rfl,?_⟩;refine⟨_,rfl,b,_,rfl,SqT.of eb,rfl,_,_,rfl,_,_,rfl,rfl,?_⟩;dsimp only;refine Mb (λσ' H'=>∃(r1:Addr)(ss:List (Addr×JD)),σ'=[some (.ref a),some (.ref b),some (eV a1),some (eV b1),some (eV c1),some (eV d1),some (.ref r1),none]∧Same H H'∧H' r1=some (.lst (ss.map λx=>V.ref x.1))∧ss.map (·.2)=below (a1,b1) (c1,d1)∧∀x∈ss,H' x.1=some (.tup [eV x.2.1,eV x.2.2])) (λZ hZ=>?_) ?_
 · cases c1 with
   | none=>
    have e0:a1=none:=by
     cases a1 with
     | none=>rfl
     | some l=>obtain⟨k,hk,_⟩:=W.lo l rfl;cases hk
    subst e0;refine⟨_,rfl,_,rfl,rfl,_,rfl,Ta rfl ⟨KM,λr1 hr1=>?_⟩⟩;exact hZ _ _ ⟨r1,[],rfl,IM hr1 _,IE,rfl,λx hx=>by simp at hx⟩
   | some l=>
    refine⟨_,rfl,_,rfl,by cases a1<;>rfl,_,rfl,Je (λh=>?_) (λh=>?_)⟩
    · have ne:a1≠some l:=λe=>by rw[e] at h;simp at h
      refine⟨_,rfl,_,rfl,_,_,rfl,rfl,Jx,λt ht=>?_⟩;have s3:=IM ht (.tup [eV a1,V.int (l - 1)]);have e3:(IC H t (.tup [eV a1,V.int (l - 1)])) t=some (.tup [eV a1,V.int (l - 1)]):=IE;dsimp only;generalize IC H t (.tup [eV a1,V.int (l - 1)])=H3 at*;refine⟨LA,λr1 hr1=>?_⟩;have s4:=IM hr1 (.lst [V.ref t]);refine hZ _ _ ⟨r1,[(t,(a1,some (l - 1)))],rfl,s3.trans s4,IE,?_,λx hx=>?_⟩
      · show _=(if _ then _ else _)
        rw[if_neg ne];rfl
      · rw[Aj.mp hx];exact s4 _ _ e3
    · have e:a1=some l:=by
       by_cases e:a1=some l
       · exact e
       · exact absurd (by simp;exact λz=>e (Pa (a:=a1) (b:=some l) z.symm)) h
      subst e;refine⟨KM,λr1 hr1=>?_⟩;exact hZ _ _ ⟨r1,[],rfl,IM hr1 _,IE,by show []=(if _ then _ else _);rw[if_pos rfl],λx hx=>by simp at hx⟩
 rintro σ' H1 ⟨r0,ss,rfl,s1,e1,f1,g1⟩;refine Mb (λσ' H'=>∃(r1:Addr)(ss:List (Addr×JD)),σ'=[some (.ref a),some (.ref b),some (eV a1),some (eV b1),some (eV c1),some (eV d1),some (.ref r0),some (.ref r1)]∧Same H1 H'∧H' r1=some (.lst (ss.map λx=>V.ref x.1))∧ss.map (·.2)=above (a1,b1) (c1,d1)∧∀x∈ss,H' x.1=some (.tup [eV x.2.1,eV x.2.2])) (λZ hZ=>?_) ?_
 · cases d1 with
   | none=>
    have e0:b1=none:=by
     cases b1 with
     | none=>rfl
     | some l=>obtain⟨k,hk,_⟩:=W.hi l rfl;cases hk
    subst e0;refine⟨_,rfl,_,rfl,rfl,_,rfl,Ta rfl ⟨KM,λr1 hr1=>?_⟩⟩;exact hZ _ _ ⟨r1,[],rfl,IM hr1 _,IE,rfl,λx hx=>by simp at hx⟩
   | some l=>
    refine⟨_,rfl,_,rfl,by cases b1<;>rfl,_,rfl,Je (λh=>?_) (λh=>?_)⟩
    · have ne:b1≠some l:=λe=>by rw[e] at h;simp at h
      refine⟨_,rfl,_,_,rfl,rfl,_,rfl,Jx,λt ht=>?_⟩;have s3:=IM ht (.tup [V.int (l+1),eV b1]);have e3:(IC H1 t (.tup [V.int (l+1),eV b1])) t=some (.tup [V.int (l+1),eV b1]):=IE;dsimp only;generalize IC H1 t (.tup [V.int (l+1),eV b1])=H3 at*;refine⟨LA,λr1 hr1=>?_⟩;have s4:=IM hr1 (.lst [V.ref t]);refine hZ _ _ ⟨r1,[(t,(some (l+1),b1))],rfl,s3.trans s4,IE,?_,λx hx=>?_⟩
      · show _=(if _ then _ else _)
        rw[if_neg ne];rfl
      · rw[Aj.mp hx];exact s4 _ _ e3
    · have e:b1=some l:=by
       by_cases e:b1=some l
       · exact e
       · exact absurd (by simp;exact λz=>e (Pa (a:=b1) (b:=some l) z.symm)) h
      subst e;refine⟨KM,λr1 hr1=>?_⟩;exact hZ _ _ ⟨r1,[],rfl,IM hr1 _,IE,by show []=(if _ then _ else _);rw[if_pos rfl],λx hx=>by simp at hx⟩
 rintro σ' H2 ⟨r1,us,rfl,s2,e2,f2,g2⟩;have l1:ss.length≤10:=by have h1:=congrArg Be f1;have h2:=Oc (a1,b1) (c1,d1);unfold KD at h2;rw[A6] at h2;rw[Ab] at h1;omega
 have l2:us.length≤10:=by have h1:=congrArg Be f2;have h2:=Oc (a1,b1) (c1,d1);unfold KD at h2;rw[A6] at h2;rw[Ab] at h1;omega
 refine⟨_,rfl,_,rfl,r0,r1,_,_,rfl,rfl,s2 _ _ e1,e2,by rw[Ab,Ab];exact MF (by omega),λr hr'=>?_⟩;have s3:=IM hr' (.lst (ss.map (λx=>V.ref x.1)++us.map (λx=>V.ref x.1)));refine q r (ss++us) _ ((s1.trans s2).free hr') (s1.trans (s2.trans s3)) ?_ ?_ λx hx=>?_
 · rw[Aq,f1,f2];rfl
 · rw[IE,Aq]
 · rcases A3.mp hx with z | z
   · exact s3 _ _ (s2 _ _ (g1 x z))
   · exact s3 _ _ (g2 x z)
theorem zdf(F:Fun K "parts_beside_one" "parts_beside_one" RI f fd)(HR:Γ14 P w K mg base)(HS:Γ21 P w K mg base):FnOk P w K mg base Jc 3 f fd ["wish","other"] (Wr):=by
 refine F.ok Hb (λvs H Q E h=>?_) (λcdv A outer s H vs Q E hr h=>?_)
 · obtain⟨a,b,w',o,rfl,hw,ho,kw,ko,lw,lo,q⟩:=h;rfl
 obtain⟨a,b,w',o,rfl,hw,ho,kw,ko,lw,lo,q⟩:=h;refine⟨_,(II (IY (i:=2) Hb.nd rfl (Or.inl rfl) (IS HR (hr.mono (by decide)) rfl (I0 (pv 0) (I0 (pv 1) IB))))
  (II (Jo (PW.pt (Kn (JU (Ku (pv 2))) (KB (Jn Mt (Jd Kw rfl B.len_ JZ (I0 (pv 2) IB)) (Jd Kw rfl B.len_ JZ (I0 (pv 0) IB)) (Ji _))))) (IL (IT (Kb (I0 (pv 0) IB)))) Jm)
  (II (IY (i:=3) Hb.nd rfl (Or.inl rfl) (Kb IB))
  (II (Kj AV rfl (ZY rfl B.enumerate_ (I0 (pv 0) IB)) (K6 rfl (Jg (IP (i:=4) Hb.nd rfl (Or.inl rfl)) (Jg (K6 rfl (Jg (IP (i:=5) Hb.nd rfl (Or.inl rfl)) (Jg (IP (i:=6) Hb.nd rfl (Or.inl rfl)) (Jg (IP (i:=7) Hb.nd rfl (Or.inl rfl)) Kh)))) Kh))) (IL (Kj AV rfl (JO (IS HS (hr.mono (by decide)) rfl (I0 (J0 (I0 (pv 6) (I0 (pv 7) IB))) (I0 (J0 (I0 (Jf JM (Jf JM (pv 2) (pv 4) (λ_ _=>rfl)) IF (λ_ _=>rfl)) (I0 (Jf JM (Jf JM (pv 2) (pv 4) (λ_ _=>rfl)) IF (λ_ _=>rfl)) IB))) IB)))) (K6 rfl (Jg (IP (i:=8) Hb.nd rfl (Or.inl rfl)) (Jg (IP (i:=9) Hb.nd rfl (Or.inl rfl)) Kh))) (IL (L0 (LS BS BZ B_ LY (pv 3) (I0 (IW Pk (IW Pk (LK Pg (pv 2) LG (LH (pv 4))) (J0 (I0 (J0 (I0 (pv 5) (I0 (pv 8) (I0 (pv 9) IB)))) IB))) (LK Pg (pv 0) (LH (IW Ka (pv 4) IF)) LG)) IB)))))))
  (IL (IT (pv 3))))))),?_⟩
 have whole:∀(H1:Hp),Same H H1→one w' o=[w']→OneOk w' o (one w' o)→∀r,H1 r=none→Q (.ref r) (IC H1 r (.lst [V.ref a])):=λH1 s1 e ok r hr=>by have s2:=IM hr (.lst [V.ref a]);refine q r _ (s1.free hr) (s1.trans s2) ?_ ok;rw[e];exact⟨[(a,w')],rfl,IE,λx hx=>by rw[Aj.mp hx];exact hw.same (s1.trans s2)⟩
 refine⟨_,rfl,_,rfl,a,b,w',o,rfl,hw,ho,kw,ko,by omega,λap H1 s1=>?_,λap mr m H1 im s1 hm=>?_⟩
 · have e1:one w' o=[w']:=by unfold one;rw[if_pos ap]
   exact⟨_,rfl,_,rfl,ID (ID ⟨_,rfl,LA,whole H1 s1 e1 (by rw[e1];exact VO kw ko ap)⟩)⟩
 have te:=Q_ im;have hm':=hm;have hw1':=hw.same s1;obtain⟨ms,hms,hA,hP⟩:=hm;obtain⟨ws,hws,hB,hR⟩:=hw.same s1;have lm:ms.length=m.length:=by rw[←hms,Ab]
 have lws:ws.length=w'.length:=by rw[←hws,Ab]
 refine⟨_,rfl,_,rfl,IA ⟨_,rfl,mr,_,rfl,.inr (SqT.of hA),_,rfl,a,_,rfl,.inr (SqT.of hB),_,_,rfl,rfl,_,rfl,Je (λh=>?_) (λh=>?_)⟩⟩
 · have h1:w'.length<m.length:=by
    have:=of_decide_eq_true h;rw[Ab,Ab,lm,lws] at this;omega
   have e1:one w' o=[w']:=by unfold one;rw[if_neg (by rw[ap];simp),te,if_pos h1]
   exact⟨_,rfl,LA,whole H1 s1 e1 (by rw[e1];exact Vg kw ko im h1)⟩
 have h1:m.length≤w'.length:=by have:¬((((ms.map λp=>V.ref p.1).length:Nat):Int)>(((ws.map λp=>V.ref p.1).length:Nat):Int)):=λz=>h (decide_eq_true z);rw[Ab,Ab,lm,lws] at this;omega
 have e1:one w' o=NZ w' m:=by unfold one;rw[if_neg (by rw[ap];simp),te,if_neg (by omega)]
 have hf:=VZ kw im h1;have ll:m.length=w'.length:=by have:=congrArg Be hf;simpa using this
 refine⟨KM,λpr hpr=>?_⟩;have s2:=IM hpr (.lst []);have e2:(IC H1 pr (.lst [])) pr=some (.lst []):=IE;have np:H pr=none:=s1.free hpr;have hm2:=hm'.same s2;have hw2:=hw1'.same s2;have S2:=s1.trans s2;generalize IC H1 pr (.lst [])=H2 at*;have hB2:SqT K H2 a (ws.map λp=>V.ref p.1):=SqT.of (s2 _ _ hB);have cl:∀l:List Nat,(l.flatMap (KW w' m)).length≤2*l.length:=λl=>by
  induction l with
  | nil=>simp
  | cons i l ih=>
   rw[Dy,A6,AA];have:(KW w' m i).length≤2:=by
    unfold KW
    split
    · rw[Ab];exact Oc _ _
    · simp
   omega
 refine⟨_,rfl,a,rfl,⟨_,hB2⟩,Z6 (K:=K) (a:=a) (xs:=ws.map λp=>V.ref p.1) (λi σ H'=>(∃y4 y5 y6 y7 y8 y9,σ=[some (.ref a),some (.ref b),some (.ref mr),some (.ref pr),y4,y5,y6,y7,y8,y9])∧Same H H'∧Tups H2 H'∧∃us:List (Addr×List WP),H' pr=some (.lst (us.map λz=>V.ref z.1))∧us.map (·.2)=(BU i).flatMap (KW w' m)∧∀z∈us,WishAt H' z.1 z.2) ⟨⟨none,none,none,none,none,none,rfl⟩,S2,λ_ _ z=>z,[],e2,rfl,λz hz=>by simp at hz⟩ (λi σ H' _ ⟨_,_,z,_⟩=>SqT.of (z _ _ (s2 _ _ hB))) ?_ ?_⟩
 · rintro i x z σ H3 hx hz ⟨⟨y4,y5,y6,y7,y8,y9,rfl⟩,s3,t3,us,e3,u3,v3⟩;obtain⟨P1,ex,rfl⟩:=IU hx;have li:i<ws.length:=(An.mp ex).1;obtain⟨M1,em⟩:∃M1,ms[i]?=some M1:=⟨ms[i]'(by omega),Al (by omega)⟩;have ewP:w'[i]?=some P1.2:=by rw[←hws,Af,ex];rfl
   have emP:m[i]?=some M1.2:=by rw[←hms,Af,em];rfl
   obtain⟨m1,m2,m3⟩:=Nw kw ko im ap hf ewP emP;have s4:=IM hz (.tup [V.int (i:Int),V.ref P1.1]);have e4:(IC H3 z (.tup [V.int (i:Int),V.ref P1.1])) z=some (.tup [V.int (i:Int),V.ref P1.1]):=IE;have t4:Tups H2 (IC H3 z (.tup [V.int (i:Int),V.ref P1.1])):=t3.trans s4.tups;have f4:=s4 _ _ e3;have v4:∀z'∈us,WishAt (IC H3 z (.tup [V.int (i:Int),V.ref P1.1])) z'.1 z'.2:=λz' hz'=>(v3 z' hz').same s4;have S4:=s3.trans s4;generalize IC H3 z (.tup [V.int (i:Int),V.ref P1.1])=H4 at*;have hA4:=t4 _ _ (s2 _ _ hA);have hB4:=t4 _ _ (s2 _ _ hB);have p4:=t4 _ _ (s2 _ _ (hR P1 (Ag ex)));have q4:=t4 _ _ (s2 _ _ (hP M1 (Ag em)));have hat:Km (ms.map λp=>V.ref p.1) (i:Int)=some (V.ref M1.1):=Lg (by rw[Af,em];rfl);refine⟨z,_,rfl,SqT.of e4,rfl,_,_,rfl,_,_,rfl,⟨P1.1,_,rfl,SqT.of p4,rfl,_,_,rfl,_,_,rfl,_,_,rfl,rfl,rfl,?_⟩⟩;refine⟨_,rfl,_,rfl,Jx,λt1 ht1=>?_⟩;have s5:=IM ht1 (.tup [eV P1.2.2.1,eV P1.2.2.2]);have e5:(IC H4 t1 (.tup [eV P1.2.2.1,eV P1.2.2.2])) t1=some (.tup [eV P1.2.2.1,eV P1.2.2.2]):=IE;generalize IC H4 t1 (.tup [eV P1.2.2.1,eV P1.2.2.2])=H5 at*;refine⟨_,rfl,_,rfl,mr,_,_,_,rfl,rfl,SqT.of (s5 _ _ hA4),hat,M1.1,_,1,_,rfl,rfl,SqT.of (s5 _ _ q4),rfl,_,rfl,_,rfl,mr,_,_,_,rfl,rfl,SqT.of (s5 _ _ hA4),hat,M1.1,_,2,_,rfl,rfl,SqT.of (s5 _ _ q4),rfl,Jx,λt2 ht2=>?_⟩;have s6:=IM ht2 (.tup [eV M1.2.2.1,eV M1.2.2.2]);have e6:(IC H5 t2 (.tup [eV M1.2.2.1,eV M1.2.2.2])) t2=some (.tup [eV M1.2.2.1,eV M1.2.2.2]):=IE;generalize IC H5 t2 (.tup [eV M1.2.2.1,eV M1.2.2.2])=H6 at*;refine⟨.ref t1,.ref t2,P1.2.2,M1.2.2,rfl,⟨t1,rfl,s6 _ _ e5⟩,⟨t2,rfl,e6⟩,m2,λr ss H7 nr7 s7 f7 e7 g7=>?_⟩;have t7:=s5.trans (s6.trans s7);have S7:=S4.trans t7;have nr:r≠pr:=λz'=>by rw[z',s6 _ _ (s5 _ _ f4)] at nr7;cases nr7
   refine⟨r,rfl,⟨_,SqL.of e7⟩,L_ (K:=K) (a:=r) (xs:=ss.map λx=>V.ref x.1) (λj σ H'=>(∃y8 y9,σ=[some (.ref a),some (.ref b),some (.ref mr),some (.ref pr),some (.int (i:Int)),some (.str P1.2.1),some (eV P1.2.2.1),some (eV P1.2.2.2),y8,y9])∧Same H H'∧Tups H7 H'∧H' r=some (.lst (ss.map λx=>V.ref x.1))∧∃us:List (Addr×List WP),H' pr=some (.lst (us.map λz=>V.ref z.1))∧us.map (·.2)=(BU i).flatMap (KW w' m)++((ss.take j).map λx=>m.take i++[(P1.2.1,x.2)]++w'.drop (i+1))∧∀z∈us,WishAt H' z.1 z.2) ?_ (λj σ H' _ ⟨_,_,_,z,_⟩=>SqL.of z) ?_ ?_⟩
   · exact⟨⟨_,_,rfl⟩,S7,λ_ _ z=>z,e7,us,t7 _ _ f4,by rw[u3];simp,λz' hz'=>(v4 z' hz').same t7⟩
   · rintro j x σ H8 hx ⟨⟨y8',y9',rfl⟩,s8,t8,r8,us8,e8,u8,v8⟩;obtain⟨N1,es,rfl⟩:=IU hx;have n8:=t8 _ _ (g7 N1 (Ag es));have hA8:=t8 _ _ (t7.tups _ _ hA4);have hB8:=t8 _ _ (t7.tups _ _ hB4);have lss:ss.length≤2:=by
      have h1:=congrArg Be f7;rw[Ab] at h1;have h2:=Oc P1.2.2 M1.2.2;omega
     have lus:us8.length≤100:=by have h1:=congrArg Be u8;rw[Ab,A6,Ab,AE] at h1;have h2:=cl (BU i);rw[Df] at h2;omega
     refine⟨N1.1,_,rfl,SqT.of n8,rfl,_,_,rfl,_,_,rfl,rfl,?_⟩;refine⟨_,rfl,.inl ⟨rfl,_,SqL.of e8⟩,_,rfl,_,rfl,_,rfl,mr,_,rfl,hA8,λp1 H9 s9 e9=>?_⟩;rw[VS rfl,←Ey] at e9;refine⟨_,rfl,_,rfl,_,rfl,NN,λc1 hc1=>?_⟩;have s10:=IM hc1 (.tup [V.str P1.2.1,eV N1.2.1,eV N1.2.2]);have e10:(IC H9 c1 (.tup [V.str P1.2.1,eV N1.2.1,eV N1.2.2])) c1=some (.tup [V.str P1.2.1,eV N1.2.1,eV N1.2.2]):=IE;generalize IC H9 c1 (.tup [V.str P1.2.1,eV N1.2.1,eV N1.2.2])=H10 at*;refine⟨LA,λc2 hc2=>?_⟩;have s11:=IM hc2 (.tup [V.ref c1]);have e11:(IC H10 c2 (.tup [V.ref c1])) c2=some (.tup [V.ref c1]):=IE;generalize IC H10 c2 (.tup [V.ref c1])=H11 at*;refine⟨p1,c2,_,_,rfl,rfl,s11 _ _ (s10 _ _ e9),e11,(by rw[Ab,AE];exact MF (by simp;omega)),λd1 H12 s12 e12=>?_⟩;have t11:=s9.trans (s10.trans s11);refine⟨_,rfl,_,rfl,_,_,rfl,rfl,_,rfl,a,_,rfl,s12 _ _ (t11 _ _ hB8),λp2 H13 s13 e13=>?_⟩;rw[VR (n:=i+1) (by omega),←List.map_drop] at e13;refine⟨d1,p2,_,_,rfl,rfl,s13 _ _ e12,e13,(by rw[A6,Ab,AE,Ab,D6];exact MF (by simp;omega)),λd2 H14 s14 e14=>?_⟩;have t14:=t11.trans (s12.trans (s13.trans s14));have NK:((ms.take i).map λp:Addr×WP=>V.ref p.1)++[V.ref c1]++(ws.drop (i+1)).map (λp:Addr×WP=>V.ref p.1)=(ms.take i++[((c1,P1.2.1,N1.2):Addr×WP)]++ws.drop (i+1)).map λp:Addr×WP=>V.ref p.1:=by simp
     rw[NK] at e14;have W14:WishAt H14 d2 (m.take i++[(P1.2.1,N1.2)]++w'.drop (i+1)):=by
      refine⟨_,?_,e14,λy hy=>?_⟩
      · rw[Aq,Aq,Ey,hms,List.map_drop,hws];rfl
      · rcases A3.mp hy with y1 | y1
        · rcases A3.mp y1 with y2 | y2
          · exact t14 _ _ (t8 _ _ (t7.tups _ _ (t4 _ _ (s2 _ _ (hP y (BW y2))))))
          · rw[Aj.mp y2];exact s14 _ _ (s13 _ _ (s12 _ _ (s11 _ _ e10)))
        · exact t14 _ _ (t8 _ _ (t7.tups _ _ (t4 _ _ (s2 _ _ (hR y (EF y1))))))
     have f14:=t14 _ _ e8;refine⟨pr,_,_,rfl,rfl,f14,(by rw[Ab];exact J7 (by omega)),?_⟩;have tl:=LJ (o:= .lst (us8.map (λq=>V.ref q.1)++[V.ref d2])) f14;refine⟨⟨_,_,rfl⟩,JP (s8.trans t14) np,(t8.trans t14.tups).trans tl,by rw[IZ nr];exact t14 _ _ r8,us8++[(d2,m.take i++[(P1.2.1,N1.2)]++w'.drop (i+1))],by rw[IE,Aq];rfl,?_,λy hy=>?_⟩
     · rw[Aq,u8,Jt es,Aq,Dc];rfl
     · rcases A3.mp hy with y1 | y1
       · exact((v8 y y1).same t14).keep tl
       · rw[Aj.mp y1];exact W14.keep tl
   · rintro σ H8 ⟨⟨y8',y9',rfl⟩,s8,t8,r8,us8,e8,u8,v8⟩;refine⟨⟨_,_,_,_,_,_,rfl⟩,s8,(t4.trans t7.tups).trans t8,us8,e8,?_,v8⟩;have et:ss.take (ss.map λx=>V.ref x.1).length=ss:=A0 (by simp);rw[u8,et,List.range_succ,EQ];congr 1;rw[Dy,List.flatMap_nil,Du];unfold KW;rw[ewP,emP];show _=(KD P1.2.2 M1.2.2).map _;rw[←f7,Bx];rfl
 · rintro σ H3 ⟨⟨y4,y5,y6,y7,y8,y9,rfl⟩,s3,t3,us,e3,u3,v3⟩;rw[Ab,lws] at u3;refine⟨_,rfl,q pr _ np s3 ?_ ?_⟩
   · rw[e1];exact⟨us,u3,e3,v3⟩
   · rw[e1];exact VP kw ko im ap h1
theorem zeI(F:Fun K "parts_beside" "parts_beside" PU f fd)(HU:Γ22 P w K mg base):FnOk P w K mg base Jc 4 f fd ["wish","others"] (Uv):=by
 refine F.ok Hc (λvs H Q E h=>?_) (λcdv A outer s H vs Q E hr h=>?_)
 · obtain⟨a,l,w',os,rfl,hw,kw,lw,hl,lo,lx,q⟩:=h;rfl
 obtain⟨a,l,w',os,rfl,hw,kw,lw,hl,lo,lx,q⟩:=h;refine⟨_,(II (IY (i:=2) Hc.nd rfl (Or.inl rfl) (Kb (I0 (pv 0) IB)))
  (II (Kj AV rfl (JO (pv 1)) (IP (i:=3) Hc.nd rfl (Or.inr rfl)) (IL (zky (N':=["part","smaller","other"]) (js:=[none,none,some 3]) (i:=2) Hc.nd rfl (Or.inl rfl) rfl (JE (N:=["wish","others","parts","other"]) (outer:=IQ PU) (by decide+kernel)) (JO (pv 2)) (λ_ _ _ _ _=>(IP (i:=0) O3 rfl (Or.inl rfl))) (λ_ _ _ _ _=>K8) (λ_ _ _ _ _=>(Vi K rfl (IS HU (hr.mono (by decide)) rfl (I0 (pv 0) (I0 (pv 2) IB))))) (λ_ _ _ _ _=>(IP (i:=1) O3 rfl (Or.inl rfl))) (λ_ _ _ _ _=>K8) (λ_ _ _ _ _=>(pv 1)))))
  (IL (IT (pv 2))))),?_⟩
 refine⟨_,rfl,LA,λr0 hr0=>?_⟩;have s1:=IM hr0 (.lst [V.ref a]);have e1:(IC H r0 (.lst [V.ref a])) r0=some (.lst [V.ref a]):=IE;generalize IC H r0 (.lst [V.ref a])=H1 at*;have hl1:=hl.same s1;refine⟨_,rfl,l,rfl,⟨_,SqL.of hl1.at'⟩,L_ (K:=K) (a:=l) (xs:=os.map λx=>V.ref x.1) (λi σ H'=>(∃r y3,σ=[some (.ref a),some (.ref l),some (.ref r),y3]∧Nj H' r (IH w' ((os.map (·.2)).take i)))∧Same H H'∧AllOk w' ((os.map (·.2)).take i) (IH w' ((os.map (·.2)).take i))) ⟨⟨r0,none,rfl,[(a,w')],rfl,e1,λx hx=>by rw[Aj.mp hx];exact hw.same s1⟩,s1,all_nil kw⟩ (λi σ H' _ ⟨_,z,_⟩=>SqL.of (z _ _ hl.at')) ?_ ?_⟩
 · rintro i x σ H2 hx ⟨⟨r,y3,rfl,qs,q1,q2,q3⟩,s2,A2⟩;obtain⟨O1,ex,rfl⟩:=IU hx;have hm:=Ag ex;have eo:(os.map (·.2))[i]?=some O1.2:=by rw[Af,ex];rfl
   have li:i<7:=by have:=(An.mp ex).1;omega
   have okq:∀x∈qs,WOk x.2∧x.2.length≤3:=λx hx=>by obtain⟨a1,a2⟩:=A2.ok x.2 (by rw[←q1];exact Az hx);have:=congrArg Be a2;simp only[Ab] at this;exact⟨a1,by omega⟩
   have lq:qs.length≤7^7:=by have h1:=A2.len;rw[←q1,Ab,AE,Ab] at h1;exact AD h1 (GJ (by decide) (by omega))
   by_cases hb:∀x∈qs,OneOk x.2 O1.2 (one x.2 O1.2)
   · refine⟨_,rfl,r,rfl,⟨_,SqL.of q2⟩,λp hp=>?_⟩;refine zkZ (cap:=[some (.ref O1.1)]) qs (λp=>one p O1.2) (SqL.of q2) hp rfl (λx hx=>by have h1:=(hb x hx).len;have h2:=(okq x hx).2;omega) lq q3 (λx hx y H' R s' hR=>?_) (λu v H' R h=>⟨_,rfl,h⟩) λH3 zs s3 z1 z2 z3=>?_
     · refine⟨_,rfl,_,rfl,x.1,O1.1,x.2,O1.2,rfl,(q3 x hx).same s',(hl.ok O1 hm).1.same (s2.trans s'),(okq x hx).1,(hl.ok O1 hm).2,by have:=(okq x hx).2;omega,lx O1 hm,λrr H4 nr s4 ps ok=>?_⟩;obtain⟨rs,r1,r2,r3⟩:=ps;exact⟨rr,rfl,⟨_,SqL.of r2⟩,hR rr rs H4 nr s4 r2 r1 r3⟩
     · have e3:zs.map (·.2)=IH w' ((os.map (·.2)).take (i+1)):=by
        rw[z1,Jt eo,Rg,←q1,List.flatMap_map]
       refine⟨⟨p,_,rfl,zs,e3,z2,z3⟩,s2.trans s3,?_⟩;rw[Jt eo,Rg];refine Vq A2 lw λp hp=>?_;rw[←q1] at hp;obtain⟨x,hx,rfl⟩:=AB.mp hp;exact hb x hx
   · exact absurd (λx hx=>Vf (okq x hx).1 (hl.ok O1 hm).2) hb
 · rintro σ H2 ⟨⟨r,y3,rfl,P2⟩,s2,A2⟩;rw[Ab,A0 (by simp)] at A2;rw[Ab,A0 (by simp)] at P2;exact⟨_,rfl,q r _ s2 P2 A2⟩
theorem zeH(F:Fun K "piece_beside" "piece_beside" PV f fd)(HV:Γ23 P w K mg base)(HW:Γ5 P w K mg base):FnOk P w K mg base Jc 5 f fd ["wish","others"] (Ww):=by
 refine F.ok Hd (λvs H Q E h=>?_) (λcdv A outer s H vs Q E hr h=>?_)
 · obtain⟨a,l,w',os,rfl,hw,kw,lw,hl,lo,lx,q⟩:=h;rfl
 obtain⟨a,l,w',os,rfl,hw,kw,lw,hl,lo,lx,q⟩:=h;refine⟨_,(II (IY (i:=2) Hd.nd rfl (Or.inl rfl) (IS HV (hr.mono (by decide)) rfl (I0 (pv 0) (I0 (pv 1) IB))))
  (II (Jo (Kk (zl6 (pv 2) (λ_=>rfl))) (IL (IT Le)) Jm)
  (IL (IT (MZ PY rfl B.tuple_ Lk (I0 (K5 (N':=["field","low","high"]) (js:=[none,none,none]) rfl (JE (N:=["wish","others","parts"]) (outer:=IQ PV) (by decide+kernel)) (KQ (Jf JV (pv 2) IF (λ_ _=>rfl))) (λ_ _ _ _ _=>(NW K rfl (n:=3) rfl (Jg (IP (i:=0) K0 rfl (Or.inl rfl)) (Jg (IP (i:=1) K0 rfl (Or.inl rfl)) (Jg (IP (i:=2) K0 rfl (Or.inl rfl)) Kh))))) (λ_ _ _ _ _=>K8) (λ_ _ _ _ _=>(J0 (I0 (pv 0) (I0 (IS HW (hr.mono (by decide)) rfl (I0 (J0 (I0 (pv 1) (I0 (pv 2) IB))) IB)) IB))))) IB)))))),?_⟩
 refine⟨_,rfl,_,rfl,a,l,w',os,rfl,hw,kw,lw,hl,lo,lx,λr H1 s1 P1 A1=>?_⟩;obtain⟨qs,q1,q2,q3⟩:=P1;have tr:Nh K (.ref r) H1 (!(qs.map λx=>V.ref x.1).isEmpty):= .inl ⟨_,SqL.of q2,rfl⟩;cases qs with
 | nil=> refine⟨_,rfl,_,tr,ID ?_⟩;refine q .non H1 s1 ?_ A1;rw[←q1];rfl
 | cons q0 qs=>
  refine⟨_,rfl,_,tr,IA ?_⟩;have e0:IH w' (os.map (·.2))=q0.2::qs.map (·.2):=q1.symm;obtain⟨k0,f0⟩:=A1.ok q0.2 (by rw[e0];exact Ao);obtain⟨ps,hps,hA,hP⟩:=q3 q0 Ao;have lps:ps.length≤100:=by have:=k0.len;rw[←hps,Ab] at this;exact this
  refine⟨_,rfl,r,_,0,_,rfl,rfl,SqL.of q2,Qj,q0.1,rfl,⟨_,SqT.of hA⟩,λp hp=>?_⟩;refine Pb (xs:=ps.map λp=>V.ref p.1) (λj σ' ys H2=>(∃v1 v2 v3,σ'=[v1,v2,v3])∧Same H1 H2∧H2 p=some (.lst ys)∧∃ts:List (Addr×PP),ys=ts.map (λt=>V.ref t.1)∧ts.map (·.2)=K7 ((ps.map (·.2)).take j)∧∀t∈ts,H2 t.1=some (.tup [.str t.2.1,.int t.2.2])) ⟨⟨none,none,none,rfl⟩,IM hp _,IE,[],rfl,rfl,λt ht=>by simp at ht⟩ ?_ ?_ ?_
  · rintro j σ' ys H2 hj ⟨_,s2,h1,ts,rfl,h3,_⟩;refine⟨s2.seqT (SqT.of hA),h1,?_⟩;have:=congrArg Be h3;unfold K7 at this;rw[Ab,Ab,AE,Ab] at this;rw[Ab];exact J7 (by omega)
  · rintro j y σ' ys H2 N hy ⟨⟨v1,v2,v3,rfl⟩,s2,h1,ts,rfl,h3,h4⟩ hN;obtain⟨P2,e2,rfl⟩:=IU hy;have hm2:=Ag e2;have ep:(ps.map (·.2))[j]?=some P2.2:=by rw[Af,e2];rfl
    refine⟨P2.1,_,rfl,SqT.of (s2 _ _ (hP P2 hm2)),rfl,_,_,rfl,_,_,rfl,_,_,rfl,rfl,?_⟩;refine⟨_,rfl,_,rfl,_,rfl,Jx,λu hu=>?_⟩;have su:=IM hu (.tup [eV P2.2.2.1,eV P2.2.2.2]);have eu:(IC H2 u (.tup [eV P2.2.2.1,eV P2.2.2.2])) u=some (.tup [eV P2.2.2.1,eV P2.2.2.2]):=IE;generalize IC H2 u (.tup [eV P2.2.2.1,eV P2.2.2.2])=H3 at*;refine⟨.ref u,P2.2.2.1,P2.2.2.2,rfl,⟨u,rfl,eu⟩,Jx,λt ht=>?_⟩;have st:=IM ht (.tup [V.str P2.2.1,V.int (MH P2.2.2.1 P2.2.2.2)]);have s5:=su.trans st;have h5:=s5 _ _ h1;have tl:=LJ (o:= .lst (ts.map (λq=>V.ref q.1)++[V.ref t])) h5;refine⟨h5,hN _ _ _ ⟨⟨_,_,_,rfl⟩,JP (s2.trans s5) hp,IE,ts++[(t,P2.2.1,MH P2.2.2.1 P2.2.2.2)],?_,?_,?_⟩⟩
    · rw[Aq];rfl
    · rw[Aq,h3,Jt ep];unfold K7;rw[Aq];rfl
    · intro q hq;rcases A3.mp hq with z | z
      · exact tl _ _ (s5 _ _ (h4 q z))
      · rw[Aj.mp z];exact tl _ _ IE
  · rintro σ' ys H2 ⟨_,s2,h1,ts,rfl,h3,h4⟩;rw[Ab,A0 (by simp),hps] at h3;refine⟨p,_,rfl,.inl ⟨SqL.of h1,λt ht=>?_⟩⟩;have s3:=IM ht (.tup (ts.map λt=>V.ref t.1));refine q _ _ (s1.trans (s2.trans s3)) ?_ A1;rw[e0];exact⟨t,rfl,ts,h3,IE,λx hx=>s3 _ _ (h4 x hx)⟩
theorem zgI(F:Fun K "fields_of" "fields_of" P8 f fd)  :FnOk P w K mg base Jc 1 f fd ["wishes"] (Wd):=by
 refine F.ok zgo (λvs H Q E h=>?_) (λcdv A outer s H vs Q E hr h=>?_)
 · obtain⟨l,ws,fs,rfl,hw,lf,hin,q⟩:=h;rfl
 obtain⟨l,ws,fs,rfl,hw,lf,hin,q⟩:=h;refine⟨_,(IL (IT (zjp (N':=["wish","field","low","high"]) (js:=[none,none,none,none]) rfl B.sorted_ rfl (JE (N:=["wishes"]) (outer:=IQ P8) (by decide+kernel)) (JO (pv 0)) (λ_ _ _ _ _=>(IP (i:=0) Mf rfl (Or.inl rfl))) (λ_ _ _ _ _=>K8) (λ_ _ _ _ _=>(Yu K rfl (pv 0))) (λ_ _ _ _ _=>(NW K rfl (n:=3) rfl (Jg (IP (i:=1) Mf rfl (Or.inl rfl)) (Jg (IP (i:=2) Mf rfl (Or.inl rfl)) (Jg (IP (i:=3) Mf rfl (Or.inl rfl)) Kh))))) (λ_ _ _ _ _=>K8) (λ_ _ _ _ _=>(pv 1))))),?_⟩;refine⟨_,rfl,l,rfl,⟨_,SqL.of hw.at'⟩,?_⟩;refine zji ws fs (SqL.of hw.at') (λx hx=>(hw.ok x hx).1) hin lf rfl (λx hx y1 y2 y3 R h1 h2=>⟨_,rfl,x.1,rfl,h1,h2⟩) (λx0 y1 y2 y3 p R h1 h2=>⟨p.1,_,rfl,SqT.of h1,rfl,_,_,rfl,_,_,rfl,_,_,rfl,rfl,h2⟩) (λx0 y2 y3 f R h=>⟨_,rfl,h⟩) λks nd l6 mem=>?_;exact⟨by omega,λp ms mp mn so hp=>q p ms _ (IM hp _) hp IE mn so λf=>(mp.mem_iff).trans (mem f)⟩
theorem zgJ(F:Fun K "check_few" "check_few" Ri f fd)  :FnOk P w K mg base Jc 1 f fd ["wishes","fields"] (SN):=by
 refine F.ok zgp (λvs H Q E h=>?_) (λcdv A outer s H vs Q E hr h=>?_)
 · obtain⟨l,f',xs,ys,rfl,hl,hf,lx,ly,q⟩:=h;rfl
 obtain⟨l,f',xs,ys,rfl,hl,hf,lx,ly,q⟩:=h;refine⟨_,(II (Jo (Jn Mt (Jd Kw rfl B.len_ JZ (I0 (pv 0) IB)) (Pl (v:= .int 7) rfl qMW' ⟨_,rfl⟩) (Ji _)) (IL QT) Jm)
  (IL (Jo (Jn Mt (Jd Kw rfl B.len_ JZ (I0 (pv 1) IB)) (Pl (v:= .int 3) rfl qMF' ⟨_,rfl⟩) (Ji _)) (IL QT) Jm))),?_⟩
 refine⟨_,rfl,l,_,rfl,.inl (SqL.of hl),_,_,rfl,rfl,_,rfl,Je (λh=>absurd (of_decide_eq_true h) (by omega)) (λ_=>?_)⟩;exact⟨_,rfl,f',_,rfl,.inl (SqL.of hf),_,_,rfl,rfl,_,rfl,Je (λh=>absurd (of_decide_eq_true h) (by omega)) (λ_=>q)⟩
theorem zju(F:Fun K "all_but" "all_but" P3 f fd)  :FnOk P w K mg base Jc 1 f fd ["wish","wishes"] (UH):=by
 refine F.ok zjh (λvs H Q E h=>?_) (λcdv A outer s H vs Q E hr h=>?_)
 · obtain⟨a,l,w',ws,rfl,hw,hl,q⟩:=h;rfl
 obtain⟨a,l,w',ws,rfl,hw,hl,q⟩:=h;refine⟨_,(IL (IT (K5 (N':=["other","wish"]) (js:=[none,some 0]) rfl (JE (N:=["wish","wishes"]) (outer:=IQ P3) (by decide+kernel)) (JO (pv 1)) (λ_ _ _ _ _=>(IP (i:=0) OH rfl (Or.inl rfl))) (λ_ _ _ _ _=>K_ (Jn (Q7 K rfl (KR hr)) (pv 0) (pv 1) (Ji _))) (λ_ _ _ _ _=>(pv 0))))),?_⟩;refine⟨_,rfl,l,rfl,⟨_,SqL.of hl.at'⟩,λp hp=>?_⟩;refine Lj (xs:=ws.map λx=>V.ref x.1) (λi σ' ys H'=>(∃v,σ'=[v,some (.ref a)])∧Same H H'∧H' p=some (.lst ys)∧ys=(Ju w' (ws.take i)).map λx=>V.ref x.1) ⟨⟨none,rfl⟩,IM hp _,IE,rfl⟩ ?_ ?_ ?_
 · rintro i σ' ys H' hi ⟨_,s,h1,h2⟩;refine⟨s.seq (SqL.of hl.at'),h1,?_⟩;rw[h2,Ab];have h3:=Oa w' (ws.take i);rw[AE] at h3;have:=hl.len;exact J7 (by omega)
 · rintro i x σ' ys H2 N hx ⟨⟨v,rfl⟩,s2,h1,h2⟩ hN;obtain⟨O1,e1,rfl⟩:=IU hx;obtain⟨o1,o2⟩:=hl.ok O1 (Ag e1);refine⟨_,rfl,_,rfl,dW O1.2,dW w',Lp (o1.same s2),Lp (hw.same s2),Bn (Ny _) (by decide),?_⟩;rw[Nx];by_cases e:O1.2=w'
   · rw[decide_eq_true e];refine⟨_,rfl,IA (hN _ _ _ ⟨⟨_,rfl⟩,s2,h1,?_⟩)⟩;rw[h2,P7 e1,if_pos e];simp
   · rw[decide_eq_false e];refine⟨_,rfl,ID ⟨_,rfl,h1,hN _ _ _ ⟨⟨_,rfl⟩,JP s2 hp,IE,?_⟩⟩⟩;rw[h2,P7 e1,if_neg e,Aq];rfl
 · rintro σ' ys H2 ⟨_,s2,h1,rfl⟩;rw[Ab,Bd] at h1;exact q p H2 s2 hp h1
theorem Yr(F:Fun K "lean" "lean" OX f fd)(HN:Γ11 P w K mg base)(HX:Γ26 P w K mg base)(HY:Γ20 P w K mg base)(HZ:Γ25 P w K mg base)(H_:Γ27 P w K mg base)(Ia:Γ24 P w K mg base):FnOk P w K mg base Jc 9 f fd ["wishes"] (Ts):=by
 refine F.ok He (λvs H Q E h=>?_) (λcdv A outer s H vs Q E hr h=>?_)
 · obtain⟨l,ws,fs,rfl,hw,l7,l3,hin,q⟩:=h;rfl
 obtain⟨l,ws,fs,rfl,hw,l7,l3,hin,q⟩:=h;refine⟨_,(II (L0 (IS HN (hr.mono (by decide)) rfl (I0 (pv 0) IB)))
  (II (L0 (IS HX (hr.mono (by decide)) rfl (I0 (pv 0) (I0 (IS HZ (hr.mono (by decide)) rfl (I0 (pv 0) IB)) IB))))
  (II (IY (i:=1) He.nd rfl (Or.inr rfl) (IS HY (hr.mono (by decide)) rfl (I0 (pv 0) IB)))
  (II (Kj AV rfl (XO rfl B.reversed_ (I0 (IS HY (hr.mono (by decide)) rfl (I0 (pv 0) IB)) IB)) (IP (i:=2) He.nd rfl (Or.inl rfl)) (II (IY (i:=3) He.nd rfl (Or.inl rfl) (IS H_ (hr.mono (by decide)) rfl (I0 (pv 2) (I0 (pv 1) IB))))
  (IL (Jo (JU (Ku (IS Ia (hr.mono (by decide)) rfl (I0 (pv 2) (I0 (pv 3) IB))))) (IL (IY (i:=1) He.nd rfl (Or.inr rfl) (pv 3))) Jm))))
  (IL (IT (K5 (N':=["wish","stay"]) (js:=[none,some 1]) rfl (JE (N:=["wishes","stay","wish","others"]) (outer:=IQ OX) (by decide+kernel)) (JO (pv 1)) (λ_ _ _ _ _=>(IP (i:=0) OG rfl (Or.inl rfl))) (λ_ _ _ _ _=>K8) (λ_ _ _ _ _=>(J0 (I0 (pv 0) (I0 (IS Ia (hr.mono (by decide)) rfl (I0 (pv 0) (I0 (IS H_ (hr.mono (by decide)) rfl (I0 (pv 0) (I0 (pv 1) IB))) IB))) IB))))))))))),?_⟩
 refine⟨_,rfl,l,ws,rfl,hw,λH1 s1=>?_⟩;have hw1:=hw.same s1;refine⟨_,rfl,_,rfl,l,ws,fs,rfl,hw1,by omega,hin,λfr ms H2 s2 nf e2 nd so mem=>?_⟩;have lm:ms.length≤fs.length:=VF nd λf hf'=>by obtain⟨x,hx,hf2⟩:=(mem f).mp hf';obtain⟨p',hp',rfl⟩:=AB.mp hf2;exact hin x hx p' hp'
 have hw2:=hw1.same s2;refine⟨l,fr,_,_,rfl,hw2.at',e2,by rw[Ab];exact l7,by rw[Ab];omega,?_⟩;refine⟨_,rfl,l,ws,rfl,hw2,l7,λsr qs H3 s3 nsr T3 srt3=>?_⟩;have hw3:=hw2.same s3;refine⟨_,rfl,l,ws,rfl,hw3,l7,λgr rs H4 s4 ngr T4 srt4=>?_⟩;have eq1:rs.map (·.2)=qs.map (·.2):=UP T4.2.2.1 T3.2.2.1 srt4 srt3;have hw4:=hw3.same s4;have lq:qs.length≤7:=AD T3.2.2.2 l7;have lr:rs.length=qs.length:=by have:=congrArg Be eq1;simpa using this
 have k3:∀x∈ws,x.2.length≤3:=λx hx=>AD (QH (hw.ok x hx).2 (hin x hx)) l3;have t4:=s1.trans (s2.trans (s3.trans s4));have lI:∀(st:List (Addr×List WP))(i:Nat),st.map (·.2)=Jl (qs.map (·.2)) i→st.length≤7:=λst i e=>by have h1:=(MX (qs.map (·.2)) i).length_le;rw[←e,Ab,Ab] at h1;omega
 refine⟨gr,_,rfl,SqL.of T4.1,YF (K:=K) (a:=gr) (xs:=rs.map λx=>V.ref x.1) (λi σ H'=>(∃(r:Addr)(y2 y3:Option V)(st:List (Addr×List WP)),σ=[some (.ref l),some (.ref r),y2,y3]∧H' r=some (.lst (st.map λx=>V.ref x.1))∧st.map (·.2)=Jl (qs.map (·.2)) i∧∀x∈st,x∈ws)∧Same H4 H') ⟨⟨sr,none,none,qs,rfl,s4 _ _ T3.1,rfl,T3.2.1⟩,Same.refl _⟩ (λi σ H' _ ⟨_,z⟩=>SqL.of (z _ _ T4.1)) ?_ ?_⟩
 · rintro i x σ H5 hi hx ⟨⟨r,y2,y3,st,rfl,e5,v5,m5⟩,s5⟩;rw[Ab] at hi hx;rw[Af] at hx;cases e1:rs[rs.length - 1 - i]? with
   | none=>rw[e1] at hx;cases hx
   | some X1=>
    rw[e1] at hx;obtain rfl:V.ref X1.1=x:=A4 hx;have mX:=T4.2.1 X1 (Ag e1);have er:(qs.map (·.2)).reverse[i]?=some X1.2:=by rw[←eq1,List.getElem?_reverse (by simpa using hi),Ab,Af,e1];rfl
    have hw5:=hw4.same s5;have l5:=lI st i v5;have S5:WsAt H5 r st:=⟨e5,λx hx=>hw5.ok x (m5 x hx),by omega⟩;refine⟨_,rfl,_,rfl,X1.1,r,X1.2,st,rfl,(hw5.ok X1 mX).1,S5,λos H6 s6 nos e6=>?_⟩;have hw6:=hw5.same s6;have l6:=Oa X1.2 st;have O6:WsAt H6 os (Ju X1.2 st):=⟨e6,λx hx=>hw6.ok x (m5 x (NB hx)),by omega⟩;refine⟨_,rfl,_,rfl,X1.1,os,X1.2,_,rfl,(hw6.ok X1 mX).1,(hw6.ok X1 mX).2,k3 X1 mX,O6,by omega,λx hx=>AD (k3 x (m5 x (NB hx))) (by decide),λv H7 s7 T7 A7=>?_⟩;have ev:=QV X1.2 st;have nx:=PN er;unfold Kd at nx;rw[←v5,←ev] at nx;cases ep:IH X1.2 ((Ju X1.2 st).map (·.2)) with
    | nil=> rw[ep] at T7 nx;obtain rfl:v= .non:=T7;exact⟨_,rfl,ID ⟨_,rfl,⟨os,_,_,Ju X1.2 st,rfl,s7 _ _ e6,nx.symm,λx hx=>m5 x (NB hx)⟩,s5.trans (s6.trans s7)⟩⟩
    | cons p0 ps0=> rw[ep] at T7 nx;obtain⟨t,rfl,_⟩:=T7;exact⟨_,rfl,IA ⟨⟨r,_,_,st,rfl,(s6.trans s7) _ _ e5,nx.symm,m5⟩,s5.trans (s6.trans s7)⟩⟩
 · rintro σ H5 ⟨⟨r,y2,y3,st,rfl,e5,v5,m5⟩,s5⟩;rw[Ab,lr] at v5;have l5:=lI st _ v5;have v6:st.map (·.2)=Jz (qs.map (·.2)):=by unfold Jz;rw[Ab];exact v5
   have hw5:=hw4.same s5;have S5:WsAt H5 r st:=⟨e5,λx hx=>hw5.ok x (m5 x hx),by omega⟩;refine⟨_,rfl,r,rfl,⟨_,SqL.of e5⟩,λp hp=>?_⟩;refine Lj (xs:=st.map λx=>V.ref x.1) (λi σ' ys H'=>(∃v,σ'=[v,some (.ref r)])∧Same H5 H'∧H' p=some (.lst ys)∧∃ts:List (Addr×Addr×V×List WP),ys=ts.map (λt=>V.ref t.1)∧ts.map (·.2.2.2)=(st.map (·.2)).take i∧∀t∈ts,H' t.1=some (.tup [.ref t.2.1,t.2.2.1])∧WishAt H' t.2.1 t.2.2.2∧WOk t.2.2.2∧ToldPc H' t.2.2.1 (IH t.2.2.2 (JH t.2.2.2 (st.map (·.2))))) ⟨⟨none,rfl⟩,IM hp _,IE,[],rfl,rfl,λt ht=>by simp at ht⟩ ?_ ?_ ?_
   · rintro i σ' ys H' hi ⟨_,s,h1,ts,rfl,h2,_⟩;refine⟨s.seq (SqL.of e5),h1,?_⟩;have:=congrArg Be h2;rw[Ab,AE,Ab] at this;rw[Ab];exact J7 (by omega)
   · rintro i x σ' ys H6 N hx ⟨⟨v,rfl⟩,s6,h1,ts,rfl,h2,h3⟩ hN;obtain⟨X1,e1,rfl⟩:=IU hx;have mX:=m5 X1 (Ag e1);have hw6:=hw5.same s6;have l6:=Oa X1.2 st;refine⟨_,rfl,_,rfl,_,rfl,_,rfl,X1.1,r,X1.2,st,rfl,(hw6.ok X1 mX).1,S5.same s6,λos H7 s7 nos e7=>?_⟩;have hw7:=hw6.same s7;have O7:WsAt H7 os (Ju X1.2 st):=⟨e7,λx hx=>hw7.ok x (m5 x (NB hx)),by omega⟩;refine⟨X1.1,os,X1.2,_,rfl,(hw7.ok X1 mX).1,(hw7.ok X1 mX).2,k3 X1 mX,O7,by omega,λx hx=>AD (k3 x (m5 x (NB hx))) (by decide),λv' H8 s8 T8 A8=>?_⟩;rw[QV] at T8;refine⟨Jx,λt ht=>?_⟩;have s9:=IM ht (.tup [V.ref X1.1,v']);have e9:(IC H8 t (.tup [V.ref X1.1,v'])) t=some (.tup [V.ref X1.1,v']):=IE;have hw9:=(hw7.same s8).same s9;have T9:=T8.same s9;have s79:=s7.trans (s8.trans s9);generalize IC H8 t (.tup [V.ref X1.1,v'])=H9 at*;have h9:=s79 _ _ h1;have tl:=LJ (o:= .lst (ts.map (λt=>V.ref t.1)++[V.ref t])) h9;refine⟨h9,hN _ _ _ ⟨⟨_,rfl⟩,JP (s6.trans s79) hp,IE,ts++[(t,X1.1,v',X1.2)],by rw[Aq];rfl,?_,λu hu=>?_⟩⟩
     · rw[Aq,h2,Jt (show(st.map (·.2))[i]?=some X1.2 by rw[Af,e1];rfl)];rfl
     · rcases A3.mp hu with z | z
       · obtain⟨u1,u2,u3,u4⟩:=h3 u z;exact⟨tl _ _ (s79 _ _ u1),(u2.same s79).keep tl,u3,(u4.same s79).keep tl⟩
       · rw[Aj.mp z];exact⟨tl _ _ e9,(hw9.ok X1 mX).1.keep tl,(hw9.ok X1 mX).2,T9.keep tl⟩
   · rintro σ' ys H6 ⟨_,s6,h1,ts,rfl,h2,h3⟩;rw[Ab,A0 (by simp)] at h2;have t6:=t4.trans (s5.trans s6);refine q p _ ts H6 t6 ((t4.trans s5).free hp) T3.2.2.1 srt3 ⟨h1,h2.trans v6,λt ht=>?_⟩;rw[←v6];exact h3 t ht
theorem zhA(F:Fun K "_law_well" "_law_well" Oe f fd)  :FnOk P w K mg base Jc 1 f fd ["script"] (TF K):=by
 refine F.ok Hf (λvs H Q E h=>?_) (λcdv A outer s H vs Q E hr h=>?_)
 · obtain⟨a,ns,rfl,hS,h63,q⟩:=h;rfl
 obtain⟨a,ns,rfl,hS,h63,q⟩:=h;refine⟨_,(II (MR (N':=["cell"]) (js:=[none]) (i:=1) Hf.nd rfl (Or.inl rfl) rfl (JE (N:=["script","great","small","seed","number"]) (outer:=IQ Oe) (by decide+kernel)) (JO (LK Up (pv 0) LG (LH IF))) (λ_ _ _ _ _=>(IP (i:=0) M7 rfl (Or.inl rfl))) (λ_ _ _ _ _=>K_ (Jn WO (Jd QW rfl B.abs_ Qv (I0 (pv 0) IB)) (IW LF IF IF) (Ji _))) (λ_ _ _ _ _=>(IW LU (Jd QW rfl B.abs_ Qv (I0 (pv 0) IB)) (IW Nz (IW LF IF IF) (IW LF IF IF)))))
  (II (MR (N':=["cell"]) (js:=[none]) (i:=2) Hf.nd rfl (Or.inl rfl) rfl (JE (N:=["script","great","small","seed","number"]) (outer:=IQ Oe) (by decide+kernel)) (JO (LK Up (pv 0) LG (LH IF))) (λ_ _ _ _ _=>(IP (i:=0) M7 rfl (Or.inl rfl))) (λ_ _ _ _ _=>K_ (Jn NP (Jd QW rfl B.abs_ Qv (I0 (pv 0) IB)) (IW LF IF IF) (Ji _))) (λ_ _ _ _ _=>(IW LU (pv 0) IF)))
  (II (IY (i:=3) Hf.nd rfl (Or.inl rfl) (IW Ka IF (Jd Kw rfl B.len_ JZ (I0 (pv 2) IB))))
  (II (Kj AV rfl (JO (pv 2)) (IP (i:=4) Hf.nd rfl (Or.inl rfl)) (IL (IY (i:=3) Hf.nd rfl (Or.inl rfl) (IW LU (IW Ka (IW Ka (IW Nz (pv 3) IF) (IW Nz (pv 4) IF)) IF) IF))))
  (IL (IT (Kb (I0 (pv 1) (I0 (pv 2) (I0 (pv 3) (I0 IF IB))))))))))),?_⟩
 have cut:J3 (ns.map V.int) none (some 63)=ns.map V.int:=by unfold J3;rw[show HT.sIx (ns.map V.int).length 0 none=0 from rfl,show HT.sIx (ns.map V.int).length (ns.map V.int).length (some 63)=min 63 (ns.map V.int).length from HT.sIx_nat _ _ 63];rw[EU];exact A0 (by rw[Ab];omega)
 have m60:SI (10^(60:Int).toNat) (10^(60:Int).toNat):=⟨by decide,by decide⟩;refine⟨_,rfl,_,rfl,a,_,rfl,hS,λp1 hp1=>⟨p1,rfl,⟨_,SqL.of IE⟩,λp hp=>?_⟩⟩;refine Ux (cap:=[]) ns (λn=>(if n<0 then -n else n)%(10^(60:Int).toNat*10^(60:Int).toNat)) (λn=>decide ((10:Int)^(18:Int).toNat≤(if n<0 then -n else n))) (by omega) (SqL.of (by rw[IE,cut])) hp ?_ ?_ ?_ ?_
 · rfl
 · exact λn H' R s r=>⟨_,rfl,_,rfl,_,_,rfl,rfl,Kz (by decide) (by decide),_,_,rfl,rfl,_,rfl,r⟩
 · exact λn H' R s r=>⟨_,rfl,_,rfl,_,_,rfl,rfl,Kz (by decide) (by decide),_,_,rfl,rfl,Kz (by decide) (by decide),_,_,rfl,rfl,m60,_,_,rfl,rfl,(by show(0:Int)<10^(60:Int).toNat*10^(60:Int).toNat;decide),r⟩
 intro H1 s1 h1;have t1:Same H H1:=(IM hp1 _).trans s1;have pn1:H p=none:=(IM hp1 _).free hp;refine⟨_,rfl,_,rfl,a,_,rfl,t1.seq hS,λp2 hp2=>⟨p2,rfl,⟨_,SqL.of IE⟩,λp' hp'=>?_⟩⟩;refine Ux (cap:=[]) ns (λn=>n%2147483563) (λn=>decide ((if n<0 then -n else n)<(10:Int)^(18:Int).toNat)) (by omega) (SqL.of (by rw[IE,cut])) hp' ?_ ?_ ?_ ?_
 · rfl
 · exact λn H' R s r=>⟨_,rfl,_,rfl,_,_,rfl,rfl,Kz (by decide) (by decide),_,_,rfl,rfl,_,rfl,r⟩
 · exact λn H' R s r=>⟨_,rfl,_,_,rfl,rfl,(by show(0:Int)<2147483563;decide),r⟩
 intro H2 s2 h2;have t12:Same H1 H2:=(IM hp2 _).trans s2;have t2:Same H H2:=t1.trans t12;have g2:=t12 _ _ h1;have n2:H1 p'=none:=(IM hp2 _).free hp';have lb:∀x∈(ns.filter λn=>decide ((if n<0 then -n else n)<(10:Int)^(18:Int).toNat)).map (λn=>n%2147483563),0≤x∧x<wM:=λx hx=>by obtain⟨y,_,rfl⟩:=AB.mp hx;exact⟨C1 _ (by decide),Ce _ (by decide)⟩
 have ll:=AX (λn=>decide ((if n<0 then -n else n)<(10:Int)^(18:Int).toNat)) ns
 have gg:=AX (λn=>decide ((10:Int)^(18:Int).toNat≤(if n<0 then -n else n))) ns
 generalize hls:(ns.filter λn=>decide ((if n<0 then -n else n)<(10:Int)^(18:Int).toNat)).map (λn=>n%2147483563)=ls at*
 have lz:ls.length≤63:=by rw[←hls,Ab];omega
 generalize hgs:(ns.filter λn=>decide ((10:Int)^(18:Int).toNat≤(if n<0 then -n else n))).map (λn=>(if n<0 then -n else n)%(10^(60:Int).toNat*10^(60:Int).toNat))=gs at*
 have gz:gs.length≤63:=by rw[←hgs,Ab];omega
 refine⟨_,rfl,p',_,rfl,.inl (SqL.of h2),_,_,rfl,rfl,?_⟩;refine⟨_,rfl,p',rfl,⟨_,SqL.of h2⟩,L_ (K:=K) (a:=p') (xs:=ls.map V.int) (λi σ H'=>∃(st:Int)(x4:Option V),σ=[some (.ref a),some (.ref p),some (.ref p'),some (.int st),x4]∧H'=H2∧0≤st∧st<wM) ⟨_,none,rfl,rfl,by omega,by rw[Ab];unfold wM;omega⟩ (λi σ H' _ ⟨_,_,_,e,_⟩=>by rw[e];exact SqL.of h2) ?_ ?_⟩
 · rintro i x σ H' hx ⟨st,x4,rfl,rfl,z0,z1⟩;rw[Af] at hx;cases hn:ls[i]? with
   | none=>rw[hn] at hx;cases hx
   | some y=> rw[hn] at hx;obtain rfl:V.int y=x:=A4 hx;obtain⟨y0,y1⟩:=lb y (Ag hn);have sm:∀z:Int,z.natAbs<2^100→z.natAbs<2^1000:=λz h=>AG h (by decide);refine⟨_,rfl,_,_,rfl,rfl,⟨sm _ (by unfold wM at z1;omega),by decide⟩,_,rfl,_,_,rfl,rfl,⟨sm _ (by unfold wM at y1;omega),by decide⟩,_,_,rfl,rfl,_,_,rfl,rfl,_,_,rfl,rfl,(by show(0:Int)<2147483563;decide),_,_,rfl,rfl,C1 _ (by decide),Ce _ (by decide)⟩
 · rintro σ H' ⟨st,x4,rfl,rfl,z0,z1⟩;refine⟨_,rfl,_,rfl,_,rfl,SH,λp5 hp5=>?_⟩;have s5:=IM hp5 (.lst [V.ref p,V.ref p',V.int st,V.int 0]);exact q p5 p p' _ ⟨⟨gs,ls,st,0,IE,s5 _ _ g2,s5 _ _ h2,gz,lz,lb,z0,z1,by decide,by decide⟩,JY h1 n2,(JY g2 hp5).symm,(JY h2 hp5).symm⟩ (t2.trans s5) (t2.free hp5) pn1
theorem zhB(F:Fun K "_law_take" "_law_take" Ry f fd)  :FnOk P w K mg base Jc 1 f fd ["well","many"] (TD):=by
 refine F.ok Hg (λvs H Q E h=>?_) (λcdv A outer s H vs Q E hr h=>?_)
 · obtain⟨b,g,l,n,many,rfl,Bg,hn,hm,hm2,q⟩:=h;rfl
 obtain⟨b,g,l,n,many,rfl,Bg,hn,hm,hm2,q⟩:=h;refine⟨_,(II (Jo (Jn (NU (KR hr)) (Jf JV (pv 0) IF (λ_ _=>rfl)) (Kb IB) (Ji _)) (II (IY (i:=2) Hg.nd rfl (Or.inl rfl) (Jf JV (Jf JV (pv 0) IF (λ_ _=>rfl)) IF (λ_ _=>rfl)))
  (II (Lu (IW Vh (pv 2) (pv 1)) (Qx (Jf JV (pv 0) IF (λ_ _=>rfl)) IF QL))
  (II (Jo (Jn NP (pv 2) (pv 1) (Ji _)) (IL (L0 (LS BS PySem.F.slot_list_pop PySem.F.type_list_pop Ze (Jf JV (pv 0) IF (λ_ _=>rfl)) (I0 IF IB)))) Jm)
  (IL (IT (IW LU (pv 2) (pv 1))))))) Jm)
  (II (Lu (IW Ka (Jf JV (pv 0) IF (λ_ _=>rfl)) IF) (Qx (pv 0) IF QL))
  (II (IY (i:=3) Hg.nd rfl (Or.inl rfl) IF)
  (II (Jo (Jn (NU (KR hr)) (Jf JV (pv 0) IF (λ_ _=>rfl)) (Kb IB) (Ji _)) (IL (IY (i:=3) Hg.nd rfl (Or.inl rfl) (IW Ka (Jf JV (Jf JV (pv 0) IF (λ_ _=>rfl)) (IW LU (Jf JV (pv 0) IF (λ_ _=>rfl)) (Jd Kw rfl B.len_ JZ (I0 (Jf JV (pv 0) IF (λ_ _=>rfl)) IB))) (λ_ _=>rfl)) IF))) Jm)
  (II (IY (i:=2) Hg.nd rfl (Or.inl rfl) (IW LU (IW LF (IW Ka (Jf JV (pv 0) IF (λ_ _=>rfl)) (IW Nz (pv 3) (IW Ka (IW Nz (Jf JV (pv 0) IF (λ_ _=>rfl)) IF) IF))) IF) IF))
  (II (Lu (IW LU (IW Ka (IW Ka (IW Nz (Jf JV (pv 0) IF (λ_ _=>rfl)) IF) (pv 2)) (Jf JV (pv 0) IF (λ_ _=>rfl))) IF) (Qx (pv 0) IF QL))
  (IL (IT (IW LU (IW Vh (pv 2) IF) (pv 1)))))))))),?_⟩
 obtain⟨gs,ls,sd,c,e1,e2,e3,z1,z2,z4,z5,z6,z7,z8⟩:=id Bg.ex;refine⟨_,rfl,b,_,0,_,rfl,rfl,SqL.of e1,rfl,KM,λp hp=>?_⟩;have s1:=IM hp (.lst []);have B2:=Bg.same s1;have e1':=s1 _ _ e1;have e2':=s1 _ _ e2;have e3':=s1 _ _ e3;refine SV (SqL.of e2') (SqL.of IE) ⟨_,rfl,?_⟩;generalize IC H p (.lst [])=H2 at*;have S2:SameB b g H H2:=s1.sameB;clear s1;have bg:=Bg.bg;have bl:=Bg.bl;have gl:=Bg.gl;cases gs with
 | cons x r=>
  refine ID ?_;refine⟨_,rfl,b,_,0,_,rfl,rfl,SqL.of e1',rfl,g,_,0,_,rfl,rfl,SqL.of e2',Qj,?_⟩;refine⟨_,rfl,_,rfl,_,_,rfl,rfl,⟨hm,Int.lt_of_lt_of_le hm2 (by decide)⟩,_,rfl,b,_,0,_,rfl,rfl,SqL.of e1',rfl,g,_,0,0,rfl,rfl,e2',WG,?_⟩;have f2:(IC H2 g (.lst (((x::r).map V.int).set 0 (V.int (x / many))))) g=some (.lst (((x / many)::r).map V.int)):=IE;have f1:(IC H2 g (.lst (((x::r).map V.int).set 0 (V.int (x / many))))) b=some (.lst [V.ref g,V.ref l,V.int sd,V.int c]):=by rw[IZ bg];exact e1'
  have f3:(IC H2 g (.lst (((x::r).map V.int).set 0 (V.int (x / many))))) l=some (.lst (ls.map V.int)):=by rw[IZ (BI gl)];exact e3'
  have S3:SameB b g H (IC H2 g (.lst (((x::r).map V.int).set 0 (V.int (x / many))))):=λa o h1 h2 h3=>by rw[IZ h3];exact S2 a o h1 h2 h3
  dsimp only;generalize IC H2 g (.lst (((x::r).map V.int).set 0 (V.int (x / many))))=H3 at*;refine⟨_,rfl,_,rfl,_,_,rfl,rfl,_,rfl,Je (λ_=>?_) (λ_=>?_)⟩
  · refine⟨_,rfl,b,_,0,_,rfl,rfl,SqL.of f1,rfl,.inl ⟨rfl,_,SqL.of f2⟩,g,_,0,0,_,rfl,rfl,f2,by decide,by decide,(QI (WG (x:=V.int (x / many)) (r:=r.map V.int))).1,rfl,?_⟩;refine⟨_,rfl,_,rfl,_,_,rfl,rfl,hm,q _ _ (C1 _ (by omega)) (Ce _ hm) ⟨⟨r,ls,sd,c,?_,IE,?_,by simp only[AA] at z1;omega,z2,z4,z5,z6,z7,by omega⟩,gl,bg,bl⟩ ?_⟩
    · rw[IZ bg];exact f1
    · rw[IZ (BI gl)];exact f3
    · intro a o h1 h2 h3;rw[IZ h3];exact S3 a o h1 h2 h3
  · exact⟨_,rfl,_,rfl,_,_,rfl,rfl,hm,q _ _ (C1 _ (by omega)) (Ce _ hm) ⟨⟨x / many::r,ls,sd,c,f1,f2,f3,by simp only[AA] at z1 ⊢;omega,z2,z4,z5,z6,z7,by omega⟩,gl,bg,bl⟩ S3⟩
 | nil=>
  refine IA ?_;refine⟨_,rfl,b,_,3,_,rfl,rfl,SqL.of e1',rfl,_,_,rfl,rfl,_,rfl,b,_,3,3,rfl,rfl,e1',rfl,?_⟩;have f1:(IC H2 b (.lst ([V.ref g,V.ref l,V.int sd,V.int c].set 3 (V.int (c+1))))) b=some (.lst [V.ref g,V.ref l,V.int sd,V.int (c+1)]):=IE;have f2:(IC H2 b (.lst ([V.ref g,V.ref l,V.int sd,V.int c].set 3 (V.int (c+1))))) g=some (.lst []):=by rw[IZ (BI bg)];exact e2'
  have f3:(IC H2 b (.lst ([V.ref g,V.ref l,V.int sd,V.int c].set 3 (V.int (c+1))))) l=some (.lst (ls.map V.int)):=by rw[IZ (BI bl)];exact e3'
  have S3:SameB b g H (IC H2 b (.lst ([V.ref g,V.ref l,V.int sd,V.int c].set 3 (V.int (c+1))))):=λa o h1 h2 h3=>by rw[IZ h2];exact S2 a o h1 h2 h3
  dsimp only;generalize IC H2 b (.lst ([V.ref g,V.ref l,V.int sd,V.int c].set 3 (V.int (c+1))))=H3 at*;have c1:0≤c+1:=by omega
  have c2:c+1≤2^41:=by omega
  refine MY ?_;dsimp only;refine Mb (λσ' H'=>∃(cell:Int),σ'=[some (.ref b),some (.int many),none,some (.int cell)]∧1≤cell∧cell≤wM∧H' b=some (.lst [V.ref g,V.ref l,V.int sd,V.int (c+1)])∧H' g=some (.lst [])∧H' l=some (.lst (ls.map V.int))∧SameB b g H H') (λZ hZ=>?_) ?_
  · refine⟨_,rfl,b,_,1,_,rfl,rfl,SqL.of f1,rfl,KM,λp4 hp4=>?_⟩;have s4:=IM hp4 (.lst []);have k1:=s4 _ _ f1;have k2:=s4 _ _ f2;have k3:=s4 _ _ f3;have S4:=S3.trans s4.sameB;refine SV (SqL.of k3) (SqL.of IE) ⟨_,rfl,?_⟩;generalize IC H3 p4 (.lst [])=H4 at*;cases ls with
    | nil=>exact IA (hZ _ _ ⟨1,rfl,by decide,by decide,k1,k2,k3,S4⟩)
    | cons y ys=>
     refine ID ?_;have lpos:(0:Int)<(((y::ys).map V.int).length:Int):=by rw[Ab,AA];omega
     have i0:=C1 (c+1) (Int.ne_of_gt lpos);have i1:=Ce (c+1) lpos;obtain⟨v,hv,hvm⟩:=Xe (ls:=y::ys) i0 (by rw[Ab] at i1 ⊢;exact i1);obtain⟨v0,v1⟩:=z4 v hvm;refine⟨_,rfl,b,_,1,_,rfl,rfl,SqL.of k1,rfl,_,rfl,b,_,3,_,rfl,rfl,SqL.of k1,rfl,_,rfl,b,_,1,_,rfl,rfl,SqL.of k1,rfl,l,_,rfl,.inl (SqL.of k3),_,_,rfl,rfl,lpos,l,_,_,_,rfl,rfl,SqL.of k3,hv,_,_,rfl,rfl,?_⟩;exact hZ _ _ ⟨v+1,rfl,by omega,by omega,k1,k2,k3,S4⟩
  rintro σ' H4 ⟨cell,rfl,l0,l1,k1,k2,k3,S4⟩;have sm:∀z:Int,z.natAbs<2^900→z.natAbs<2^1000:=λz h=>AG h (by decide);have b3:(c+1).natAbs<2^900:=Bn (show(c+1).natAbs≤2^41 by omega) (by decide);have b4:((c+1)*3163+1).natAbs<2^900:=Bn (show((c+1)*3163+1).natAbs≤2^60 by omega) (by decide);have b5:cell.natAbs<2^900:=Bn (show cell.natAbs≤2^60 by unfold wM at l1;omega) (by decide);have big:(sd+cell*((c+1)*3163+1)).natAbs<2^1000:=by
   have a5:cell*((c+1)*3163+1)≤2^60*2^60:=G8 (by unfold wM at l1;omega) (by omega) (by omega) (by decide);have a6:0≤cell*((c+1)*3163+1):=G6 (by omega) (by omega);generalize cell*((c+1)*3163+1)=y at*;have a8:(sd+y).natAbs<2^125:=by unfold wM at z6;omega
   exact AG a8 (by decide)
  refine⟨_,rfl,b,_,2,_,rfl,rfl,SqL.of k1,rfl,_,rfl,_,rfl,b,_,3,_,rfl,rfl,SqL.of k1,rfl,_,_,rfl,rfl,⟨sm _ b3,by decide⟩,_,_,rfl,rfl,_,_,rfl,rfl,⟨sm _ b5,sm _ b4⟩,_,_,rfl,rfl,_,_,rfl,rfl,⟨by decide,by decide,big⟩,_,_,rfl,rfl,(by show(0:Int)<2147483563;decide),?_⟩;dsimp only;generalize(sd+cell*((c+1)*3163+1))^(5:Int).toNat=y;have y0:=C1 y (show(2147483563:Int)≠0 by decide);have y1:=Ce y (show(0:Int)<2147483563 by decide);generalize y%2147483563=u at*;have b6:sd.natAbs<2^1000:=sm _ (Bn (show sd.natAbs≤2^60 by unfold wM at z6;omega) (by decide));refine⟨_,rfl,b,_,2,_,rfl,rfl,SqL.of k1,rfl,_,_,rfl,rfl,⟨b6,by decide⟩,_,rfl,_,_,rfl,rfl,_,rfl,b,_,3,_,rfl,rfl,SqL.of k1,rfl,_,_,rfl,rfl,_,_,rfl,rfl,(by show(0:Int)<2147483563;decide),?_⟩;refine⟨_,rfl,b,_,2,2,rfl,rfl,k1,rfl,?_⟩;dsimp only;generalize sd*40692+u+(c+1)=v;have v0:=C1 v (show(2147483563:Int)≠0 by decide);have v1:=Ce v (show(0:Int)<2147483563 by decide);generalize v%2147483563=t at*;refine⟨_,rfl,_,_,rfl,rfl,⟨by decide,by decide⟩,_,rfl,_,_,rfl,rfl,hm,?_⟩;refine q _ _ (C1 _ (by omega)) (Ce _ hm) ⟨⟨[],ls,t,c+1,IE,?_,?_,by simp,z2,z4,v0,v1,c1,by omega⟩,gl,bg,bl⟩ ?_
  · rw[IZ (BI bg)];exact k2
  · rw[IZ (BI bl)];exact k3
  · intro a o h1 h2 h3;rw[IZ h2];exact S4 a o h1 h2 h3
theorem zhG(F:Fun K "_law_name" "_law_name" PJ f fd)(Ib:Γ30 P w K mg base):FnOk P w K mg base Jc 2 f fd ["well","most"] (Tv):=by
 refine F.ok Hh (λvs H Q E h=>?_) (λcdv A outer s H vs Q E hr h=>?_)
 · obtain⟨b,g,l,n,most,rfl,Bg,hn,m1,m8,q⟩:=h;rfl
 obtain⟨b,g,l,n,most,rfl,Bg,hn,m1,m8,q⟩:=h;refine⟨_,(II (IY (i:=2) Hh.nd rfl (Or.inr rfl) MM)
  (IL (IT (LS PySem.F.plainAttrs_str PySem.F.slot_str_join PySem.F.type_str_join Yo MM (I0 (K5 (N':=["k","well","letters"]) (js:=[none,some 0,some 2]) rfl (JE (N:=["well","most","letters"]) (outer:=IQ PJ) (by decide+kernel)) (Oj rfl B.range_ (I0 (IW Ka IF (IS Ib (hr.mono (by decide)) rfl (I0 (pv 0) (I0 (pv 1) IB)))) IB)) (λ_ _ _ _ _=>(IP (i:=0) OF rfl (Or.inl rfl))) (λ_ _ _ _ _=>K8) (λ_ _ _ _ _=>(Jf Tj (pv 2) (IS Ib (hr.mono (by decide)) rfl (I0 (pv 1) (I0 IF IB))) (λ_ _=>rfl)))) IB))))),?_⟩
 refine MY ?_;refine⟨rfl,_,rfl,_,rfl,b,g,l,n,most,rfl,Bg,by omega,by omega,Mr (by omega),λr H2 r0 r1 B2 S2=>?_⟩;refine⟨_,_,rfl,rfl,_,rfl,by omega,by omega,λp hp=>?_⟩;obtain⟨pb,pg,pl⟩:=B2.free hp;have s3:=IM hp (.lst []);have np:H p=none:=B2.back S2 p hp;refine Ps (n:=(1+r).toNat) (λi σ' ys H'=>(∃v,σ'=[v,some (.ref b),some (.str "abcdefghijklmnopqrstuvwxyz")])∧SameB b g H H'∧Well H' b g l (n+1+i)∧H' p=some (.lst ys)∧∃cs:List Nat,ys=(cs.map λc=>(⟨#[c]⟩:Str)).map V.str∧cs.length=i∧∀c∈cs,Ma c=true) ?_ ?_ ?_ ?_
 · exact⟨⟨none,rfl⟩,S2.trans s3.sameB,(B2.same s3).mono (by omega),IE,[],rfl,rfl,λc hc=>by simp at hc⟩
 · rintro i σ' ys H' hi ⟨_,_,_,h1,cs,rfl,h2,_⟩;exact⟨h1,by rw[Ab,Ab,h2];exact J7 (by omega)⟩
 · rintro i σ' ys H4 N hi ⟨⟨v,rfl⟩,S4,B4,h1,cs,rfl,h2,h3⟩ hN;refine⟨_,rfl,_,rfl,b,g,l,_,26,rfl,B4,by omega,by decide,by decide,λk H5 k0 k1 B5 S5=>?_⟩;obtain⟨c,hc,ok⟩:=SL k0 k1;have h5:=S5 _ _ h1 pb pg;refine⟨_,_,c,rfl,rfl,(by show 26≤Ay;decide),hc,h5,hN _ _ _ ⟨⟨_,rfl⟩,?_,?_,IE,cs++[c],?_,?_,?_⟩⟩
   · exact(S4.trans S5).off np
   · exact(B5.off pb pg pl).mono (by omega)
   · rw[Aq,Aq];rfl
   · rw[A6,h2];rfl
   · intro c' hc';rcases A3.mp hc' with z | z
     · exact h3 c' z
     · rw[Aj.mp z];exact ok
 · rintro σ' ys H4 ⟨_,S4,B4,h1,cs,rfl,h2,h3⟩;refine⟨_,_,_,rfl,rfl,SqL.of h1,YJ cs (by omega),q _ _ (zjH (by omega) (by omega) h3) (B4.mono (by omega)) S4⟩
theorem zfM(F:Fun K "_law_fields" "_law_fields" RB f fd)(Ic:Γ31 P w K mg base)(Ib:Γ30 P w K mg base):FnOk P w K mg base Jc 3 f fd ["well","many"] (V4):=by
 refine F.ok Hi (λvs H Q E h=>?_) (λcdv A outer s H vs Q E hr h=>?_)
 · obtain⟨b,g,l,n,many,rfl,Bg,hn,m1,m6,q⟩:=h;rfl
 obtain⟨b,g,l,n,many,rfl,Bg,hn,m1,m6,q⟩:=h;refine⟨_,(II (IY (i:=2) Hi.nd rfl (Or.inl rfl) MM)
  (II (IY (i:=3) Hi.nd rfl (Or.inl rfl) (Kb (I0 (IS Ic (hr.mono (by decide)) rfl (I0 (pv 0) (I0 IF IB))) IB)))
  (II (Kj AV rfl (Oj rfl B.range_ (I0 (IS Ib (hr.mono (by decide)) rfl (I0 (pv 0) (I0 (pv 1) IB))) IB)) (IP (i:=4) Hi.nd rfl (Or.inl rfl)) (II (IY (i:=5) Hi.nd rfl (Or.inl rfl) (IS Ib (hr.mono (by decide)) rfl (I0 (pv 0) (I0 IF IB))))
  (II (IY (i:=6) Hi.nd rfl (Or.inl rfl) (Jf JV (pv 3) (IS Ib (hr.mono (by decide)) rfl (I0 (pv 0) (I0 (Jd Kw rfl B.len_ JZ (I0 (pv 3) IB)) IB))) (λ_ _=>rfl)))
  (II (IY (i:=7) Hi.nd rfl (Or.inl rfl) (Jf Tj (pv 2) (IS Ib (hr.mono (by decide)) rfl (I0 (pv 0) (I0 IF IB))) (λ_ _=>rfl)))
  (II (IY (i:=8) Hi.nd rfl (Or.inl rfl) (IS Ib (hr.mono (by decide)) rfl (I0 (pv 0) (I0 (Jd R9 rfl B.len_ JZ (I0 (pv 6) IB)) IB))))
  (II (IY (i:=9) Hi.nd rfl (Or.inl rfl) (LK QB (Jf JV (Kb (I0 (IW PQ (pv 7) (pv 6)) (I0 (IW PQ (pv 6) (pv 7)) (I0 (IW PQ (IW PQ (LK QB (pv 6) LG (LH (pv 8))) (pv 7)) (LK QB (pv 6) (LH (IW Ka (pv 8) IF)) LG)) (I0 (pv 7) IB))))) (pv 5) (λ_ _=>rfl)) LG (LH IF)))
  (II (Jo (Jn Ld (pv 5) IF (Ji _)) (IL (IY (i:=9) Hi.nd rfl (Or.inl rfl) (IS Ic (hr.mono (by decide)) rfl (I0 (pv 0) (I0 IF IB))))) Jm)
  (IL (Jo (Jn zgz (pv 9) (pv 3) (by with_unfolding_all rfl)) (IL (L0 (LS BS BZ B_ LY (pv 3) (I0 (pv 9) IB)))) Jm)))))))))
  (IL (IT (Jd zg7 rfl B.sorted_ P6 (I0 (pv 3) IB))))))),?_⟩
 refine MY ?_;refine⟨_,rfl,b,g,l,n,7,rfl,Bg,by omega,by decide,by decide,λx0 H1 ok0 B1 S1=>?_⟩;refine⟨LA,λr hr'=>?_⟩;obtain⟨rb,rg,rl⟩:=B1.free hr';have nr:H r=none:=B1.back S1 r hr';have s2:=IM hr' (.lst [V.str x0]);have e2:(IC H1 r (.lst [V.str x0])) r=some (.lst [V.str x0]):=IE;have B2:=B1.same s2;have S2:=S1.trans s2.sameB;generalize IC H1 r (.lst [V.str x0])=H2 at*;refine⟨_,rfl,_,rfl,b,g,l,_,many,rfl,B2,by omega,by omega,Mr (by omega),λc H3 c0 c1 B3 S3=>?_⟩;have e3:=S3 _ _ e2 rb rg;have S03:=S2.trans S3;refine⟨c,rfl,by omega,by omega,Ra (lo:=0) (n:=c.toNat) (λi σ H'=>(∃y4 y5 y6 y7 y8 y9,σ=[some (.ref b),some (.int many),some (.str "abcdefghijklmnopqrstuvwxyz"),some (.ref r),y4,y5,y6,y7,y8,y9])∧SameB b g H H'∧Well H' b g l (n+13+20*i)∧∃ts:List Str,H' r=some (.lst (ts.map V.str))∧ts.Nodup∧1≤ts.length∧ts.length≤i+1∧∀t∈ts,FieldOk t) ?_ ?_ ?_⟩
 · exact⟨⟨none,none,none,none,none,none,rfl⟩,S03,B3.mono (by omega),[x0],e3,by simp,by simp,by simp,λt ht=>by rw[Aj.mp ht];exact ok0⟩
 · rintro i σ H4 hi ⟨⟨y4,y5,y6,y7,y8,y9,rfl⟩,S4,B4,ts,e4,nd,l1,l2,ok⟩;refine⟨_,rfl,b,g,l,_,4,rfl,B4,by omega,by decide,by decide,λpick H5 p0 p1 B5 S5=>?_⟩;have e5:=S5 _ _ e4 rb rg;refine⟨_,rfl,_,rfl,_,rfl,r,_,rfl,.inl (SqL.of e5),b,g,l,_,_,rfl,B5,by omega,by rw[Ab];omega,Mr (by rw[Ab];omega),λk H6 k0 k1 B6 S6=>?_⟩;have e6:=S6 _ _ e5 rb rg;rw[Ab] at k1;obtain⟨j,rfl⟩:∃j:Nat,k=(j:Int):=⟨k.toNat,by omega⟩;obtain⟨first,ef⟩:∃f,ts[j]?=some f:=⟨ts[j]'(by omega),Al (by omega)⟩
   have hf:Km (ts.map V.str) (j:Int)=some (V.str first):=Lg (by rw[Af,ef];rfl)
   have okf:=ok first (Ag ef)
   refine⟨r,_,_,_,rfl,rfl,SqL.of e6,hf,?_⟩;refine⟨_,rfl,_,rfl,b,g,l,_,26,rfl,B6,by omega,by decide,by decide,λk H7 k0 k1 B7 S7=>?_⟩;have e7:=S7 _ _ e6 rb rg;obtain⟨c,hc,okc⟩:=SL k0 k1;refine⟨_,_,c,rfl,rfl,(by show 26≤Ay;decide),hc,?_⟩;have okl:FieldOk (⟨#[c]⟩:Str):=⟨by show 1≤1;decide,by show 1≤8;decide,λc' hc'=>by
    have:c'=c:=by simpa using hc'
    rw[this];exact okc⟩
   generalize(⟨#[c]⟩:Str)=letter at*;have f1:=okf.one;have f8:=okf.eight;have g1:=okl.one;have g8:=okl.eight;have sz:(100:Nat)≤Ay:=by decide
   refine⟨_,rfl,_,rfl,_,rfl,by omega,b,g,l,_,_,rfl,B7,by omega,by omega,Mr (by omega),λat' H8 a0 a1 B8 S8=>?_⟩;have e8:=S8 _ _ e7 rb rg;have S48:=S4.trans (S5.trans (S6.trans (S7.trans S8)));refine⟨_,rfl,_,rfl,_,_,rfl,rfl,by omega,_,rfl,_,rfl,_,_,rfl,rfl,by omega,_,rfl,_,rfl,_,rfl,first,rfl,by omega,λz1 a1' _ a3 _=>?_⟩
   refine⟨_,rfl,_,_,rfl,rfl,by omega,_,rfl,_,rfl,_,_,rfl,rfl,_,rfl,first,rfl,by omega,λz2 b1 _ b3 _=>?_⟩
   have la:(z1++letter).length=z1.length+letter.length:=by show(z1.cps++letter.cps).size=_;rw[Fx];rfl
   refine⟨_,_,rfl,rfl,by omega,_,rfl,SH,λwl hwl=>?_⟩;have s9:=IM hwl (.lst [V.str (letter++first),V.str (first++letter),V.str (z1++letter++z2),V.str letter])
   have e9:(IC H8 wl (.lst [V.str (letter++first),V.str (first++letter),V.str (z1++letter++z2),V.str letter])) wl=some (.lst [V.str (letter++first),V.str (first++letter),V.str (z1++letter++z2),V.str letter]):=IE
   have e8:=s9 _ _ e8;have B9:=B8.same s9;have S49:=S48.trans s9.sameB;generalize IC H8 wl (.lst [V.str (letter++first),V.str (first++letter),V.str (z1++letter++z2),V.str letter])=H9 at*
   have mem2:∀(x y:Str)(c:Nat),c∈(x++y).cps.toList→c∈x.cps.toList∨c∈y.cps.toList:=λx y c hc=>by have:c∈(x.cps++y.cps).toList:=hc;rw[Array.toList_append] at this;exact A3.mp this
   have len2:∀x y:Str,(x++y).length=x.length+y.length:=λx y=>by show(x.cps++y.cps).size=_;rw[Fx];rfl
   obtain⟨W,hW,w1,w100,wl'⟩:∃W:Str,Km [V.str (letter++first),V.str (first++letter),V.str (z1++letter++z2),V.str letter] pick=some (.str W)∧1≤W.length∧W.length≤100∧∀c∈W.cps.toList,Ma c=true:=by
    have:pick=0∨pick=1∨pick=2∨pick=3:=by omega
    rcases this with rfl | rfl | rfl | rfl
    · refine⟨_,rfl,by rw[len2];omega,by rw[len2];omega,λc hc=>?_⟩;rcases mem2 _ _ c hc with z | z
      · exact okl.all c z
      · exact okf.all c z
    · refine⟨_,rfl,by rw[len2];omega,by rw[len2];omega,λc hc=>?_⟩;rcases mem2 _ _ c hc with z | z
      · exact okf.all c z
      · exact okl.all c z
    · refine⟨_,rfl,by rw[len2,len2];omega,by rw[len2,len2];omega,λc hc=>?_⟩;rcases mem2 _ _ c hc with z | z
      · rcases mem2 _ _ c z with z | z
        · exact okf.all c (a3 c z)
        · exact okl.all c z
      · exact okf.all c (b3 c z)
    · exact⟨_,rfl,g1,by omega,okl.all⟩
   refine⟨_,rfl,wl,_,_,_,rfl,rfl,SqL.of e9,hW,_,rfl,W,rfl,by omega,λword v1 v2 v3 v4=>?_⟩;have okw:FieldOk word:=⟨v4 8 rfl rfl (by decide) w1,by have:=v2 8 rfl (by decide);omega,λc hc=>wl' c (v3 c hc)⟩;refine MY ?_;dsimp only;refine Mb (λσ' H'=>∃word:Str,σ'=[some (.ref b),some (.int many),some (.str "abcdefghijklmnopqrstuvwxyz"),some (.ref r),some (.int (0+(i:Int))),some (.int pick),some (.str first),some (.str letter),some (.int at'),some (.str word)]∧FieldOk word∧SameB b g H H'∧Well H' b g l (n+13+20*i+17)∧H' r=some (.lst (ts.map V.str))) (λZ hZ=>?_) ?_
   · refine⟨_,rfl,rfl,_,rfl,Je (λ_=>?_) (λ_=>?_)⟩
     · exact⟨_,rfl,b,g,l,_,8,rfl,B9,by omega,by decide,by decide,λx H10 ok10 B10 S10=>hZ _ _ ⟨x,rfl,ok10,S49.trans S10,B10.mono (by omega),S10 _ _ e8 rb rg⟩⟩
     · exact hZ _ _ ⟨word,rfl,okw,S49,B9.mono (by omega),e8⟩
   rintro σ' H10 ⟨word',rfl,okw',S10,B10,e10⟩;have fl:(ts.map V.str).all LQ=true:=by rw[List.all_map];exact C8.mpr λx _=>rfl
   refine⟨_,rfl,_,rfl,r,_,rfl,.inl (SqL.of e10),rfl,fl,_,rfl,?_⟩;have inE:Qh (.str word') (ts.map V.str)=decide (word'∈ts):=by
    unfold Qh;rw[FR,Bm,List.any_eq_true,decide_eq_true_iff];constructor
    · rintro⟨x,hx,e⟩;have:x=word':=by simpa [LN] using e
      exact this ▸ hx
    · exact λh=>⟨word',h,by simp[LN]⟩
   rw[inE];by_cases hm:word'∈ts
   · rw[decide_eq_true hm];exact IA ⟨⟨_,_,_,_,_,_,rfl⟩,S10,B10.mono (by omega),ts,e10,nd,l1,by omega,ok⟩
   · rw[decide_eq_false hm];refine ID ⟨_,rfl,.inl ⟨rfl,_,SqL.of e10⟩,_,rfl,r,_,_,rfl,rfl,e10,(by rw[Ab];exact J7 (by omega)),?_⟩;refine⟨⟨_,_,_,_,_,_,rfl⟩,S10.off nr,(B10.off rb rg rl).mono (by omega),ts++[word'],by rw[IE,Aq];rfl,?_,by rw[A6];omega,by rw[A6];simp;omega,λt ht=>?_⟩
     · rw[F9];exact⟨nd,by simp,λa ha b hb=>by rw[Aj.mp hb];exact λz=>hm (z ▸ ha)⟩
     · rcases A3.mp ht with z | z
       · exact ok t z
       · rw[Aj.mp z];exact okw'
 · rintro σ H4 ⟨⟨y4,y5,y6,y7,y8,y9,rfl⟩,S4,B4,ts,e4,nd,l1,l2,ok⟩;refine⟨_,rfl,r,ts,rfl,SqL.of e4,by omega,λz ms mp mso hz=>?_⟩;have s5:=IM hz (.lst (ms.map V.str));exact q z ms _ (B4.back S4 z hz) IE (V3 mso (mp.nodup_iff.mpr nd)) (λf hf=>ok f (mp.mem_iff.mp hf)) (by rw[mp.length_eq];exact l1) (by rw[mp.length_eq];omega) ((B4.same s5).mono (by omega)) (S4.trans s5.sameB)
theorem zhI(F:Fun K "_law_base" "_law_base" Rt f fd)(Ib:Γ30 P w K mg base):FnOk P w K mg base Jc 2 f fd ["well"] (TR):=by
 refine F.ok Hj (λvs H Q E h=>?_) (λcdv A outer s H vs Q E hr h=>?_)
 · obtain⟨b,g,l,n,rfl,Bg,hn,q⟩:=h;rfl
 obtain⟨b,g,l,n,rfl,Bg,hn,q⟩:=h;refine⟨_,(II (IY (i:=1) Hj.nd rfl (Or.inl rfl) (IS Ib (hr.mono (by decide)) rfl (I0 (pv 0) (I0 IF IB))))
  (II (IY (i:=2) Hj.nd rfl (Or.inl rfl) (IW Mw IF (IW LV IF (IS Ib (hr.mono (by decide)) rfl (I0 (pv 0) (I0 IF IB))))))
  (II (Jo (Jn Ld (pv 1) IF (Ji _)) (IL (IT IF)) Jm)
  (II (IY (i:=3) Hj.nd rfl (Or.inl rfl) (IS Ib (hr.mono (by decide)) rfl (I0 (pv 0) (I0 IF IB))))
  (II (Jo (Jn Ld (pv 1) IF (Ji _)) (IL (IY (i:=3) Hj.nd rfl (Or.inl rfl) (IW Ka (IW LV (IW Ka (IW LV (pv 3) IF) (IS Ib (hr.mono (by decide)) rfl (I0 (pv 0) (I0 IF IB)))) IF) (IS Ib (hr.mono (by decide)) rfl (I0 (pv 0) (I0 IF IB)))))) Jm)
  (IL (IT (IW LV (pv 2) (IW LU (pv 3) (IW Mw (IW LF IF IF) IF)))))))))),?_⟩
 have NK:(10:Int)^(15:Int).toNat=1000000000000000:=by decide
 refine⟨_,rfl,b,g,l,n,3,rfl,Bg,by omega,by decide,by decide,λpick H1 p0 p1 B1 S1=>?_⟩;refine⟨_,rfl,b,g,l,_,2,rfl,B1,by omega,by decide,by decide,λc H2 c0 c1 B2 S2=>?_⟩;have S02:=S1.trans S2;refine⟨_,_,rfl,rfl,.inl ⟨by decide,by decide⟩,_,_,rfl,rfl,?_⟩;refine⟨_,rfl,rfl,_,rfl,Je (λ_=>q _ _ (by decide) (by decide) (B2.mono (by omega)) S02) (λ_=>?_)⟩;refine⟨_,rfl,b,g,l,_,100000,rfl,B2,by omega,by decide,by decide,λm H3 m0 m1 B3 S3=>?_⟩;have S03:=S02.trans S3;refine MY ?_;dsimp only;refine Mb (λσ' H'=>∃m:Int,σ'=[some (.ref b),some (.int pick),some (.int (1 - 2*c)),some (.int m)]∧0≤m∧SameB b g H H'∧Well H' b g l (n+5)) (λZ hZ=>?_) ?_
 · refine⟨_,rfl,rfl,_,rfl,Je (λ_=>?_) (λ_=>hZ _ _ ⟨m,rfl,m0,S03,B3.mono (by omega)⟩)⟩;refine⟨_,rfl,_,_,rfl,rfl,.inl ⟨by omega,by omega⟩,_,rfl,b,g,l,_,100000,rfl,B3,by omega,by decide,by decide,λm2 H4 m20 m21 B4 S4=>?_⟩;refine⟨_,_,rfl,rfl,_,_,rfl,rfl,.inl ⟨by omega,by omega⟩,_,rfl,b,g,l,_,100000,rfl,B4,by omega,by decide,by decide,λm3 H5 m30 m31 B5 S5=>?_⟩;exact⟨_,_,rfl,rfl,hZ _ _ ⟨_,rfl,by omega,S03.trans (S4.trans S5),B5.mono (by omega)⟩⟩
 rintro σ' H4 ⟨m,rfl,m0,S4,B4⟩;refine⟨_,rfl,_,rfl,_,_,rfl,rfl,Kz (by decide) (by decide),_,_,rfl,rfl,_,_,rfl,rfl,(by show(0:Int)<10^(15:Int).toNat - 100;decide),?_⟩;dsimp only;rw[NK];have y0:=C1 m (show(1000000000000000 - 100:Int)≠0 by decide);have y1:=Ce m (show(0:Int)<1000000000000000 - 100 by decide);generalize m%(1000000000000000 - 100)=y at*;have hc:c=0∨c=1:=by omega
 refine⟨_,_,rfl,rfl,.inl ⟨by omega,by omega⟩,q _ _ ?_ ?_ B4 S4⟩
 all_goals
  rcases hc with rfl | rfl
  all_goals omega
theorem zhH(F:Fun K "_law_grid" "_law_grid" Ru f fd)(Ib:Γ30 P w K mg base)(Ie:Γ33 P w K mg base):FnOk P w K mg base Jc 3 f fd ["well"] (TU):=by
 refine F.ok Hk (λvs H Q E h=>?_) (λcdv A outer s H vs Q E hr h=>?_)
 · obtain⟨b,g,l,n,rfl,Bg,hn,q⟩:=h;rfl
 obtain⟨b,g,l,n,rfl,Bg,hn,q⟩:=h;refine⟨_,(II (IY (i:=1) Hk.nd rfl (Or.inl rfl) (IS Ib (hr.mono (by decide)) rfl (I0 (pv 0) (I0 IF IB))))
  (II (IY (i:=2) Hk.nd rfl (Or.inl rfl) IF)
  (II (Jo (Jn Ld (pv 1) IF (Ji _)) (IL (IY (i:=2) Hk.nd rfl (Or.inl rfl) (IW Ka IF (IS Ib (hr.mono (by decide)) rfl (I0 (pv 0) (I0 IF IB)))))) Jm)
  (II (Jo (Jn Ld (pv 1) IF (Ji _)) (IL (IY (i:=2) Hk.nd rfl (Or.inl rfl) (IW Ka IF (IW LV (IS Ib (hr.mono (by decide)) rfl (I0 (pv 0) (I0 IF IB))) (IS Ib (hr.mono (by decide)) rfl (I0 (pv 0) (I0 IF IB))))))) Jm)
  (IL (IT (J0 (I0 (Jd (ZU rfl) rfl B.max_ Tf (I0 (IW Mw (IW LF IF IF) (IW LF IF IF)) (I0 (Jd (ZW rfl) rfl B.min_ Tg (I0 (IW Mw (IW LF IF IF) (IW LF IF IF)) (I0 (IS Ie (hr.mono (by decide)) rfl (I0 (pv 0) IB)) IB))) IB))) (I0 (pv 2) IB))))))))),?_⟩
 have NK:(10:Int)^(15:Int).toNat=1000000000000000:=by decide
 have e13:(10:Int)^(13:Int).toNat=10000000000000:=by decide
 refine⟨_,rfl,b,g,l,n,4,rfl,Bg,by omega,by decide,by decide,λpick H1 p0 p1 B1 S1=>?_⟩;refine MY ?_;dsimp only;refine ZF ?_;refine Mb (λσ' H'=>∃m:Int,σ'=[some (.ref b),some (.int pick),some (.int m)]∧1≤m∧m≤10^10∧SameB b g H H'∧Well H' b g l (n+2)) (λZ hZ=>?_) ?_
 · refine⟨_,rfl,rfl,_,rfl,Je (λ_=>?_) (λ_=>hZ _ _ ⟨1,rfl,by decide,by decide,S1,B1.mono (by omega)⟩)⟩;exact⟨_,rfl,b,g,l,_,1000,rfl,B1,by omega,by decide,by decide,λm2 H4 m20 m21 B4 S4=>⟨_,_,rfl,rfl,hZ _ _ ⟨_,rfl,by omega,by omega,S1.trans S4,B4.mono (by omega)⟩⟩⟩
 rintro σ' H2 ⟨m,rfl,m0,m1,S2,B2⟩;refine Mb (λσ' H'=>∃m:Int,σ'=[some (.ref b),some (.int pick),some (.int m)]∧1≤m∧m≤10^10∧SameB b g H H'∧Well H' b g l (n+4)) (λZ hZ=>?_) ?_
 · refine⟨_,rfl,rfl,_,rfl,Je (λ_=>?_) (λ_=>hZ _ _ ⟨m,rfl,m0,m1,S2,B2.mono (by omega)⟩)⟩;refine⟨_,rfl,b,g,l,_,100000,rfl,B2,by omega,by decide,by decide,λm2 H4 m20 m21 B4 S4=>?_⟩;refine⟨_,rfl,b,g,l,_,100000,rfl,B4,by omega,by decide,by decide,λm3 H5 m30 m31 B5 S5=>?_⟩;have x1:m2*m3≤99999*99999:=G8 (by omega) (by omega) m30 (by decide);have x0:0≤m2*m3:=G6 m20 m30;exact⟨_,_,rfl,rfl,.inl ⟨by omega,by omega⟩,_,_,rfl,rfl,hZ _ _ ⟨_,rfl,by show 1≤1+m2*m3;omega,by show 1+m2*m3≤_;omega,S2.trans (S4.trans S5),B5.mono (by omega)⟩⟩
 rintro σ' H3 ⟨m,rfl,m0,m1,S3,B3⟩;refine⟨_,_,rfl,rfl,Kz (by decide) (by decide),_,_,rfl,rfl,Kz (by decide) (by decide),_,_,rfl,rfl,_,_,rfl,rfl,Kz (by decide) (by decide),_,_,rfl,rfl,Kz (by decide) (by decide),_,_,rfl,rfl,_,rfl,b,g,l,_,rfl,B3,by omega,λx H4 x0 x1 B4 S4=>?_⟩;dsimp only;rw[NK,e13];refine⟨_,_,rfl,_,_,rfl,_,rfl,Jx,λt ht=>?_⟩;have s5:=IM ht (.tup [V.int (if(if x<1000000000000000 - 10000000000000 then x else 1000000000000000 - 10000000000000)>10000000000000 - 1000000000000000 then(if x<1000000000000000 - 10000000000000 then x else 1000000000000000 - 10000000000000) else 10000000000000 - 1000000000000000),V.int m])
 refine q t _ m _ IE ?_ ?_ m0 m1 ((B4.same s5).mono (by omega)) ((S3.trans S4).trans s5.sameB)
 · split<;>split<;>omega
 · split<;>split<;>omega
theorem zhD(F:Fun K "_law_span" "_law_span" Rx f fd)(Ib:Γ30 P w K mg base):FnOk P w K mg base Jc 2 f fd ["well","grid","wide"] (UA):=by
 refine F.ok Hl (λvs H Q E h=>?_) (λcdv A outer s H vs Q E hr h=>?_)
 · obtain⟨b,g,l,t,n,lo,sz,wide,rfl,Bg,hn,et,s1,s2,w1,w2,q⟩:=h;rfl
 obtain⟨b,g,l,t,n,lo,sz,wide,rfl,Bg,hn,et,s1,s2,w1,w2,q⟩:=h;refine⟨_,(II (IY (i:=3) Hl.nd rfl (Or.inl rfl) (IS Ib (hr.mono (by decide)) rfl (I0 (pv 0) (I0 IF IB))))
  (II (IY (i:=4) Hl.nd rfl (Or.inl rfl) (IW Ka (Jf JM (pv 1) IF (λ_ _=>rfl)) (IW LV (Jf JM (pv 1) IF (λ_ _=>rfl)) (IS Ib (hr.mono (by decide)) rfl (I0 (pv 0) (I0 (pv 2) IB))))))
  (II (IY (i:=5) Hl.nd rfl (Or.inl rfl) (IW Mw (IW Ka (pv 4) (IW LV (Jf JM (pv 1) IF (λ_ _=>rfl)) (IW Ka IF (IS Ib (hr.mono (by decide)) rfl (I0 (pv 0) (I0 (pv 2) IB)))))) IF))
  (II (Jo (Jn Ld (pv 3) IF (Ji _)) (IL (IT (J0 (I0 Le (I0 Le IB))))) Jm)
  (II (Jo (Jn Ld (pv 3) IF (Ji _)) (IL (IT (J0 (I0 Le (I0 (pv 5) IB))))) Jm)
  (IL (IT (My (Jn Ld (pv 3) IF (Ji _)) (J0 (I0 (pv 4) (I0 Le IB))) (J0 (I0 (pv 4) (I0 (pv 5) IB))))))))))),?_⟩
 refine⟨_,rfl,b,g,l,n,8,rfl,Bg,by omega,by decide,by decide,λpick H1 p0 p1 B1 S1=>?_⟩;have e1:=Bg.tup S1 et;refine⟨_,rfl,t,_,0,_,rfl,rfl,SqT.of e1,rfl,_,rfl,t,_,1,_,rfl,rfl,SqT.of e1,rfl,_,rfl,_,rfl,b,g,l,_,wide,rfl,B1,by omega,by omega,Mr (by omega),λx H2 x0 x1 B2 S2=>?_⟩;have e2:=B1.tup S2 e1;refine⟨_,_,rfl,rfl,.inl ⟨by omega,by omega⟩,_,_,rfl,rfl,?_⟩;refine⟨_,rfl,_,rfl,t,_,1,_,rfl,rfl,SqT.of e2,rfl,_,rfl,_,rfl,b,g,l,_,wide,rfl,B2,by omega,by omega,Mr (by omega),λy H3 y0 y1 B3 S3=>?_⟩;have S03:=S1.trans (S2.trans S3);refine⟨_,_,rfl,rfl,_,_,rfl,rfl,.inl ⟨by omega,by omega⟩,_,_,rfl,rfl,_,_,rfl,rfl,?_⟩;have hp:1≤sz*(1+y):=by have:1*1≤sz*(1+y):=G8 s1 (by omega) (by decide) (by omega);omega
 dsimp only;have gL:∃i,0≤i∧i<2*wide∧lo+sz*x=lo+sz*i:=⟨x,x0,by omega,rfl⟩;have gH:∃j,0≤j∧j<2*wide∧lo+sz*x+sz*(1+y) - 1=lo+sz*j - 1:=⟨x+(1+y),by omega,by omega,by rw[Int.mul_add sz x (1+y)];omega⟩;generalize sz*(1+y)=d at*;generalize lo+sz*x=L at*;have fin:∀(a b':Option Int),(Ke a b'=true∧OnGrid lo sz (2*wide) (a,b'))→∀r,H3 r=none→Q (.ref r) (IC H3 r (.tup [eV a,eV b'])):=λa b' h r hr=>q r a b' _ IE h ((B3.same (IM hr _)).mono (by omega)) (S03.trans (IM hr _).sameB);refine⟨_,rfl,rfl,_,rfl,Je (λ_=>⟨Jx,fin none none ⟨rfl,λ_ e=>(nomatch e),λ_ e=>(nomatch e)⟩⟩) (λ_=>?_)⟩;refine⟨_,rfl,rfl,_,rfl,Je (λ_=>⟨_,rfl,Jx,fin none (some (L+d - 1)) ⟨rfl,λ_ e=>(nomatch e),λ_ e=>by cases e;exact gH⟩⟩) (λ_=>?_)⟩;refine⟨_,rfl,rfl,_,rfl,Je (λ_=>⟨_,rfl,Jx,fin (some L) none ⟨rfl,λ_ e=>by cases e;exact gL,λ_ e=>(nomatch e)⟩⟩) (λ_=>⟨_,rfl,_,rfl,Jx,fin (some L) (some (L+d - 1)) ⟨decide_eq_true (by omega),λ_ e=>by cases e;exact gL,λ_ e=>by cases e;exact gH⟩⟩)⟩
theorem zhz(F:Fun K "_law_wish" "_law_wish" Rz f fd)(Ib:Γ30 P w K mg base)(Ig:Γ35 P w K mg base):FnOk P w K mg base Jc 3 f fd ["well","names","grid","wide"] (UE):=by
 refine F.ok Hm (λvs H Q E h=>?_) (λcdv A outer s H vs Q E hr h=>?_)
 · obtain⟨b,g,l,a,t,n,lo,sz,wide,fs,rfl,Bg,hn,FA,et,s1,s2,w1,w2,q⟩:=h;rfl
 obtain⟨b,g,l,a,t,n,lo,sz,wide,fs,rfl,Bg,hn,FA,et,s1,s2,w1,w2,q⟩:=h;refine⟨_,(II (IY (i:=4) Hm.nd rfl (Or.inl rfl) (Kb IB))
  (II (Kj AV rfl (JO (pv 1)) (IP (i:=5) Hm.nd rfl (Or.inl rfl)) (IL (Jo (Jn Mt (IS Ib (hr.mono (by decide)) rfl (I0 (pv 0) (I0 IF IB))) IF (Ji _)) (II (Lu (IS Ig (hr.mono (by decide)) rfl (I0 (pv 0) (I0 (pv 2) (I0 (pv 3) IB)))) (K6 rfl (Jg (IP (i:=6) Hm.nd rfl (Or.inl rfl)) (Jg (IP (i:=7) Hm.nd rfl (Or.inl rfl)) Kh))))
  (IL (L0 (LS BS BZ B_ LY (pv 4) (I0 (J0 (I0 (pv 5) (I0 (pv 6) (I0 (pv 7) IB)))) IB))))) Jm)))
  (IL (IT (MZ PY rfl B.tuple_ Lk (I0 (pv 4) IB)))))),?_⟩
 refine⟨KM,λr hr'=>?_⟩;obtain⟨rb,rg,rl⟩:=Bg.free hr';have s0:=IM hr' (.lst []);have FA0:=FA.sameB s0.sameB;have rf:r≠a:=λe=>by rw[e,FA.at'] at hr';cases hr'
 refine⟨_,rfl,a,rfl,⟨_,SqL.of FA0.at'⟩,L_ (K:=K) (a:=a) (xs:=fs.map V.str) (λi σ H'=>(∃y5 y6 y7,σ=[some (.ref b),some (.ref a),some (.ref t),some (.int wide),some (.ref r),y5,y6,y7])∧SameB b g H H'∧Well H' b g l (n+4*i)∧NamesAt H' b g a fs∧H' t=some (.tup [.int lo,.int sz])∧
  ∃qs:List (Addr×WP),H' r=some (.lst (qs.map λq=>V.ref q.1))∧(∀q∈qs,H' q.1=some (.tup [.str q.2.1,eV q.2.2.1,eV q.2.2.2])∧(Ke q.2.2.1 q.2.2.2=true∧OnGrid lo sz (2*wide) q.2.2))∧(qs.map (·.2.1)).Sublist (fs.take i)) ?_ ?_ ?_ ?_⟩
 · exact⟨⟨none,none,none,rfl⟩,s0.sameB,(Bg.same s0).mono (by omega),FA0,s0 _ _ et,[],IE,λq hq=>by simp at hq,by simp⟩
 · rintro i σ H' _ ⟨_,_,_,F1,_⟩;exact SqL.of F1.at'
 · rintro i x σ H1 hx ⟨⟨y5,y6,y7,rfl⟩,S1,B1,F1,t1,qs,e1,a1,u1⟩;rw[Af] at hx;cases ef:fs[i]? with
   | none=>rw[ef] at hx;cases hx
   | some f'=>
    rw[ef] at hx;obtain rfl:V.str f'=x:=A4 hx;have li:i<6:=by have:=(An.mp ef).1;have:=FA.len;omega
    refine⟨_,rfl,b,g,l,_,4,rfl,B1,by omega,by decide,by decide,λc H2 c0 c1 B2 S2=>?_⟩;have e2:=S2 _ _ e1 rb rg;have F2:=F1.sameB S2;have t2:=B1.tup S2 t1;have a2:∀q∈qs,H2 q.1=some (.tup [.str q.2.1,eV q.2.2.1,eV q.2.2.2])∧(Ke q.2.2.1 q.2.2.2=true∧OnGrid lo sz (2*wide) q.2.2):=λq hq=>⟨B1.tup S2 (a1 q hq).1,(a1 q hq).2⟩;have u2:(qs.map (·.2.1)).Sublist (fs.take (i+1)):=u1.trans (Fh (by omega));refine⟨_,_,rfl,rfl,_,rfl,Je (λ_=>?_) (λ_=>?_)⟩
    · refine⟨_,rfl,_,rfl,_,rfl,b,g,l,t,_,lo,sz,wide,rfl,B2,by omega,t2,s1,s2,w1,w2,λv lo' hi' H3 sp le3 B3 S3=>?_⟩;have e3:=S3 _ _ e2 rb rg;have F3:=F2.sameB S3;have t3:=B2.tup S3 t2;have S03:=S1.trans (S2.trans S3);have a3:∀q∈qs,H3 q.1=some (.tup [.str q.2.1,eV q.2.2.1,eV q.2.2.2])∧(Ke q.2.2.1 q.2.2.2=true∧OnGrid lo sz (2*wide) q.2.2):=λq hq=>⟨B2.tup S3 (a2 q hq).1,(a2 q hq).2⟩;refine⟨v,_,rfl,SqT.of sp,rfl,_,_,rfl,_,_,rfl,rfl,?_⟩;refine⟨_,rfl,.inl ⟨rfl,_,SqL.of e3⟩,_,rfl,_,rfl,_,rfl,NN,λt' ht=>?_⟩;have st:=IM ht (.tup [V.str f',eV lo',eV hi']);have e4:=st _ _ e3;refine⟨r,_,_,rfl,rfl,e4,(by rw[Ab];have:=u1.length_le;simp at this;exact J7 (by omega)),?_⟩;have tl:=LJ (o:= .lst (qs.map (λq=>V.ref q.1)++[V.ref t'])) e4;have nr:H r=none:=hr';refine⟨⟨_,_,_,rfl⟩,(S03.trans st.sameB).off nr,((B3.same st).off rb rg rl).mono (by omega),?_,tl _ _ (st _ _ t3),qs++[(t',f',lo',hi')],?_,?_,?_⟩
      · have F4:=F3.sameB st.sameB;exact⟨by rw[IZ rf.symm];exact F4.at',F4.nb,F4.ng,F4.len,F4.ok,F4.asc⟩
      · rw[IE,Aq];rfl
      · intro q hq;rcases A3.mp hq with z | z
        · exact⟨tl _ _ (st _ _ (a3 q z).1),(a3 q z).2⟩
        · rw[Aj.mp z];exact⟨tl _ _ IE,le3⟩
      · rw[Aq,Jt ef];exact u1.append (Ek _)
    · exact⟨⟨_,_,_,rfl⟩,S1.trans S2,B2.mono (by omega),F2,t2,qs,e2,a2,u2⟩
 · rintro σ H1 ⟨⟨y5,y6,y7,rfl⟩,S1,B1,F1,t1,qs,e1,a1,u1⟩;rw[show fs.take (fs.map V.str).length=fs from A0 (by simp)] at u1;have ll:qs.length≤6:=by have h1:=u1.length_le;have h2:=FA.len;rw[Ab] at h1;omega
   refine⟨_,rfl,r,_,rfl,.inl ⟨SqL.of e1,λt ht=>?_⟩⟩;have st:=IM ht (.tup (qs.map λq=>V.ref q.1));have sub:∀q∈qs,q.2.1∈fs:=λq hq=>u1.subset (Az (f:=λ(x:Addr×WP)=>x.2.1) hq);refine q t (qs.map (·.2)) _ ⟨qs,rfl,IE,λq hq=>st _ _ (a1 q hq).1⟩ ⟨by rw[Ab];omega,λp hp=>?_,?_⟩ (λp hp=>?_) (by rw[Ab];exact ll) ((B1.same st).mono (by rw[Ab];have:=FA.len;omega)) (S1.trans st.sameB)
   · obtain⟨q',hq',rfl⟩:=AB.mp hp;exact⟨FA.ok _ (sub q' hq'),(a1 q' hq').2.1⟩
   · rw[Bx];exact FA.asc.sublist u1
   · obtain⟨q',hq',rfl⟩:=AB.mp hp;exact⟨sub q' hq',(a1 q' hq').2.2⟩
theorem zfK(F:Fun K "_law_wishes" "_law_wishes" RC f fd)(Ib:Γ30 P w K mg base)(Ih:Γ36 P w K mg base):FnOk P w K mg base Jc 4 f fd ["well","names","grid","wide","many"] (V6):=by
 refine F.ok Hn (λvs H Q E h=>?_) (λcdv A outer s H vs Q E hr h=>?_)
 · obtain⟨b,g,l,a,t,n,lo,sz,wide,many,fs,rfl,Bg,hn,FA,et,s1,s2,w1,w2,m0,m1,q⟩:=h;rfl
 obtain⟨b,g,l,a,t,n,lo,sz,wide,many,fs,rfl,Bg,hn,FA,et,s1,s2,w1,w2,m0,m1,q⟩:=h;refine⟨_,(II (IY (i:=5) Hn.nd rfl (Or.inl rfl) (Kb IB))
  (II (Kj AV rfl (Oj rfl B.range_ (I0 (pv 4) IB)) (IP (i:=6) Hn.nd rfl (Or.inl rfl)) (II (IY (i:=7) Hn.nd rfl (Or.inl rfl) (IS Ib (hr.mono (by decide)) rfl (I0 (pv 0) (I0 IF IB))))
  (II (IY (i:=8) Hn.nd rfl (Or.inl rfl) (IS Ih (hr.mono (by decide)) rfl (I0 (pv 0) (I0 (pv 1) (I0 (pv 2) (I0 (pv 3) IB))))))
  (II (Jo (PW.pt (LW (Jn (Tp (KR hr)) (pv 5) (Kb IB) (Ji _)) (M0 (Jn NP (pv 7) IF (Ji _))))) (II (IY (i:=9) Hn.nd rfl (Or.inl rfl) (Jf JV (pv 5) (IS Ib (hr.mono (by decide)) rfl (I0 (pv 0) (I0 (Jd Kw rfl B.len_ JZ (I0 (pv 5) IB)) IB))) (λ_ _=>rfl)))
  (II (IY (i:=10) Hn.nd rfl (Or.inl rfl) (IS Ib (hr.mono (by decide)) rfl (I0 (pv 0) (I0 (IW Ka (Jd Kw rfl B.len_ JZ (I0 (pv 9) IB)) IF) IB))))
  (IL (IY (i:=8) Hn.nd rfl (Or.inl rfl) (My (Jn Ld (pv 7) IF (Ji _)) (pv 9) (IW Pk (LK Pg (pv 9) LG (LH (pv 10))) (LK Pg (pv 9) (LH (IW Ka (pv 10) IF)) LG))))))) Jm)
  (IL (L0 (LS BS BZ B_ LY (pv 5) (I0 (pv 8) IB))))))))
  (IL (IT (pv 5))))),?_⟩
 refine⟨KM,λr hr'=>?_⟩;obtain⟨rb,rg,rl⟩:=Bg.free hr';have s0:=IM hr' (.lst []);have e0:(IC H r (.lst [])) r=some (.lst []):=IE;have FA0:=FA.sameB s0.sameB;have rf:r≠a:=λe=>by rw[e,FA.at'] at hr';cases hr'
 have nr:H r=none:=hr';have B0:=Bg.same s0;have t0:=s0 _ _ et;generalize IC H r (.lst [])=H0 at*;obtain⟨N,rfl,N1⟩:∃N:Nat,many=(N:Int)∧N≤400:=⟨many.toNat,by omega,by omega⟩;refine⟨_,rfl,_,rfl,by omega,by omega,Ra (lo:=0) (n:=N) (λi σ H'=>(∃y6 y7 y8 y9 y10,σ=[some (.ref b),some (.ref a),some (.ref t),some (.int wide),some (.int (N:Int)),some (.ref r),y6,y7,y8,y9,y10])∧SameB b g H H'∧Well H' b g l (n+40*i)∧NamesAt H' b g a fs∧H' t=some (.tup [.int lo,.int sz])∧
  ∃ws:List (Addr×List WP),H' r=some (.lst (ws.map λx=>V.ref x.1))∧ws.length=i∧∀x∈ws,WishAt H' x.1 x.2∧WOk x.2∧NI fs lo sz wide x.2∧x.2.length≤6) ?_ ?_ ?_⟩
 · exact⟨⟨none,none,none,none,none,rfl⟩,s0.sameB,B0.mono (by omega),FA0,t0,[],e0,rfl,λx hx=>by simp at hx⟩
 · rintro i σ H1 hi ⟨⟨y6,y7,y8,y9,y10,rfl⟩,S1,B1,F1,t1,ws,e1,lw,g1⟩;refine⟨_,rfl,b,g,l,_,6,rfl,B1,by omega,by decide,by decide,λpick H2 p0 p1 B2 S2=>?_⟩;refine⟨_,rfl,_,rfl,_,rfl,_,rfl,b,g,l,a,t,_,lo,sz,wide,fs,rfl,B2,by omega,F1.sameB S2,B1.tup S2 t1,s1,s2,w1,w2,λwr w H3 W3 ok3 in3 len3 B3 S3=>?_⟩;have S13:=S2.trans S3;have e3:=S13 _ _ e1 rb rg;have F3:=F1.sameB S13;have t3:=B2.tup S3 (B1.tup S2 t1);have g3:∀x∈ws,WishAt H3 x.1 x.2∧WOk x.2∧NI fs lo sz wide x.2∧x.2.length≤6:=λx hx=>⟨((g1 x hx).1.sameW B1 S2).sameW B2 S3,(g1 x hx).2⟩;refine MY ?_;dsimp only;refine Mb (λσ' H'=>∃(wr:Addr)(w:List WP)(y9 y10:Option V),σ'=[some (.ref b),some (.ref a),some (.ref t),some (.int wide),some (.int (N:Int)),some (.ref r),some (.int (0+(i:Int))),some (.int pick),some (.ref wr),y9,y10]∧WishAt H' wr w∧WOk w∧NI fs lo sz wide w∧w.length≤6∧SameB b g H3 H'∧Well H' b g l (n+40*i+35)) (λZ hZ=>?_) ?_
   · refine⟨_,rfl,KM,λep hep=>?_⟩;have s4:=IM hep (.lst []);have e4:=s4 _ _ e3;have g4:∀x∈ws,WishAt (IC H3 ep (.lst [])) x.1 x.2∧WOk x.2∧NI fs lo sz wide x.2∧x.2.length≤6:=λx hx=>⟨(g3 x hx).1.same s4,(g3 x hx).2⟩;have B4:=B3.same s4;have W4:=W3.same s4;have h4:(IC H3 ep (.lst [])) ep=some (.lst []):=IE;generalize IC H3 ep (.lst [])=H4 at*;have nope:Z [some (.ref b),some (.ref a),some (.ref t),some (.int wide),some (.int (N:Int)),some (.ref r),some (.int (0+(i:Int))),some (.int pick),some (.ref wr),y9,y10] H4:=hZ _ _ ⟨wr,w,y9,y10,rfl,W4,ok3,in3,len3,s4.sameB,B4.mono (by omega)⟩;refine⟨r,ep,_,rfl,rfl,e4,h4,_,rfl,?_⟩;by_cases hw:ws=[]
     · subst hw;exact IA (IA nope)
     · have wpos:0<ws.length:=List.length_pos_iff.mpr hw;have ne:(ws.map λx=>V.ref x.1).isEmpty=false:=by
        cases ws with
        | nil=>exact absurd rfl hw
        | cons x0 r0=>rfl
       rw[ne];refine ID ⟨_,rfl,_,_,rfl,rfl,_,rfl,Je (λ_=>?_) (λ_=>nope)⟩;refine⟨_,rfl,_,rfl,_,rfl,r,_,rfl,.inl (SqL.of e4),b,g,l,_,_,rfl,B4,by omega,by rw[Ab];omega,Mr (by rw[Ab];omega),λk H5 k0 k1 B5 S5=>?_⟩;have e5:=S5 _ _ e4 rb rg;rw[Ab] at k1;obtain⟨j,rfl⟩:∃j:Nat,k=(j:Int):=⟨k.toNat,by omega⟩;obtain⟨X1,eX⟩:∃X1,ws[j]?=some X1:=⟨ws[j]'(by omega),Al (by omega)⟩;have hX:Km (ws.map λx=>V.ref x.1) (j:Int)=some (V.ref X1.1):=Lg (by rw[Af,eX];rfl);obtain⟨x1,x2,x3,x4⟩:=g4 X1 (Ag eX);have x5:=x1.sameW B4 S5;refine⟨r,_,_,_,rfl,rfl,SqL.of e5,hX,?_⟩;obtain⟨xs1,ex1,lx1⟩:=x5.tyN;refine⟨_,rfl,_,rfl,X1.1,_,rfl,.inr (SqT.of ex1),_,_,rfl,rfl,b,g,l,_,_,rfl,B5,by omega,by omega,Mr (by omega),λat' H6 a0 a1 B6 S6=>?_⟩;have x6:=x5.sameW B5 S6;have S36:=s4.sameB.trans (S5.trans S6);refine⟨_,rfl,rfl,_,rfl,Je (λ_=>⟨_,rfl,hZ _ _ ⟨X1.1,X1.2,_,_,rfl,x6,x2,x3,x4,S36,B6.mono (by omega)⟩⟩) (λ_=>?_)⟩;obtain⟨k',rfl⟩:∃k':Nat,at'=(k':Int):=⟨at'.toNat,by omega⟩;obtain⟨ps,hps,hA,hP⟩:=x6;have lps:ps.length≤6:=by rw[←hps,Ab] at x4;exact x4
       refine⟨_,rfl,_,rfl,_,rfl,X1.1,_,rfl,hA,λp1 H12 s12 e12=>?_⟩;rw[VS rfl,←Ey] at e12;refine⟨_,rfl,_,rfl,_,_,rfl,rfl,_,rfl,X1.1,_,rfl,s12 _ _ hA,λp2 H13 s13 e13=>?_⟩;rw[VR (n:=k'+1) (by omega),←List.map_drop] at e13;refine⟨p1,p2,_,_,rfl,rfl,s13 _ _ e12,e13,(by rw[Ab,AE,Ab,D6];exact MF (by omega)),λr2 H14 s14 e14=>?_⟩;rw[←Aq] at e14;have tt:=s12.trans (s13.trans s14);have sub:(ps.take k'++ps.drop (k'+1)).Sublist ps:=by rw[←List.eraseIdx_eq_take_drop_succ];exact List.eraseIdx_sublist ..
       have subw:((ps.take k'++ps.drop (k'+1)).map (·.2)).Sublist X1.2:=by rw[←hps];exact sub.map _
       refine hZ _ _ ⟨r2,(ps.take k'++ps.drop (k'+1)).map (·.2),_,_,rfl,⟨_,rfl,e14,λx hx=>tt _ _ (hP x (sub.subset hx))⟩,⟨AD subw.length_le x2.len,λp hp=>x2.ok p (subw.subset hp),x2.asc.sublist (subw.map _)⟩,λp hp=>x3 p (subw.subset hp),AD subw.length_le x4,S36.trans tt.sameB,(B6.same tt).mono (by omega)⟩
   rintro σ' H5 ⟨wr,w,y9,y10,rfl,W5,ok5,in5,len5,S5,B5⟩;have e5:=S5 _ _ e3 rb rg;have F5:=F3.sameB S5;refine⟨_,rfl,.inl ⟨rfl,_,SqL.of e5⟩,_,rfl,r,_,_,rfl,rfl,e5,(by rw[Ab];exact J7 (by omega)),?_⟩;have tl:=LJ (o:= .lst (ws.map (λq=>V.ref q.1)++[V.ref wr])) e5;refine⟨⟨_,_,_,_,_,rfl⟩,((S1.trans S13).trans S5).off nr,(B5.off rb rg rl).mono (by omega),⟨by rw[IZ rf.symm];exact F5.at',F5.nb,F5.ng,F5.len,F5.ok,F5.asc⟩,tl _ _ (B3.tup S5 t3),ws++[(wr,w)],by rw[IE,Aq];rfl,by rw[A6,lw];rfl,λx hx=>?_⟩;rcases A3.mp hx with z | z
   · exact⟨((g3 x z).1.sameW B3 S5).keep tl,(g3 x z).2⟩
   · rw[Aj.mp z];exact⟨W5.keep tl,ok5,in5,len5⟩
 · rintro σ H1 ⟨⟨y6,y7,y8,y9,y10,rfl⟩,S1,B1,F1,t1,ws,e1,lw,g1⟩;exact⟨_,rfl,q r ws _ nr ⟨e1,λx hx=>⟨(g1 x hx).1,(g1 x hx).2.1⟩,by omega⟩ (by omega) (λx hx=>(g1 x hx).2.2) (B1.mono (by omega)) S1⟩
theorem zhF(F:Fun K "_law_part" "_law_part" Rv f fd)  :FnOk P w K mg base Jc 1 f fd ["wish","field"] (Tw):=by
 refine F.ok Ho (λvs H Q E h=>?_) (λcdv A outer s H vs Q E hr h=>?_)
 · obtain⟨a,w',f',rfl,hw,wok,q⟩:=h;rfl
 obtain⟨a,w',f',rfl,hw,wok,q⟩:=h;refine⟨_,(II (Kj AV rfl (KQ (pv 0)) (K6 rfl (Jg (IP (i:=2) Ho.nd rfl (Or.inl rfl)) (Jg (IP (i:=3) Ho.nd rfl (Or.inl rfl)) (Jg (IP (i:=4) Ho.nd rfl (Or.inl rfl)) Kh)))) (IL (Jo (Jn Ld (pv 2) (pv 1) (Ji _)) (IL (IT (J0 (I0 (pv 3) (I0 (pv 4) IB))))) Jm)))
  (IL (IT Le))),?_⟩
 obtain⟨ps,rfl,hA,hP⟩:=hw;refine⟨_,rfl,a,rfl,⟨_,SqT.of hA⟩,MN (K:=K) (a:=a) (xs:=ps.map λp=>V.ref p.1) (λi σ H'=>(∃y2 y3 y4,σ=[some (.ref a),some (.str f'),y2,y3,y4])∧Same H H'∧∀p∈(ps.map (·.2)).take i,p.1≠f') ⟨⟨none,none,none,rfl⟩,Same.refl _,λp hp=>by simp at hp⟩ (λi σ H' _ ⟨_,s,_⟩=>s.seqT (SqT.of hA)) ?_ ?_⟩
 · rintro i x σ H' hx ⟨⟨y2,y3,y4,rfl⟩,s,hr'⟩;obtain⟨P1,e1,rfl⟩:=IU hx;have hm:=Ag e1;have ew:(ps.map (·.2))[i]?=some P1.2:=by rw[Af,e1];rfl
   refine⟨P1.1,_,rfl,SqT.of (s _ _ (hP P1 hm)),rfl,_,_,rfl,_,_,rfl,_,_,rfl,rfl,?_⟩;refine⟨_,rfl,_,rfl,rfl,_,rfl,Je (λe=>?_) (λe=>?_)⟩
   · have e:P1.2.1=f':=by
      have:=of_decide_eq_true e;injection this
     refine⟨_,rfl,_,rfl,Jx,λu hu=>?_⟩;have su:=IM hu (.tup [eV P1.2.2.1,eV P1.2.2.2]);refine q _ _ (s.trans su) ?_;rw[zj1 ew e hr'];exact⟨u,rfl,IE⟩
   · refine⟨⟨_,_,_,rfl⟩,s,λp hp=>?_⟩;rw[Jt ew] at hp;rcases A3.mp hp with z | z
     · exact hr' p z
     · rw[Aj.mp z];exact λz=>e (decide_eq_true (by rw[z]))
 · rintro σ H' ⟨_,s,hr'⟩;rw[Ab,A0 (by simp)] at hr';refine q _ _ s ?_;rw[Wi hr']
theorem zfN(F:Fun K "_law_covers" "_law_covers" RA f fd)(Ii:Γ38 P w K mg base):FnOk P w K mg base Jc 2 f fd ["one","other"] (TW):=by
 refine F.ok Hq (λvs H Q E h=>?_) (λcdv A outer s H vs Q E hr h=>?_)
 · obtain⟨a,b,w1,w2,rfl,hw1,hw2,ok1,ok2,q⟩:=h;rfl
 obtain⟨a,b,w1,w2,rfl,hw1,hw2,ok1,ok2,q⟩:=h;refine⟨_,(II (Kj AV rfl (KQ (pv 0)) (K6 rfl (Jg (IP (i:=2) Hq.nd rfl (Or.inl rfl)) (Jg (IP (i:=3) Hq.nd rfl (Or.inl rfl)) (Jg (IP (i:=4) Hq.nd rfl (Or.inl rfl)) Kh)))) (II (IY (i:=5) Hq.nd rfl (Or.inl rfl) (IS Ii (hr.mono (by decide)) rfl (I0 (pv 1) (I0 (pv 2) IB))))
  (II (Jo (JU (Ku (pv 5))) (IL (IT JI)) Jm)
  (II (Jo (PW.pt (LW (JU (KZ (pv 3))) (M0 (PW.pt (Kn (JU (Ku (Jf JM (pv 5) IF (λ_ _=>rfl)))) (KB (Jn NP (Jf JM (pv 5) IF (λ_ _=>rfl)) (pv 3) (Ji _)))))))) (IL (IT JI)) Jm)
  (IL (Jo (PW.pt (LW (JU (KZ (pv 4))) (M0 (PW.pt (Kn (JU (Ku (Jf JM (pv 5) IF (λ_ _=>rfl)))) (KB (Jn Mt (Jf JM (pv 5) IF (λ_ _=>rfl)) (pv 4) (Ji _)))))))) (IL (IT JI)) Jm))))))
  (IL (IT JI))),?_⟩
 obtain⟨ps,rfl,hA,hP⟩:=hw1;refine⟨_,rfl,a,rfl,⟨_,SqT.of hA⟩,MN (K:=K) (a:=a) (xs:=ps.map λp=>V.ref p.1) (λi σ H'=>(∃y2 y3 y4 y5,σ=[some (.ref a),some (.ref b),y2,y3,y4,y5])∧Same H H'∧JC ((ps.map (·.2)).take i) w2=true) ⟨⟨none,none,none,none,rfl⟩,Same.refl _,rfl⟩ (λi σ H' _ ⟨_,s,_⟩=>s.seqT (SqT.of hA)) ?_ ?_⟩
 · rintro i x σ H' hx ⟨⟨y2,y3,y4,y5,rfl⟩,s,hr'⟩;obtain⟨P1,e1,rfl⟩:=IU hx;have hm:=Ag e1;have ew:(ps.map (·.2))[i]?=some P1.2:=by rw[Af,e1];rfl
   refine⟨P1.1,_,rfl,SqT.of (s _ _ (hP P1 hm)),rfl,_,_,rfl,_,_,rfl,_,_,rfl,rfl,?_⟩;have out:Mx w2 P1.2=false→∀H2,Same H H2→Q (.bl false) H2:=λh H2 s2=>by
    have:JC (ps.map (·.2)) w2=false:=by unfold JC;rw[Eh];exact⟨P1.2,Az hm,by rw[h];exact Au⟩
    rw[this] at q;exact q _ s2
   have good:Mx w2 P1.2=true→JC ((ps.map (·.2)).take (i+1)) w2=true:=λh=>by rw[Jt ew];unfold JC at*;rw[DM,hr',Ex,C5,FV,h];rfl
   refine⟨_,rfl,_,rfl,b,w2,P1.2.1,rfl,hw2.same s,ok2,λv H2 s2 hv=>?_⟩;have t2:=s.trans s2;cases hs:IR w2 P1.2.1 with
   | none=> rw[hs] at hv;obtain rfl:v= .non:=hv;exact⟨_,rfl,_,rfl,ID (out (Wh hs) _ t2)⟩
   | some sp=>
    rw[hs] at hv;obtain⟨t,rfl,et⟩:=hv;refine⟨_,rfl,_,rfl,IA ?_⟩;have rp:=Rh hs;obtain⟨lo2,hi2⟩:=sp;obtain⟨pa,f',lo,hi⟩:=P1;unfold SR;dsimp only at*;refine Mb (λσ' H'=>σ'=[some (.ref a),some (.ref b),some (.str f'),some (eV lo),some (eV hi),some (.ref t)]∧H'=H2∧LP lo lo2=true) (λZ hZ=>?_) ?_
    · have nx:LP lo lo2=true→Z [some (.ref a),some (.ref b),some (.str f'),some (eV lo),some (eV hi),some (.ref t)] H2:=λh=>hZ _ _ ⟨rfl,rfl,h⟩;cases lo with
      | none=>exact⟨_,rfl,_,rfl,IA (IA (nx rfl))⟩
      | some l=>
       cases lo2 with
       | none=>exact⟨_,rfl,_,rfl,ID ⟨_,rfl,t,_,0,_,rfl,rfl,SqT.of et,rfl,_,rfl,ID (ID (out (rp.trans (by simp[Lv,LP,NG])) _ t2))⟩⟩
       | some o=>
        refine⟨_,rfl,_,rfl,ID ⟨_,rfl,t,_,0,_,rfl,rfl,SqT.of et,rfl,_,rfl,IA ⟨_,rfl,t,_,0,_,rfl,rfl,SqT.of et,rfl,_,rfl,_,_,rfl,rfl,_,rfl,Je (λh=>?_) (λh=>?_)⟩⟩⟩
        · have h:=of_decide_eq_true h;exact out (rp.trans (by simp[Lv,LP,NG];omega)) _ t2
        · have h:=of_decide_eq_false (Dz.mpr h);exact nx (decide_eq_true (by omega))
    · rintro σ' H4 ⟨rfl,e4,hd⟩;rw[e4];clear e4 H4;have nx:NG hi hi2=true→(∃y2 y3 y4 y5,[some (V.ref a),some (.ref b),some (.str f'),some (eV lo),some (eV hi),some (.ref t)]=[some (V.ref a),some (.ref b),y2,y3,y4,y5])∧Same H H2∧JC ((ps.map (·.2)).take (i+1)) w2=true:=λh=>⟨⟨_,_,_,_,rfl⟩,t2,good (rp.trans (by unfold Lv;rw[hd,h];rfl))⟩;cases hi with
      | none=>exact⟨_,rfl,_,rfl,IA (IA (nx rfl))⟩
      | some l=>
       cases hi2 with
       | none=>exact⟨_,rfl,_,rfl,ID ⟨_,rfl,t,_,1,_,rfl,rfl,SqT.of et,rfl,_,rfl,ID (ID (out (rp.trans (by simp[Lv,LP,NG])) _ t2))⟩⟩
       | some o=>
        refine⟨_,rfl,_,rfl,ID ⟨_,rfl,t,_,1,_,rfl,rfl,SqT.of et,rfl,_,rfl,IA ⟨_,rfl,t,_,1,_,rfl,rfl,SqT.of et,rfl,_,rfl,_,_,rfl,rfl,_,rfl,Je (λh=>?_) (λh=>?_)⟩⟩⟩
        · have h:=of_decide_eq_true h;exact out (rp.trans (by simp[Lv,LP,NG];omega)) _ t2
        · have h:=of_decide_eq_false (Dz.mpr h);exact nx (decide_eq_true (by omega))
 · rintro σ H' ⟨_,s,hr'⟩;rw[Ab,A0 (by simp)] at hr';rw[hr'] at q;exact q _ s
theorem zhE(F:Fun K "_law_rank" "_law_rank" Rw f fd)  :FnOk P w K mg base Jc 1 f fd ["wish"] (Ut K):=by
 refine F.ok Hr (λvs H Q E h=>?_) (λcdv A outer s H vs Q E hr h=>?_)
 · obtain⟨a,w',rfl,hw,wok,q⟩:=h;rfl
 obtain⟨a,w',rfl,hw,wok,q⟩:=h;refine⟨_,(II (IY (i:=1) Hr.nd rfl (Or.inl rfl) (Kb IB))
  (II (Kj AV rfl (KQ (pv 0)) (K6 rfl (Jg (IP (i:=2) Hr.nd rfl (Or.inl rfl)) (Jg (IP (i:=3) Hr.nd rfl (Or.inl rfl)) (Jg (IP (i:=4) Hr.nd rfl (Or.inl rfl)) Kh)))) (IL (L0 (LS BS BZ B_ LY (pv 1) (I0 (J0 (I0 (pv 2) (I0 (Ls (KZ (pv 3))) (I0 (My (JU (Ku (pv 3))) IF (pv 3)) (I0 (Ls (Ku (pv 4))) (I0 (My (JU (Ku (pv 4))) IF (pv 4)) IB)))))) IB)))))
  (IL (IT (MZ PY rfl B.tuple_ Lk (I0 (pv 1) IB)))))),?_⟩
 obtain⟨ps,rfl,hA,hP⟩:=hw;refine⟨KM,λr hr'=>?_⟩;have s0:=IM hr' (.lst []);refine⟨_,rfl,a,rfl,⟨_,SqT.of (s0 _ _ hA)⟩,MN (K:=K) (a:=a) (xs:=ps.map λp=>V.ref p.1) (λi σ H'=>(∃y2 y3 y4,σ=[some (.ref a),some (.ref r),y2,y3,y4])∧Same H H'∧∃qs:List (Addr×WP),H' r=some (.lst (qs.map λq=>V.ref q.1))∧qs.map (·.2)=(ps.map (·.2)).take i∧∀q∈qs,H' q.1=some (.tup (Mg q.2))) ⟨⟨none,none,none,rfl⟩,s0,[],IE,rfl,λq hq=>by simp at hq⟩ (λi σ H' _ ⟨_,s,_⟩=>s.seqT (SqT.of hA)) ?_ ?_⟩
 · rintro i x σ H' hx ⟨⟨y2,y3,y4,rfl⟩,s,qs,ev,rv,aq⟩;obtain⟨P1,e1,rfl⟩:=IU hx;have hm:=Ag e1;have ew:(ps.map (·.2))[i]?=some P1.2:=by rw[Af,e1];rfl
   refine⟨P1.1,_,rfl,SqT.of (s _ _ (hP P1 hm)),rfl,_,_,rfl,_,_,rfl,_,_,rfl,rfl,?_⟩;have lv:(qs.map λq=>V.ref q.1).length<Ay:=by have h1:=congrArg Be rv;rw[Ab,AE] at h1;rw[Ab];have h2:=wok.len;exact J7 (by omega)
   obtain⟨pa,f',lo,hi⟩:=P1;dsimp only at*;have fin:∀u,H' u=none→Uj (V.ref r) [V.ref u] (IC H' u (.tup (Mg (f',lo,hi)))) λx H1=>(∃y2 y3 y4,[some (V.ref a),some (V.ref r),some (.str f'),some (eV lo),some (eV hi)]=[some (V.ref a),some (V.ref r),y2,y3,y4])∧Same H H1∧∃qs:List (Addr×WP),H1 r=some (.lst (qs.map λq=>V.ref q.1))∧qs.map (·.2)=(ps.map (·.2)).take (i+1)∧∀q∈qs,H1 q.1=some (.tup (Mg q.2)):=λu hu=>by
    have su:=IM hu (.tup (Mg (f',lo,hi)));have eu:(IC H' u (.tup (Mg (f',lo,hi)))) u=some (.tup (Mg (f',lo,hi))):=IE;generalize IC H' u (.tup (Mg (f',lo,hi)))=H2 at*;have tl:=LJ (o:= .lst (qs.map (λq=>V.ref q.1)++[V.ref u])) (su _ _ ev);refine⟨r,_,_,rfl,rfl,su _ _ ev,lv,⟨_,_,_,rfl⟩,JP (s.trans su) hr',qs++[(u,f',lo,hi)],by rw[IE,Aq];rfl,by rw[Aq,rv,Jt ew];rfl,λq hq=>?_⟩;rcases A3.mp hq with z | z
    · exact tl _ _ (su _ _ (aq q z))
    · rw[Aj.mp z];exact tl _ _ eu
   refine⟨_,rfl,.inl ⟨rfl,_,SqL.of ev⟩,?_⟩;cases lo with
   | none=>
    cases hi with
    | none=>exact⟨_,rfl,_,rfl,_,rfl,_,rfl,ID ⟨_,rfl,_,rfl,_,rfl,ID ⟨OS,λu hu=>fin u hu⟩⟩⟩
    | some h=>exact⟨_,rfl,_,rfl,_,rfl,_,rfl,ID ⟨_,rfl,_,rfl,_,rfl,IA ⟨_,rfl,OS,λu hu=>fin u hu⟩⟩⟩
   | some l=>
    cases hi with
    | none=>exact⟨_,rfl,_,rfl,_,rfl,_,rfl,IA ⟨_,rfl,_,rfl,_,rfl,_,rfl,ID ⟨OS,λu hu=>fin u hu⟩⟩⟩
    | some h=>exact⟨_,rfl,_,rfl,_,rfl,_,rfl,IA ⟨_,rfl,_,rfl,_,rfl,_,rfl,IA ⟨_,rfl,OS,λu hu=>fin u hu⟩⟩⟩
 · rintro σ H' ⟨⟨y2,y3,y4,rfl⟩,s,qs,ev,rv,aq⟩;rw[Ab,A0 (by simp)] at rv;refine⟨_,rfl,r,_,rfl,.inl ⟨SqL.of ev,λt ht=>?_⟩⟩;have st:=IM ht (.tup (qs.map λq=>V.ref q.1));refine q _ _ (s.trans st) ?_;unfold LM;rw[Rep,←rv];exact⟨t,_,rfl,SqT.of IE,Ul qs λx hx=>st _ _ (aq x hx)⟩
theorem zeK(F:Fun K "_law_greatest" "_law_greatest" NF f fd)(Ij:Γ40 P w K mg base)(Ik:Γ39 P w K mg base):FnOk P w K mg base Jc 4 f fd ["wishes"] (OZ):=by
 refine F.ok Hs (λvs H Q E h=>?_) (λcdv A outer s H vs Q E hr h=>?_)
 · obtain⟨l,ws,rfl,hw,l7,q⟩:=h;rfl
 obtain⟨l,ws,rfl,hw,l7,q⟩:=h;refine⟨_,(II (IY (i:=1) Hs.nd rfl (Or.inr rfl) (Kb IB))
  (II (Kj AV rfl (JO (pv 0)) (IP (i:=2) Hs.nd rfl (Or.inl rfl)) (IL (Jo (Jn (zkG (KR hr)) (pv 2) (pv 1) (by with_unfolding_all rfl)) (IL (L0 (LS BS BZ B_ LY (pv 1) (I0 (pv 2) IB)))) Jm)))
  (II (MR (N':=["wish","some"]) (js:=[none,some 1]) (i:=3) Hs.nd rfl (Or.inl rfl) rfl (JE (N:=["wishes","some","wish","top"]) (outer:=IQ NF) (by decide+kernel)) (JO (pv 1)) (λ_ _ _ _ _=>(IP (i:=0) OE rfl (Or.inr rfl))) (λ_ _ _ _ _=>K_ (Jn (To (KR hr)) (K5 (N':=["one","wish"]) (js:=[none,some 0]) rfl (JE (N:=["wish","some"]) (outer:=R_ (IQ NF) (Xf NF 2)) (by decide+kernel)) (Vi K rfl (pv 1)) (λ_ _ _ _ _=>(IP (i:=0) M6 rfl (Or.inl rfl))) (λ_ _ _ _ _=>K_ (PW.pt (LW (Jn (Q7 K rfl (KR hr)) (pv 0) (pv 1) (Ji _)) (M0 (JN (IS Ik (hr.mono (by decide)) rfl (I0 (pv 0) (I0 (pv 1) IB)))))))) (λ_ _ _ _ _=>(pv 0))) (Kb IB) (Ji _))) (λ_ _ _ _ _=>(pv 0)))
  (IL (IT (Wa Ij (hr.mono (by decide)) rfl B.sorted_ rfl (I0 (pv 3) IB))))))),?_⟩
 have hA:=hw.at';refine⟨KM,λsr hsr=>?_⟩;have s0:=IM hsr (.lst []);have sl:sr≠l:=λe=>by rw[e,hA] at hsr;cases hsr
 refine⟨_,rfl,l,rfl,⟨_,SqL.of (s0 _ _ hA)⟩,L_ (K:=K) (a:=l) (xs:=ws.map λx=>V.ref x.1) (λi σ H'=>(∃y2 y3,σ=[some (.ref l),some (.ref sr),y2,y3])∧Same H H'∧∃ks,Dd (ws.take i) ks∧H' sr=some (.lst (ks.map λx=>V.ref x.1))) ⟨⟨none,none,rfl⟩,s0,[],Dd.nil,IE⟩ (λi σ H' _ ⟨_,s,_⟩=>SqL.of (s _ _ hA)) ?_ ?_⟩
 · rintro i x σ H1 hx ⟨⟨y2,y3,rfl⟩,s1,ks,dd,e1⟩;obtain⟨X1,ew,rfl⟩:=IU hx;have x1:=((hw.ok X1 (Ag ew)).1).same s1;have wk:∀k∈ks,WishAt H1 k.1 k.2:=λk hk=>((hw.ok k (BW (dd.sub k hk))).1).same s1;have dn:=dd.put X1;rw[←Jt ew] at dn;unfold KN at dn;refine⟨_,rfl,_,rfl,sr,ks.map λk=>(k.1,dW k.2),dW X1.2,rfl,SqL.of (by rw[Bx];exact e1),λp hp=>?_,Lp x1,?_⟩
   · obtain⟨k,hk,rfl⟩:=AB.mp hp;exact⟨Lp (wk k hk),AD (Ny _) (by decide)⟩
   · have ea:((ks.map λk=>(k.1,dW k.2)).any λp=>IK p.2 (dW X1.2))=ks.any λk=>decide (k.2=X1.2):=by
      rw[FR];exact congrArg (λf=>ks.any f) (funext λk=>Nx k.2 X1.2)
     rw[ea];cases c:ks.any λk=>decide (k.2=X1.2) with
     | true=> rw[if_pos c] at dn;exact⟨_,rfl,IA ⟨⟨_,_,rfl⟩,s1,ks,dn,e1⟩⟩
     | false=>
      rw[if_neg (by rw[c];exact Au)] at dn;refine⟨_,rfl,ID ⟨_,rfl,.inl ⟨rfl,_,SqL.of e1⟩,_,rfl,sr,_,_,rfl,rfl,e1,?_,?_⟩⟩
      · rw[Ab];have h1:=dd.len;have h2:=hw.len;rw[AE] at h1;exact J7 (by omega)
      · exact⟨⟨_,_,rfl⟩,JP s1 hsr,ks++[(X1.1,X1.2)],dn,by rw[IE,Aq];rfl⟩
 · rintro σ H1 ⟨⟨y2,y3,rfl⟩,s1,ks,dd,e1⟩;rw[Ab,Bd] at dd;have wk:∀k∈ks,WishAt H1 k.1 k.2∧WOk k.2:=λk hk=>⟨((hw.ok k (dd.sub k hk)).1).same s1,(hw.ok k (dd.sub k hk)).2⟩;have lk:ks.length≤800:=AD dd.len hw.len;refine⟨_,rfl,sr,rfl,⟨_,SqL.of e1⟩,λtp htp=>?_⟩;have sp:=IM htp (.lst []);refine Lj (xs:=ks.map λx=>V.ref x.1) (λi σ' ys H'=>(∃v,σ'=[v,some (.ref sr)])∧Same H1 H'∧H' tp=some (.lst ys)∧ys=((ks.take i).filter λk=>J_ ks k.2).map λx=>V.ref x.1) ⟨⟨none,rfl⟩,sp,IE,rfl⟩ ?_ ?_ ?_
   · rintro i σ' ys H' hi ⟨_,s,h1,h2⟩;refine⟨s.seq (SqL.of e1),h1,?_⟩;rw[h2,Ab];have h3:=AX (λk=>J_ ks k.2) (ks.take i);rw[AE] at h3;exact J7 (by omega)
   · rintro i x σ' ys H2 N hx ⟨⟨v,rfl⟩,s2,h1,h2⟩ hN;obtain⟨X1,ew,rfl⟩:=IU hx;obtain⟨x1,x2⟩:=wk X1 (Ag ew);refine⟨_,rfl,sr,rfl,⟨_,SqL.of (s2 _ _ e1)⟩,λip hip=>?_⟩;refine Lj (xs:=ks.map λx=>V.ref x.1) (λj σ' zs H'=>(∃v,σ'=[v,some (.ref X1.1)])∧Same H2 H'∧H' ip=some (.lst zs)∧zs=((ks.take j).filter λk=>!decide (k.2=X1.2) && JC k.2 X1.2).map λx=>V.ref x.1) ⟨⟨none,rfl⟩,IM hip _,IE,rfl⟩ ?_ ?_ ?_
     · rintro j σ' zs H' hj ⟨_,s,g1,g2⟩;refine⟨s.seq (SqL.of (s2 _ _ e1)),g1,?_⟩;rw[g2,Ab];have h3:=AX (λk:Addr×List WP=>!decide (k.2=X1.2) && JC k.2 X1.2) (ks.take j);rw[AE] at h3;exact J7 (by omega)
     · rintro j x σ' zs H3 N3 hx ⟨⟨v,rfl⟩,s3,g1,g2⟩ hN3;obtain⟨O1,eo,rfl⟩:=IU hx;obtain⟨o1,o2⟩:=wk O1 (Ag eo);have st:((ks.take (j+1)).filter λk=>!decide (k.2=X1.2) && JC k.2 X1.2)=(ks.take j).filter (λk=>!decide (k.2=X1.2) && JC k.2 X1.2)++(if(!decide (O1.2=X1.2) && JC O1.2 X1.2)=true then [O1] else []):=by
        rw[Jt eo,BM];congr 1;rw[BL];rfl
       refine⟨_,rfl,_,rfl,dW O1.2,dW X1.2,Lp (o1.same (s2.trans s3)),Lp (x1.same (s2.trans s3)),Bn (Ny _) (by decide),_,rfl,?_⟩;rw[Nx];cases c:decide (O1.2=X1.2) with
       | true=> rw[c] at st;exact IA (IA (hN3 _ _ _ ⟨⟨_,rfl⟩,s3,g1,by rw[g2,st];simp⟩))
       | false=>
        rw[c] at st;refine ID ⟨_,rfl,_,rfl,O1.1,X1.1,O1.2,X1.2,rfl,o1.same (s2.trans s3),x1.same (s2.trans s3),o2,x2,λH4 s4=>⟨_,rfl,?_⟩⟩;cases r:JC O1.2 X1.2 with
        | true=> rw[r] at st;exact ID ⟨_,rfl,s4 _ _ g1,hN3 _ _ _ ⟨⟨_,rfl⟩,JP (s3.trans s4) hip,IE,by rw[g2,st];simp⟩⟩
        | false=> rw[r] at st;exact IA (hN3 _ _ _ ⟨⟨_,rfl⟩,s3.trans s4,s4 _ _ g1,by rw[g2,st];simp⟩)
     · rintro σ' zs H3 ⟨_,s3,g1,rfl⟩;rw[Ab,Bd] at g1;refine⟨KM,λep hep=>?_⟩;have s4:=IM hep (.lst []);refine⟨ip,ep,_,rfl,rfl,s4 _ _ g1,IE,_,rfl,?_⟩;have ee:((ks.filter λk=>!decide (k.2=X1.2) && JC k.2 X1.2).map λx=>V.ref x.1).isEmpty=J_ ks X1.2:=by
        rw[List.isEmpty_map,zgV];unfold J_;simp only[Bool.and_comm]
       rw[ee];have st:((ks.take (i+1)).filter λk=>J_ ks k.2)=(ks.take i).filter (λk=>J_ ks k.2)++(if J_ ks X1.2=true then [X1] else []):=by rw[Jt ew,BM];congr 1;rw[BL];rfl
       have s24:=s2.trans (s3.trans s4);cases c:J_ ks X1.2 with
       | true=> rw[c] at st;exact ID ⟨_,rfl,(s3.trans s4) _ _ h1,hN _ _ _ ⟨⟨_,rfl⟩,JP s24 htp,IE,by rw[h2,st];simp⟩⟩
       | false=> rw[c] at st;exact IA (hN _ _ _ ⟨⟨_,rfl⟩,s24,(s3.trans s4) _ _ h1,by rw[h2,st];simp⟩)
   · rintro σ' ys H2 ⟨_,s2,h1,rfl⟩;rw[Ab,Bd] at h1;have T2:Qo H2 tp ws (ks.filter λk=>J_ ks k.2):=⟨h1,λx hx=>dd.sub x (Da.mp hx).1,dd.top,AD (AX _ _) dd.len⟩;have W2:WsAt H2 tp (ks.filter λk=>J_ ks k.2):=⟨h1,λx hx=>⟨((wk x (Da.mp hx).1).1).same s2,(wk x (Da.mp hx).1).2⟩,AD (AX _ _) lk⟩;generalize(ks.filter λk=>J_ ks k.2)=qs at*;refine⟨_,rfl,Vl (AD T2.2.2.2 (by omega)) LM W2 (λx hx H3 s3 Q1 hQ=>⟨x.1,x.2,rfl,((W2.ok x hx).1).same s3,(W2.ok x hx).2,hQ⟩) ?_ (λw=>AD (Zs w) (by decide)) (λw w'=>by unfold LM;rw[IN,U_]) Yx λr rs H3 s3 nr pm sr e3=>?_⟩
     · by_cases h2:qs.length<2
       · exact .inl h2
       · refine .inr (.inr λi hi=>?_);have ne:=T2.2.2.1.some (by rw[Ab];omega) (qs.getD i (0,[])).2 (by
          rw[AS,Al hi];exact Az (Ez hi))
         cases e:(qs.getD i (0,[])).2 with
         | nil=>exact absurd e ne
         | cons p ps=> refine⟨[.str p.1,.bl p.2.1.isSome,.int (p.2.1.getD 0),.bl p.2.2.isNone,.int (p.2.2.getD 0)],ps.map Kt,?_⟩;show LM (qs.getD i (0,[])).2=_;rw[e];rfl
     · exact q r rs H3 (s1.trans (s2.trans s3)) (s1.free (s2.free nr)) ⟨e3,λx hx=>T2.2.1 x (pm.mem_iff.mp hx),T2.2.2.1.perm (pm.map _),by rw[pm.length_eq];exact T2.2.2.2⟩ sr
theorem zgF(F:Fun K "_law_whole" "_law_whole" RE f fd)  :FnOk P w K mg base Jc 1 f fd ["thing"] (Ph K):=by
 refine F.ok zgn (λvs H Q E h=>?_) (λcdv A outer s H vs Q E hr h=>?_)
 · obtain⟨v,t,rfl,hty,q⟩:=h;rfl
 obtain⟨v,t,rfl,hty,q⟩:=h;refine⟨_,(IL (IT (Lr (Jd (Kg (n:="")) rfl B.isinstance_ JT (I0 (pv 0) (I0 (JK (v:= .ty "int") rfl B.int_ Pf rfl) IB))) (KL (Tq (Jd (Kg (n:="")) rfl B.isinstance_ JT (I0 (pv 0) (I0 (JK (v:= .ty "bool") rfl B.bool_ Pq rfl) IB)))))))),?_⟩;cases hty
 all_goals first
  | exact⟨_,rfl,_,"int","int",true,rfl,.int _,rfl,_,rfl,ID ⟨_,rfl,_,"int","bool",false,rfl,.int _,rfl,_,rfl,q⟩⟩
  | exact⟨_,rfl,_,"bool","int",true,rfl,.bl _,rfl,_,rfl,ID ⟨_,rfl,_,"bool","bool",true,rfl,.bl _,rfl,_,rfl,q⟩⟩
  | exact⟨_,rfl,_,_,"int",false,rfl,(by first | exact .non | exact .str _ | exact .flt _ | (exact .lst (by assumption)) | (exact .frz (by assumption)) | (exact .tup (by assumption)) | (exact .dK (by assumption)) | (exact .dT (by assumption))),rfl,_,rfl,IA q⟩
theorem zgG(F:Fun K "_law_wants" "_law_wants" Rj f fd)  :FnOk P w K mg base Jc 1 f fd ["wish","piece"] (UB):=by
 refine F.ok Ht (λvs H Q E h=>?_) (λcdv A outer s H vs Q E hr h=>?_)
 · obtain⟨a,b,w',p,rfl,hw,hp,pok,q⟩:=h;rfl
 obtain⟨a,b,w',p,rfl,hw,hp,pok,q⟩:=h;refine⟨_,(II (IY (i:=2) Ht.nd rfl (Or.inl rfl) (MZ (zjQ rfl) rfl B.dict_ X4 (I0 (pv 1) IB)))
  (II (Kj AV rfl (KQ (pv 0)) (K6 rfl (Jg (IP (i:=3) Ht.nd rfl (Or.inl rfl)) (Jg (IP (i:=4) Ht.nd rfl (Or.inl rfl)) (Jg (IP (i:=5) Ht.nd rfl (Or.inl rfl)) Kh)))) (II (Jo (JU (Vy (LR hr) (pv 3) (pv 2)) (by with_unfolding_all rfl)) (IL (IT JI)) Jm)
  (IL (Jo (PW.pt (Kn (PW.pt (LW (JU (KZ (pv 4))) (M0 (Jn NP (NY (LR hr) (pv 2) (pv 3) (λ_ _=>rfl)) (pv 4) (Ji _))))) (KB (PW.pt (LW (JU (KZ (pv 5))) (M0 (Jn Mt (NY (LR hr) (pv 2) (pv 3) (λ_ _=>rfl)) (pv 5) (Ji _)))))))) (IL (IT JI)) Jm))))
  (IL (IT JI)))),?_⟩
 obtain⟨ps,rfl,hA,hP⟩:=hp;have ll:ps.length≤100:=by have:=pok.len;rw[Ab] at this;exact this
 refine⟨_,rfl,b,Lo ps,rfl,?_,?_,λd hd=>?_⟩
 · unfold Lo;rw[Bx];exact hA
 · intro r hr';unfold Lo at hr';obtain⟨P1,hm,rfl⟩:=AB.mp hr';exact hP P1 hm
 have s1:=IM hd (.dK ((Lo ps).foldl (λacc p=>Ja acc p.2.1 p.2.2) []));have h1:(IC H d (.dK ((Lo ps).foldl (λacc p=>Ja acc p.2.1 p.2.2) []))) d=some (.dK ((Lo ps).foldl (λacc p=>Ja acc p.2.1 p.2.2) [])):=IE;have h3:∀f:Str,Jb ((Lo ps).foldl (λacc p=>Ja acc p.2.1 p.2.2) []) (.inr f:IV)=(JX (ps.map (·.2)) f).map V.int:=zh7 ps pok;generalize(Lo ps).foldl (λacc p=>Ja acc p.2.1 p.2.2) []=kvs at*;generalize IC H d (.dK kvs)=H1 at*;obtain⟨ws,rfl,hB,hW⟩:=hw.same s1;refine⟨_,rfl,a,rfl,⟨_,SqT.of hB⟩,MN (K:=K) (a:=a) (xs:=ws.map λp=>V.ref p.1) (λi σ H'=>(∃y3 y4 y5,σ=[some (.ref a),some (.ref b),some (.ref d),y3,y4,y5])∧Same H1 H'∧IX ((ws.map (·.2)).take i) (ps.map (·.2))=true) ⟨⟨none,none,none,rfl⟩,Same.refl _,rfl⟩ (λi σ H' _ ⟨_,s,_⟩=>s.seqT (SqT.of hB)) ?_ ?_⟩
 · rintro i x σ H' hx ⟨⟨y2,y3,y4,rfl⟩,s,hr'⟩;obtain⟨P1,e1,rfl⟩:=IU hx;have hm:=Ag e1;have ew:(ws.map (·.2))[i]?=some P1.2:=by rw[Af,e1];rfl
   have k1:=s _ _ h1;have kf:=h3 P1.2.1;refine⟨P1.1,_,rfl,SqT.of (s _ _ (hW P1 hm)),rfl,_,_,rfl,_,_,rfl,_,_,rfl,rfl,?_⟩;have out:Lw (ps.map (·.2)) P1.2=false→IX (ws.map (·.2)) (ps.map (·.2))=false:=λh=>zjd (Az hm) h;refine⟨_,rfl,_,rfl,d,_,rfl,DGet.k (k:=Sum.inr P1.2.1) k1,_,rfl,?_⟩;cases hs:JX (ps.map (·.2)) P1.2.1 with
   | none=> rw[hs] at kf;rw[kf];refine ID ?_;have o1:=out (Wl hs);rw[o1] at q;exact q _ (s1.trans s)
   | some n=>
    rw[hs] at kf;rw[kf];refine IA ?_;have gd:DGet H' d (.str P1.2.1) (some (.int n)):=by have:=DGet.k (k:=Sum.inr P1.2.1) k1;rw[kf] at this;exact this
    have tp:=RH hs;have bad:Jr P1.2.2.1 P1.2.2.2 n=false→Q (.bl false) H':=λhb=>by have o1:=out (tp.trans hb);rw[o1] at q;exact q _ (s1.trans s)
    have good:Jr P1.2.2.1 P1.2.2.2 n=true→IX ((ws.map (·.2)).take (i+1)) (ps.map (·.2))=true:=λhb=>by rw[Jt ew];unfold IX at*;rw[DM,hr',Ex,C5,FV,tp,hb];rfl
    obtain⟨pa,f',lo,hi⟩:=P1;dsimp only at gd bad good;have low:∀l,lo=some l→n<l→Jr lo hi n=false:=λl e h=>by subst e;unfold Jr;rw[show JL (some l) n=false from decide_eq_false (by omega)];rfl
    have high:∀h',hi=some h'→h'<n→Jr lo hi n=false:=λh' e h=>by subst e;unfold Jr;rw[show JQ (some h') n=false from decide_eq_false (by omega),ES]
    cases lo with
    | none=>
     refine⟨_,rfl,_,rfl,IA (IA ?_)⟩;cases hi with
     | none=>exact⟨_,rfl,_,rfl,IA (IA ⟨⟨_,_,_,rfl⟩,s,good rfl⟩)⟩
     | some h'=>
      refine⟨_,rfl,_,rfl,ID ⟨_,rfl,_,rfl,d,_,rfl,gd,_,rfl,_,_,rfl,rfl,_,rfl,Je (λh=>?_) (λh=>?_)⟩⟩
      · exact bad (high h' rfl (of_decide_eq_true h))
      · refine⟨⟨_,_,_,rfl⟩,s,good ?_⟩;have:¬n>h':=λz=>h (decide_eq_true z);simp[Jr,JL,JQ];omega
    | some l'=>
     refine⟨_,rfl,_,rfl,ID ⟨_,rfl,_,rfl,d,_,rfl,gd,_,rfl,_,_,rfl,rfl,_,rfl,Je (λh=>?_) (λh=>?_)⟩⟩
     · exact ID (bad (low l' rfl (of_decide_eq_true h)))
     · have hl':¬n<l':=λz=>h (decide_eq_true z);cases hi with
       | none=> refine⟨_,rfl,_,rfl,IA (IA ⟨⟨_,_,_,rfl⟩,s,good ?_⟩)⟩;simp[Jr,JL,JQ];omega
       | some h'=>
        refine⟨_,rfl,_,rfl,ID ⟨_,rfl,_,rfl,d,_,rfl,gd,_,rfl,_,_,rfl,rfl,_,rfl,Je (λh=>?_) (λh=>?_)⟩⟩
        · exact bad (high h' rfl (of_decide_eq_true h))
        · refine⟨⟨_,_,_,rfl⟩,s,good ?_⟩;have:¬n>h':=λz=>h (decide_eq_true z);simp[Jr,JL,JQ];omega
 · rintro σ H' ⟨_,s,hr'⟩;rw[show(ws.map (·.2)).take (ws.map λp=>V.ref p.1).length=ws.map (·.2) from A0 (by simp)] at hr';rw[hr'] at q;exact q _ (s1.trans s)
theorem zeJ(F:Fun K "_law_is_piece" "_law_is_piece" PR f fd)(Il:Γ42 P w K mg base):FnOk P w K mg base Jc 2 f fd ["thing"] (TV):=by
 refine F.ok Hu (λvs H Q E h=>?_) (λcdv A outer s H vs Q E hr h=>?_)
 · obtain⟨a,p',rfl,hp,pok,q⟩:=h;rfl
 obtain⟨a,p',rfl,hp,pok,q⟩:=h;refine⟨_,(II (Jo (Kk (JN (Jd (Kg (n:="")) rfl B.isinstance_ JT (I0 (pv 0) (I0 (JK (v:= .ty "tuple") rfl B.tuple_ Lk rfl) IB))))) (IL (IT JI)) Jm)
  (II (IY (i:=1) Hu.nd rfl (Or.inl rfl) MM)
  (II (Kj AV rfl (KQ (pv 0)) (IP (i:=2) Hu.nd rfl (Or.inl rfl)) (II (Jo (PW.pt (Kn (Kk (JN (Jd (Kg (n:="")) rfl B.isinstance_ JT (I0 (pv 2) (I0 (JK (v:= .ty "tuple") rfl B.tuple_ Lk rfl) IB))))) (Kn (Jn LB (Jd Kw rfl B.len_ JZ (I0 (pv 2) IB)) IF (Ji _)) (Kn (Kk (JN (Jd (Kg (n:="")) rfl B.isinstance_ JT (I0 (Jf JM (pv 2) IF (λ_ _=>rfl)) (I0 (JK (v:= .ty "str") rfl B.str_ O_ rfl) IB))))) (KB (Jn Re (Jf JM (pv 2) IF (λ_ _=>rfl)) (pv 1) (Ji _))))))) (IL (IT JI)) Jm)
  (II (Jo (PW.pt (Kn (Jn Mt (Jd R9 rfl B.len_ JZ (I0 (Jf JM (pv 2) IF (λ_ _=>rfl)) IB)) IF (Ji _)) (KB (Jn (Tp (KR hr)) (K5 (N':=["sign"]) (js:=[none]) rfl (JE (N:=["thing","last","pair"]) (outer:=IQ PR) (by decide+kernel)) (TJ (Jf JM (pv 2) IF (λ_ _=>rfl))) (λ_ _ _ _ _=>(IP (i:=0) OI rfl (Or.inl rfl))) (λ_ _ _ _ _=>K_ (Jn zgy (pv 0) MM (by with_unfolding_all rfl))) (λ_ _ _ _ _=>(pv 0))) (Kb IB) (Ji _))))) (IL (IT JI)) Jm)
  (II (Jo (Kk (JN (IS Il (hr.mono (by decide)) rfl (I0 (Jf JM (pv 2) IF (λ_ _=>rfl)) IB)))) (IL (IT JI)) Jm)
  (IL (IY (i:=1) Hu.nd rfl (Or.inl rfl) (Jf JM (pv 2) IF (λ_ _=>rfl))))))))
  (IL (IT JI))))),?_⟩
 obtain⟨ps,rfl,hA,hP⟩:=hp;refine⟨_,rfl,_,"tuple","tuple",true,rfl,.tup hA,rfl,_,rfl,IA ?_⟩;refine⟨_,rfl,a,rfl,⟨_,SqT.of hA⟩,MN (K:=K) (a:=a) (xs:=ps.map λp=>V.ref p.1) (λi σ H'=>(∃(last:Str)(y2:Option V),σ=[some (.ref a),some (.str last),y2]∧∀x,ps[i]?=some x→last.cps.toList<x.2.1.cps.toList)∧Same H H') ?_ (λi σ H' _ ⟨_,z⟩=>z.seqT (SqT.of hA)) ?_ ?_⟩
 · refine⟨⟨"",none,rfl,λx hx=>?_⟩,Same.refl _⟩;have o1:=(pok.ok x.2 (Az (Ag hx))).one;have:x.2.1.cps.toList≠[]:=λz=>by
    have h1:x.2.1.length=x.2.1.cps.toList.length:=by rw[A9];rfl
    rw[z] at h1;simp at h1;omega
   cases e:x.2.1.cps.toList with
   | nil=>exact absurd e this
   | cons c r=>exact List.nil_lt_cons _ _
 · rintro i x σ H1 hx ⟨⟨last,y2,rfl,lt⟩,s1⟩;obtain⟨P1,e1,rfl⟩:=IU hx;have hm:=Ag e1;have h1:=s1 _ _ (hP P1 hm);have F1:=pok.ok P1.2 (Az hm);have l8:=F1.eight;refine⟨_,rfl,_,"tuple","tuple",true,rfl,.tup h1,rfl,_,rfl,IA ⟨_,rfl,P1.1,_,rfl,.inr (SqT.of h1),rfl,_,rfl,Je (λh=>absurd h (by simp)) (λ_=>?_)⟩⟩;refine⟨_,rfl,P1.1,_,0,_,rfl,rfl,SqT.of h1,rfl,_,"str","str",true,rfl,.str _,rfl,_,rfl,IA ?_⟩;refine⟨_,rfl,P1.1,_,0,_,rfl,rfl,SqT.of h1,rfl,_,rfl,_,_,rfl,rfl,_,rfl,?_⟩;rw[decide_eq_true (lt P1 e1)];refine IA ?_;refine⟨_,rfl,P1.1,_,0,_,rfl,rfl,SqT.of h1,rfl,P1.2.1,rfl,MF (by omega),_,_,rfl,rfl,_,rfl,Je (λh=>absurd (of_decide_eq_true h) (by omega)) (λ_=>?_)⟩;refine⟨_,rfl,P1.1,_,0,_,rfl,rfl,SqT.of h1,rfl,P1.2.1,rfl,λp hp=>?_⟩;have s2:=IM hp (.lst []);refine Tk (xs:=L2.signs P1.2.1) (λi σ' ys H'=>(∃v,σ'=[v])∧Same H1 H'∧H' p=some (.lst ys)∧ys=[]) ⟨⟨none,rfl⟩,s2,IE,rfl⟩ ?_ ?_ ?_
   · rintro i σ' ys H' hi ⟨_,_,h1,h2⟩;exact⟨h1,by rw[h2];exact J7 (by simp)⟩
   · rintro i y σ' ys H' N hy ⟨⟨v,rfl⟩,s,h1,h2⟩ hN;unfold L2.signs at hy;rw[Af] at hy;cases hc:P1.2.1.cps.toList[i]? with
     | none=>rw[hc] at hy;cases hy
     | some c=> rw[hc] at hy;obtain rfl:V.str ⟨#[c]⟩=y:=A4 hy;have ok:=F1.all c (Ag hc);refine⟨_,rfl,_,_,rfl,rfl,_,rfl,?_⟩;rw[Xk ok];exact IA (hN _ _ _ ⟨⟨_,rfl⟩,s,h1,h2⟩)
   · rintro σ' ys H2 ⟨_,s2',h2,rfl⟩;refine⟨KM,λep hep=>?_⟩;have s3:=IM hep (.lst []);have e3:(IC H2 ep (.lst [])) ep=some (.lst []):=IE;have h3:=s3 _ _ h2;generalize IC H2 ep (.lst [])=H3 at*;refine⟨p,ep,_,rfl,rfl,h3,e3,_,rfl,IA ?_⟩;have t3:=s2'.trans s3;have g3:=t3 _ _ h1;refine⟨_,rfl,P1.1,_,1,_,rfl,rfl,SqT.of g3,rfl,_,"int",rfl,.int _,_,rfl,IA ?_⟩;refine⟨_,rfl,P1.1,_,0,_,rfl,rfl,SqT.of g3,rfl,⟨P1.2.1,_,rfl,λx hx=>?_⟩,s1.trans t3⟩;have:=Dj.mp pok.asc i (i+1) (by simp;have:=(An.mp e1).1;omega) (by simp;have:=(An.mp hx).1;omega) (by omega);simp only[CN] at this;rw[(An.mp e1).2,(An.mp hx).2] at this;exact this
 · rintro σ H1 ⟨_,s1⟩;exact q _ s1
theorem zfL(F:Fun K "_law_points" "_law_points" Oq f fd)  :FnOk P w K mg base Jc 1 f fd ["names","grid","wide"] (Tz):=by
 refine F.ok Hv (λvs H Q E h=>?_) (λcdv A outer s H vs Q E hr h=>?_)
 · obtain⟨a,t,fs,lo,sz,wide,rfl,ha,lf,fok,fasc,ht,z1,z2,w1,w2,q⟩:=h;rfl
 obtain⟨a,t,fs,lo,sz,wide,rfl,ha,lf,fok,fasc,ht,z1,z2,w1,w2,q⟩:=h;refine⟨_,(II (MR (N':=["k","grid"]) (js:=[none,some 1]) (i:=3) Hv.nd rfl (Or.inl rfl) rfl (JE (N:=["names","grid","wide","numbers","found","field","longer","piece"]) (outer:=IQ Oq) (by decide+kernel)) (zkC rfl B.range_ (I0 (IW Mw IF IF) (I0 (IW LV IF (pv 2)) IB))) (λ_ _ _ _ _=>(IP (i:=0) OD rfl (Or.inl rfl))) (λ_ _ _ _ _=>K8) (λ_ _ _ _ _=>(IW Ka (Jf (MO K rfl) (pv 1) IF (λ_ _=>rfl)) (IW LV (Jf (MO K rfl) (pv 1) IF (λ_ _=>rfl)) (pv 0)))))
  (II (IY (i:=4) Hv.nd rfl (Or.inl rfl) (Kb (I0 (J0 IB) IB)))
  (II (Kj AV rfl (JO (pv 0)) (IP (i:=5) Hv.nd rfl (Or.inr rfl)) (II (IY (i:=6) Hv.nd rfl (Or.inl rfl) (MZ Wo rfl B.list_ Mz (I0 (pv 4) IB)))
  (II (Kj AV rfl (JO (pv 4)) (IP (i:=7) Hv.nd rfl (Or.inr rfl)) (IL (IY (i:=6) Hv.nd rfl (Or.inl rfl) (IW Tn (pv 6) (K5 (N':=["number","field","piece"]) (js:=[none,some 5,some 7]) rfl (JE (N:=["names","grid","wide","numbers","found","field","longer","piece"]) (outer:=IQ Oq) (by decide+kernel)) (JO (pv 3)) (λ_ _ _ _ _=>(IP (i:=0) OC rfl (Or.inl rfl))) (λ_ _ _ _ _=>K8) (λ_ _ _ _ _=>(IW Pk (pv 2) (J0 (I0 (J0 (I0 (pv 1) (I0 (pv 0) IB))) IB)))))))))
  (IL (IY (i:=4) Hv.nd rfl (Or.inl rfl) (pv 6))))))
  (IL (IT (pv 4)))))),?_⟩
 refine⟨_,_,rfl,rfl,_,rfl,_,_,rfl,rfl,.inl ⟨by decide,by decide⟩,_,_,rfl,⟨by decide,by decide,by omega,by omega⟩,λp hp=>?_⟩;have s0:=IM hp (.lst []);refine Ps (lo:=0 - 1) (n:=(2*wide - (0 - 1)).toNat) (λi σ' ys H'=>(∃v,σ'=[v,some (.ref t)])∧Same H H'∧H' p=some (.lst ys)∧∃ns:List Int,ys=ns.map V.int∧(ns.length=i∧ns=Ms lo sz i)) ⟨⟨none,rfl⟩,s0,IE,[],rfl,rfl,rfl⟩ ?_ ?_ ?_
 · rintro i σ' ys H' hi ⟨_,_,h1,ns,rfl,h2⟩;exact⟨h1,by rw[Ab,h2.1];exact J7 (by omega)⟩
 · rintro i σ' ys H' N hi ⟨⟨v,rfl⟩,s,h1,ns,rfl,h2⟩ hN;have e1:=s _ _ ht;refine⟨_,rfl,t,_,0,_,rfl,rfl,SqT.of e1,rfl,_,rfl,t,_,1,_,rfl,rfl,SqT.of e1,rfl,_,rfl,_,_,rfl,rfl,.inl ⟨by omega,by omega⟩,_,_,rfl,rfl,h1,hN _ _ _ ⟨⟨_,rfl⟩,JP s hp,IE,ns++[_],by rw[Aq];rfl,⟨by rw[A6,h2.1];rfl,by rw[h2.2];unfold Ms;rw[List.range_succ,Aq];rfl⟩⟩⟩
 rintro σ' ys H1 ⟨_,s1,h1,ns,rfl,ln,lnN⟩;have ln':ns.length≤19:=by omega
 refine⟨WL,λe0 he0=>?_⟩;have s2:=IM he0 (.tup []);have e2:(IC H1 e0 (.tup [])) e0=some (.tup []):=IE;have k2:=s2 _ _ h1;generalize IC H1 e0 (.tup [])=H2 at*;refine⟨LA,λf0 hf0=>?_⟩;have s3:=IM hf0 (.lst [V.ref e0]);have e3:(IC H2 f0 (.lst [V.ref e0])) f0=some (.lst [V.ref e0]):=IE;have e2':=s3 _ _ e2;have k3:=s3 _ _ k2;have S3:=s1.trans (s2.trans s3);generalize IC H2 f0 (.lst [V.ref e0])=H3 at*;have ha3:=S3 _ _ ha;refine⟨_,rfl,a,rfl,⟨_,SqL.of ha3⟩,L_ (K:=K) (a:=a) (xs:=fs.map V.str) (λi σ H'=>(∃(f:Addr)(y5 y6 y7:Option V)(qs:List (Addr×List PP)),σ=[some (.ref a),some (.ref t),some (.int wide),some (.ref p),some (.ref f),y5,y6,y7]∧H' f=some (.lst (qs.map λq=>V.ref q.1))∧(qs.length≤20^i∧qs.map (·.2)=Kp ns (fs.take i))∧∀q∈qs,PieceAt H' q.1 q.2∧(q.2.map (·.1)).Sublist (fs.take i))∧Same H3 H') ⟨⟨f0,none,none,none,[(e0,[])],rfl,e3,⟨by simp,rfl⟩,λq hq=>by rw[Aj.mp hq];exact⟨⟨[],rfl,e2',λx hx=>by simp at hx⟩,by simp⟩⟩,Same.refl _⟩ (λi σ H' _ ⟨_,z⟩=>SqL.of (z _ _ ha3)) ?_ ?_⟩
 · rintro i x σ H4 hx ⟨⟨f,y5,y6,y7,qs,rfl,e4,⟨l4,x4⟩,g4⟩,s4⟩;rw[Af] at hx;cases ef:fs[i]? with
   | none=>rw[ef] at hx;cases hx
   | some fi=>
    rw[ef] at hx;obtain rfl:V.str fi=x:=A4 hx;have li:i<3:=by have:=(An.mp ef).1;omega
    have p20:(20:Nat)^i≤400:=by
     have:i=0∨i=1∨i=2:=by omega
     rcases this with rfl | rfl | rfl<;>decide
    refine⟨_,rfl,f,_,rfl,.inl (SqL.of e4),λl0 hl0=>?_⟩;have s5:=IM hl0 (.lst (qs.map λq=>V.ref q.1));have e5:(IC H4 l0 (.lst (qs.map λq=>V.ref q.1))) l0=some (.lst (qs.map λq=>V.ref q.1)):=IE;have f5:=s5 _ _ e4;have S5:=s4.trans s5;have g5:∀q∈qs,PieceAt (IC H4 l0 (.lst (qs.map λq=>V.ref q.1))) q.1 q.2∧(q.2.map (·.1)).Sublist (fs.take i):=λq hq=>⟨(g4 q hq).1.same s5,(g4 q hq).2⟩;generalize IC H4 l0 (.lst (qs.map λq=>V.ref q.1))=H5 at*;have sub1:∀q∈qs,(q.2.map (·.1)).Sublist (fs.take (i+1)):=λq hq=>(g4 q hq).2.trans (Fh (by omega));refine⟨_,rfl,f,rfl,⟨_,SqL.of f5⟩,L_ (K:=K) (a:=f) (xs:=qs.map λq=>V.ref q.1) (λj σ H'=>(∃(l:Addr)(y7:Option V)(us:List (Addr×List PP)),σ=[some (.ref a),some (.ref t),some (.int wide),some (.ref p),some (.ref f),some (.str fi),some (.ref l),y7]∧H' l=some (.lst (us.map λq=>V.ref q.1))∧(us.length≤20^i+19*j∧us.map (·.2)=Kp ns (fs.take i)++((qs.map (·.2)).take j).flatMap λp=>ns.map λn=>p++[(fi,n)])∧∀q∈us,PieceAt H' q.1 q.2∧(q.2.map (·.1)).Sublist (fs.take (i+1)))∧Same H5 H') ⟨⟨l0,_,qs,rfl,e5,⟨by omega,by rw[x4];simp⟩,λq hq=>⟨(g5 q hq).1,sub1 q hq⟩⟩,Same.refl _⟩ (λj σ H' _ ⟨_,z⟩=>SqL.of (z _ _ f5)) ?_ ?_⟩
    · rintro j x σ H6 hx ⟨⟨l,y7',us,rfl,e6,⟨l6,x6⟩,g6⟩,s6⟩;obtain⟨q0,eq,rfl⟩:=IU hx;have hq0:=Ag eq;have lj:j<400:=by have:=(An.mp eq).1;omega
      have k6:=s6 _ _ (S5 _ _ k3);obtain⟨cs,hcs,hC,hD⟩:=(g5 q0 hq0).1.same s6;have sq0:=(g5 q0 hq0).2;have lc:cs.length≤3:=by have h1:=sq0.length_le;rw[←hcs] at h1;simp at h1;omega
      refine⟨_,rfl,_,rfl,p,rfl,⟨_,SqL.of k6⟩,λm hm=>?_⟩;refine Lj (xs:=ns.map V.int) (λk σ' ys H'=>(∃v,σ'=[v,some (.str fi),some (.ref q0.1)])∧Same H6 H'∧H' m=some (.lst ys)∧∃vs:List (Addr×List PP),ys=vs.map (λq=>V.ref q.1)∧(vs.length=k∧vs.map (·.2)=(ns.take k).map λn=>q0.2++[(fi,n)])∧∀q∈vs,PieceAt H' q.1 q.2∧(q.2.map (·.1)).Sublist (fs.take (i+1))) ⟨⟨none,rfl⟩,IM hm _,IE,[],rfl,⟨rfl,rfl⟩,λq hq=>by simp at hq⟩ ?_ ?_ ?_
      · rintro k σ' ys H' hk ⟨_,s,h1,vs,rfl,h2,_⟩;rw[Ab] at hk;exact⟨s.seq (SqL.of k6),h1,by rw[Ab,h2.1];exact J7 (by omega)⟩
      · rintro k y σ' ys H7 N hy ⟨⟨v,rfl⟩,s7,h7,vs,rfl,v7,g7⟩ hN;rw[Af] at hy;cases en:ns[k]? with
        | none=>rw[en] at hy;cases hy
        | some nk=>
         rw[en] at hy;obtain rfl:V.int nk=y:=A4 hy;refine⟨_,rfl,_,rfl,_,rfl,Jx,λc1 hc1=>?_⟩;have s8:=IM hc1 (.tup [V.str fi,V.int nk]);have e8:(IC H7 c1 (.tup [V.str fi,V.int nk])) c1=some (.tup [V.str fi,V.int nk]):=IE;generalize IC H7 c1 (.tup [V.str fi,V.int nk])=H8 at*;refine⟨LA,λc2 hc2=>?_⟩;have s9:=IM hc2 (.tup [V.ref c1]);have e9:(IC H8 c2 (.tup [V.ref c1])) c2=some (.tup [V.ref c1]):=IE;generalize IC H8 c2 (.tup [V.ref c1])=H9 at*;have t9:=s7.trans (s8.trans s9);refine⟨q0.1,c2,_,_,rfl,rfl,t9 _ _ hC,e9,(by rw[Ab];exact MF (by simp;omega)),λc3 H10 s10 e10=>?_⟩;have s810:=s8.trans (s9.trans s10);have h10:=s810 _ _ h7;have tl:=LJ (o:= .lst (vs.map (λq=>V.ref q.1)++[V.ref c3])) h10;refine⟨h10,hN _ _ _ ⟨⟨_,rfl⟩,JP (s7.trans s810) hm,IE,vs++[(c3,q0.2++[(fi,nk)])],by rw[Aq];rfl,⟨by rw[A6,v7.1];rfl,by rw[Aq,v7.2,Jt en,Aq];rfl⟩,λq hq=>?_⟩⟩;rcases A3.mp hq with z | z
         · exact⟨((g7 q z).1.same s810).keep tl,(g7 q z).2⟩
         · rw[Aj.mp z];refine⟨⟨cs++[(c1,fi,nk)],by rw[Aq,hcs];rfl,?_,λx hx=>?_⟩,?_⟩
           · exact tl _ _ (by rw[e10,Aq];rfl)
           · rcases A3.mp hx with y | y
             · exact tl _ _ (s10 _ _ (t9 _ _ (hD x y)))
             · rw[Aj.mp y];exact tl _ _ (s10 _ _ (s9 _ _ e8))
           · rw[Aq,Jt ef];exact sq0.append (Ek _)
      · rintro σ' ys H7 ⟨_,s7,h7,vs,rfl,v7,g7⟩;rw[Ab] at v7;obtain⟨v7,z7⟩:=v7;rw[Bd] at z7;have ej:(qs.map (·.2))[j]?=some q0.2:=by rw[Af,eq];rfl
        refine⟨l,m,_,_,rfl,rfl,s7 _ _ e6,h7,(by rw[Ab,Ab];exact AD (show us.length+vs.length≤10000 by omega) (by decide)),λr hr'=>?_⟩;have s8:=IM hr' (.lst (us.map (λq=>V.ref q.1)++vs.map λq=>V.ref q.1));refine⟨⟨r,_,us++vs,rfl,by rw[IE,Aq],⟨by rw[A6];omega,by rw[Aq,x6,z7,Jt ej,EQ,Dc];simp⟩,λq hq=>?_⟩,s6.trans (s7.trans s8)⟩;rcases A3.mp hq with z | z
        · exact⟨(g6 q z).1.same (s7.trans s8),(g6 q z).2⟩
        · exact⟨(g7 q z).1.same s8,(g7 q z).2⟩
    · rintro σ H6 ⟨⟨l,y7',us,rfl,e6,⟨l6,x6⟩,g6⟩,s6⟩;rw[Ab] at l6 x6;refine⟨_,rfl,⟨l,_,_,_,us,rfl,e6,⟨?_,?_⟩,g6⟩,S5.trans s6⟩
      · rw[Nat.pow_succ];omega
      · rw[x6,show(qs.map (·.2)).take qs.length=qs.map (·.2) from A0 (by simp),x4,Jt ef,V0];rfl
 · rintro σ H4 ⟨⟨f,y5,y6,y7,qs,rfl,e4,⟨l4,x4⟩,g4⟩,s4⟩;rw[Ab] at l4 g4 x4;rw[A0 (Ah _),lnN] at x4;rw[A0 (Ah _)] at g4;refine⟨_,rfl,q f qs _ (S3.trans s4) e4 ?_ (λq hq=>⟨(g4 q hq).1,?_⟩) x4⟩
   · have:(20:Nat)^fs.length≤20^3:=GJ (by decide) lf;omega
   · obtain⟨_,sub⟩:=g4 q hq;refine⟨?_,λx hx=>fok _ (sub.subset (Az hx)),fasc.sublist sub⟩;have:=sub.length_le;rw[Ab] at this;omega
theorem zgH(F:Fun K "_law_alike" "_law_alike" P9 f fd)  (M_self:mg "_law_alike"=some (.ref f)):FnOk P w K mg base Jc 11 f fd ["found","due"] (Q0 9 QC):=by
 have b_self:=F.binds (ps:=["found","due"]) λ_ _ _ _ _ _=>lS λ_=>lS λ_=>l0 rfl
 refine Yi (L:=0) (D:=9) (TK F WA b_self M_self 0 (QC) λn sp0 hsp Im=>?_);refine F.ok WA (λvs H Q E h=>?_) (λcdv A outer s H vs Q E hr h=>?_)
 · obtain⟨v,v',d,rfl,n9,h1,h2,hn,q⟩:=h;rfl
 obtain⟨v,v',d,rfl,n9,h1,h2,hn,q⟩:=h;refine⟨_,(II (Jo (JN (Jd Wm rfl B.isinstance_ JT (I0 (pv 1) (I0 (J0 (I0 (JK (v:= .ty "list") rfl B.list_ Mz rfl) (I0 (JK (v:= .ty "tuple") rfl B.tuple_ Lk rfl) IB))) IB)))) (II (Jo (PW.pt (Kn (Kk (JN (Jd Wm rfl B.isinstance_ JT (I0 (pv 0) (I0 (J0 (I0 (JK (v:= .ty "list") rfl B.list_ Mz rfl) (I0 (JK (v:= .ty "tuple") rfl B.tuple_ Lk rfl) IB))) IB))))) (KB (Jn LB (Jd (Kg (n:="")) rfl B.isinstance_ JT (I0 (pv 0) (I0 (JK (v:= .ty "list") rfl B.list_ Mz rfl) IB))) (Jd (Kg (n:="")) rfl B.isinstance_ JT (I0 (pv 1) (I0 (JK (v:= .ty "list") rfl B.list_ Mz rfl) IB))) (Ji _))))) (IL (IT JI)) Jm)
  (IL (IT (Lr (MP Ld (Jd Kw rfl B.len_ JZ (I0 (pv 0) IB)) (Jd Kw rfl B.len_ JZ (I0 (pv 1) IB)) (Ji _)) (KL (Jd (Ob rfl) rfl B.all_ NV (I0 (K5 (N':=["k","found","due"]) (js:=[none,some 0,some 1]) rfl (JE (N:=["found","due"]) (outer:=IQ P9) (by decide+kernel)) (Oj rfl B.range_ (I0 (Jd Kw rfl B.len_ JZ (I0 (pv 1) IB)) IB)) (λ_ _ _ _ _=>(IP (i:=0) OB rfl (Or.inl rfl))) (λ_ _ _ _ _=>K8) (λ_ _ _ _ _=>(IS Im (hr.mono (by omega)) rfl (I0 (Jf (U2 K rfl) (pv 1) (pv 0) (λ_ _=>rfl)) (I0 (Jf (U2 K rfl) (pv 2) (pv 0) (λ_ _=>rfl)) IB))))) IB))))))) Jm)
  (II (Jo (PW.pt (Kn (JU (Ku (pv 1))) (KB (JU (Ku (pv 0)))))) (IL (IT (Lr (Ls (Ku (pv 1))) (KL (Ls (Ku (pv 0))))))) Jm)
  (II (Jo (PW.pt (Kn (Jn LB (Jd (Kg (n:="")) rfl B.isinstance_ JT (I0 (pv 1) (I0 (JK (v:= .ty "bool") rfl B.bool_ Pq rfl) IB))) (Jd (Kg (n:="")) rfl B.isinstance_ JT (I0 (pv 0) (I0 (JK (v:= .ty "bool") rfl B.bool_ Pq rfl) IB))) (Ji _)) (KB (Jn LB (Jd (Kg (n:="")) rfl B.isinstance_ JT (I0 (pv 1) (I0 (JK (v:= .ty "int") rfl B.int_ Pf rfl) IB))) (Jd (Kg (n:="")) rfl B.isinstance_ JT (I0 (pv 0) (I0 (JK (v:= .ty "int") rfl B.int_ Pf rfl) IB))) (Ji _))))) (IL (IT JI)) Jm)
  (IL (IT (Lr (MP Ld (Jd (Kg (n:="")) rfl B.isinstance_ JT (I0 (pv 0) (I0 (JK (v:= .ty "str") rfl B.str_ O_ rfl) IB))) (Jd (Kg (n:="")) rfl B.isinstance_ JT (I0 (pv 1) (I0 (JK (v:= .ty "str") rfl B.str_ O_ rfl) IB))) (Ji _)) (KL (MP Ld (pv 0) (pv 1) (Ji _))))))))),?_⟩
 cases d with
 | non=> rw[RepY] at h1 h2;subst h1 h2;refine⟨_,rfl,Jx,λt1 ht1=>?_⟩;have s1:=IM ht1 (.tup [V.ty "list",V.ty "tuple"]);have c1:(IC H t1 (.tup [V.ty "list",V.ty "tuple"])) t1=some (.tup [V.ty "list",V.ty "tuple"]):=IE;generalize IC H t1 (.tup [V.ty "list",V.ty "tuple"])=H1 at*;refine⟨_,"NoneType",t1,_,false,rfl,.non,c1,rfl,rfl,_,rfl,IA ?_⟩;exact⟨_,rfl,_,rfl,ID (ID ⟨_,rfl,_,rfl,ID ⟨_,rfl,q H1 s1⟩⟩)⟩
 | bl x=> rw[RepY] at h1 h2;subst h1 h2;refine⟨_,rfl,Jx,λt1 ht1=>?_⟩;have s1:=IM ht1 (.tup [V.ty "list",V.ty "tuple"]);have c1:(IC H t1 (.tup [V.ty "list",V.ty "tuple"])) t1=some (.tup [V.ty "list",V.ty "tuple"]):=IE;generalize IC H t1 (.tup [V.ty "list",V.ty "tuple"])=H1 at*;refine⟨_,"bool",t1,_,false,rfl,.bl x,c1,rfl,rfl,_,rfl,IA ?_⟩;refine⟨_,rfl,_,rfl,IA ⟨_,rfl,_,rfl,IA ?_⟩⟩;refine⟨_,rfl,_,"bool","bool",true,rfl,.bl x,rfl,_,rfl,_,"bool","bool",true,rfl,.bl x,rfl,rfl,_,rfl,IA ?_⟩;refine⟨_,rfl,_,"bool","int",true,rfl,.bl x,rfl,_,rfl,_,"bool","int",true,rfl,.bl x,rfl,rfl,_,rfl,IA ?_⟩;refine⟨_,rfl,_,"bool","str",false,rfl,.bl x,rfl,_,rfl,_,"bool","str",false,rfl,.bl x,rfl,rfl,_,rfl,ID ?_⟩;have e:decide (V.bl x=V.bl x)=true:=decide_eq_true rfl;exact⟨_,rfl,_,rfl,rfl,by rw[e];exact q H1 s1⟩
 | int x=> rw[RepY] at h1 h2;subst h1 h2;refine⟨_,rfl,Jx,λt1 ht1=>?_⟩;have s1:=IM ht1 (.tup [V.ty "list",V.ty "tuple"]);have c1:(IC H t1 (.tup [V.ty "list",V.ty "tuple"])) t1=some (.tup [V.ty "list",V.ty "tuple"]):=IE;generalize IC H t1 (.tup [V.ty "list",V.ty "tuple"])=H1 at*;refine⟨_,"int",t1,_,false,rfl,.int x,c1,rfl,rfl,_,rfl,IA ?_⟩;refine⟨_,rfl,_,rfl,IA ⟨_,rfl,_,rfl,IA ?_⟩⟩;refine⟨_,rfl,_,"int","bool",false,rfl,.int x,rfl,_,rfl,_,"int","bool",false,rfl,.int x,rfl,rfl,_,rfl,IA ?_⟩;refine⟨_,rfl,_,"int","int",true,rfl,.int x,rfl,_,rfl,_,"int","int",true,rfl,.int x,rfl,rfl,_,rfl,IA ?_⟩;refine⟨_,rfl,_,"int","str",false,rfl,.int x,rfl,_,rfl,_,"int","str",false,rfl,.int x,rfl,rfl,_,rfl,ID ?_⟩;have e:decide (V.int x=V.int x)=true:=decide_eq_true rfl;exact⟨_,rfl,_,rfl,rfl,by rw[e];exact q H1 s1⟩
 | str x=> rw[RepY] at h1 h2;obtain⟨rfl,hx⟩:=h1;obtain⟨rfl,_⟩:=h2;refine⟨_,rfl,Jx,λt1 ht1=>?_⟩;have s1:=IM ht1 (.tup [V.ty "list",V.ty "tuple"]);have c1:(IC H t1 (.tup [V.ty "list",V.ty "tuple"])) t1=some (.tup [V.ty "list",V.ty "tuple"]):=IE;generalize IC H t1 (.tup [V.ty "list",V.ty "tuple"])=H1 at*;refine⟨_,"str",t1,_,false,rfl,.str x,c1,rfl,rfl,_,rfl,IA ?_⟩;refine⟨_,rfl,_,rfl,IA ⟨_,rfl,_,rfl,IA ?_⟩⟩;refine⟨_,rfl,_,"str","bool",false,rfl,.str x,rfl,_,rfl,_,"str","bool",false,rfl,.str x,rfl,rfl,_,rfl,IA ?_⟩;refine⟨_,rfl,_,"str","int",false,rfl,.str x,rfl,_,rfl,_,"str","int",false,rfl,.str x,rfl,rfl,_,rfl,IA ?_⟩;refine⟨_,rfl,_,"str","str",true,rfl,.str x,rfl,_,rfl,_,"str","str",true,rfl,.str x,rfl,rfl,_,rfl,ID ?_⟩;have e:decide (V.str x=V.str x)=true:=decide_eq_true rfl;exact⟨_,rfl,_,rfl,rfl,by rw[e];exact q H1 s1⟩
 | lst ds=>
  rw[RepY] at h1 h2;obtain⟨a,xs,rfl,ha,h9,hx⟩:=h1;obtain⟨a',xs',rfl,ha',_,hx'⟩:=h2;obtain⟨m,rfl⟩:∃m,n=m+1:=⟨n - 1,by rw[JB] at hn;omega⟩;have e0:=hsp m rfl;subst e0;rw[JB] at hn;have hl:=hx.length;have hl':=hx'.length;refine⟨_,rfl,Jx,λt1 ht1=>?_⟩;have s1:=IM ht1 (.tup [V.ty "list",V.ty "tuple"]);have c1:(IC H t1 (.tup [V.ty "list",V.ty "tuple"])) t1=some (.tup [V.ty "list",V.ty "tuple"]):=IE;generalize IC H t1 (.tup [V.ty "list",V.ty "tuple"])=H1 at*;refine⟨_,"list",t1,_,true,rfl,.lst (s1 _ _ ha'),c1,rfl,rfl,_,rfl,ID ⟨_,rfl,Jx,λt2 ht2=>?_⟩⟩;have s2:=IM ht2 (.tup [V.ty "list",V.ty "tuple"]);have c2:(IC H1 t2 (.tup [V.ty "list",V.ty "tuple"])) t2=some (.tup [V.ty "list",V.ty "tuple"]):=IE;generalize IC H1 t2 (.tup [V.ty "list",V.ty "tuple"])=H2 at*;have S:=s1.trans s2;have ka:=S _ _ ha;have ka':=S _ _ ha';refine⟨_,"list",t2,_,true,rfl,.lst ka,c2,rfl,rfl,_,rfl,IA ⟨_,rfl,_,"list","list",true,rfl,.lst ka,rfl,_,rfl,_,"list","list",true,rfl,.lst ka',rfl,rfl,_,rfl,IA ?_⟩⟩;refine⟨_,rfl,a,_,rfl,.inl (SqL.of ka),_,rfl,a',_,rfl,.inl (SqL.of ka'),rfl,_,rfl,?_⟩;rw[decide_eq_true (show V.int ((xs.length:Nat):Int)=V.int ((xs'.length:Nat):Int) by rw[hl,hl'])];refine ID ⟨_,rfl,a',_,rfl,.inl (SqL.of ka'),_,rfl,by omega,by omega,λp hp=>?_⟩;have s3:=IM hp (.lst []);refine Ps (n:=((xs'.length:Nat):Int).toNat) (λi σ' ys H'=>(∃v,σ'=[v,some (.ref a),some (.ref a')])∧Same H2 H'∧H' p=some (.lst ys)∧ys=(By i true).map V.bl) ⟨⟨none,rfl⟩,s3,IE,rfl⟩ ?_ ?_ ?_
  · rintro i σ' ys H' hi ⟨_,_,h1,h2⟩;exact⟨h1,by rw[h2,Ab,Cp];exact J7 (by omega)⟩
  · rintro i σ' ys H4 N hi ⟨⟨v,rfl⟩,s4,h1,h2⟩ hN;have hi2:i<xs'.length:=by omega
    obtain⟨x,ex⟩:∃x,xs[i]?=some x:=⟨xs[i]'(by omega),by simp[hl,hl',hi2]⟩;obtain⟨x',ex'⟩:∃x,xs'[i]?=some x:=⟨xs'[i],by simp[hi2]⟩;obtain⟨d,ed,rd⟩:=hx.get ex;obtain⟨d',ed',rd'⟩:=hx'.get ex';rw[ed] at ed';injection ed' with ed';subst ed';have e0:(0:Int)+(i:Int)=(i:Int):=by omega
    have at1:Km xs (0+(i:Int))=some x:=by rw[e0];exact Lg ex
    have at2:Km xs' (0+(i:Int))=some x':=by rw[e0];exact Lg ex'
    have S4:=S.trans s4;refine⟨_,rfl,_,rfl,a,xs,_,x,rfl,rfl,.inl (SqL.of (S4 _ _ ha)),at1,_,rfl,_,rfl,a',xs',_,x',rfl,rfl,.inl (SqL.of (S4 _ _ ha')),at2,x,x',d,rfl,by omega,RepY.same S4 d rd,RepY.same S4 d rd',by have:=Rk (Ag ed);omega,λH5 s5=>⟨s5 _ _ h1,hN _ _ _ ⟨⟨_,rfl⟩,?_,IE,?_⟩⟩⟩
    · intro b o q;have:b≠p:=λz=>by rw[z,hp] at q;cases q
      rw[IZ this];exact s5 _ _ (s4 b o q)
    · rw[h2,CD,Aq];rfl
  · rintro σ' ys H4 ⟨_,s4,h1,h2⟩;refine⟨p,_,rfl,SqL.of (by rw[h1,h2]),?_⟩;have e:(By ((xs'.length:Nat):Int).toNat true).all id=true:=by simp
    rw[e];exact q H4 (S.trans s4)
 | tup ds=>
  rw[RepY] at h1 h2;obtain⟨a,xs,rfl,ha,h9,hx⟩:=h1;obtain⟨a',xs',rfl,ha',_,hx'⟩:=h2;obtain⟨m,rfl⟩:∃m,n=m+1:=⟨n - 1,by rw[JB] at hn;omega⟩;have e0:=hsp m rfl;subst e0;rw[JB] at hn;have hl:=hx.length;have hl':=hx'.length;refine⟨_,rfl,Jx,λt1 ht1=>?_⟩;have s1:=IM ht1 (.tup [V.ty "list",V.ty "tuple"]);have c1:(IC H t1 (.tup [V.ty "list",V.ty "tuple"])) t1=some (.tup [V.ty "list",V.ty "tuple"]):=IE;generalize IC H t1 (.tup [V.ty "list",V.ty "tuple"])=H1 at*;refine⟨_,"tuple",t1,_,true,rfl,.tup (s1 _ _ ha'),c1,rfl,rfl,_,rfl,ID ⟨_,rfl,Jx,λt2 ht2=>?_⟩⟩;have s2:=IM ht2 (.tup [V.ty "list",V.ty "tuple"]);have c2:(IC H1 t2 (.tup [V.ty "list",V.ty "tuple"])) t2=some (.tup [V.ty "list",V.ty "tuple"]):=IE;generalize IC H1 t2 (.tup [V.ty "list",V.ty "tuple"])=H2 at*;have S:=s1.trans s2;have ka:=S _ _ ha;have ka':=S _ _ ha';refine⟨_,"tuple",t2,_,true,rfl,.tup ka,c2,rfl,rfl,_,rfl,IA ⟨_,rfl,_,"tuple","list",false,rfl,.tup ka,rfl,_,rfl,_,"tuple","list",false,rfl,.tup ka',rfl,rfl,_,rfl,IA ?_⟩⟩;refine⟨_,rfl,a,_,rfl,.inr (SqT.of ka),_,rfl,a',_,rfl,.inr (SqT.of ka'),rfl,_,rfl,?_⟩;rw[decide_eq_true (show V.int ((xs.length:Nat):Int)=V.int ((xs'.length:Nat):Int) by rw[hl,hl'])];refine ID ⟨_,rfl,a',_,rfl,.inr (SqT.of ka'),_,rfl,by omega,by omega,λp hp=>?_⟩;have s3:=IM hp (.lst []);refine Ps (n:=((xs'.length:Nat):Int).toNat) (λi σ' ys H'=>(∃v,σ'=[v,some (.ref a),some (.ref a')])∧Same H2 H'∧H' p=some (.lst ys)∧ys=(By i true).map V.bl) ⟨⟨none,rfl⟩,s3,IE,rfl⟩ ?_ ?_ ?_
  · rintro i σ' ys H' hi ⟨_,_,h1,h2⟩;exact⟨h1,by rw[h2,Ab,Cp];exact J7 (by omega)⟩
  · rintro i σ' ys H4 N hi ⟨⟨v,rfl⟩,s4,h1,h2⟩ hN;have hi2:i<xs'.length:=by omega
    obtain⟨x,ex⟩:∃x,xs[i]?=some x:=⟨xs[i]'(by omega),by simp[hl,hl',hi2]⟩;obtain⟨x',ex'⟩:∃x,xs'[i]?=some x:=⟨xs'[i],by simp[hi2]⟩;obtain⟨d,ed,rd⟩:=hx.get ex;obtain⟨d',ed',rd'⟩:=hx'.get ex';rw[ed] at ed';injection ed' with ed';subst ed';have e0:(0:Int)+(i:Int)=(i:Int):=by omega
    have at1:Km xs (0+(i:Int))=some x:=by rw[e0];exact Lg ex
    have at2:Km xs' (0+(i:Int))=some x':=by rw[e0];exact Lg ex'
    have S4:=S.trans s4;refine⟨_,rfl,_,rfl,a,xs,_,x,rfl,rfl,.inr (SqT.of (S4 _ _ ha)),at1,_,rfl,_,rfl,a',xs',_,x',rfl,rfl,.inr (SqT.of (S4 _ _ ha')),at2,x,x',d,rfl,by omega,RepY.same S4 d rd,RepY.same S4 d rd',by have:=Rk (Ag ed);omega,λH5 s5=>⟨s5 _ _ h1,hN _ _ _ ⟨⟨_,rfl⟩,?_,IE,?_⟩⟩⟩
    · intro b o q;have:b≠p:=λz=>by rw[z,hp] at q;cases q
      rw[IZ this];exact s5 _ _ (s4 b o q)
    · rw[h2,CD,Aq];rfl
  · rintro σ' ys H4 ⟨_,s4,h1,h2⟩;refine⟨p,_,rfl,SqL.of (by rw[h1,h2]),?_⟩;have e:(By ((xs'.length:Nat):Int).toNat true).all id=true:=by simp
    rw[e];exact q H4 (S.trans s4)
theorem zhC(F:Fun K "_law_stay" "_law_stay" ND f fd)(Io:Γ41 P w K mg base)(Ip:Γ43 P w K mg base):FnOk P w K mg base Jc 5 f fd ["wishes","points"] (TC):=by
 refine F.ok Hw (λvs H Q E h=>?_) (λcdv A outer s H vs Q E hr h=>?_)
 · obtain⟨l,p,ws,ps,fs,lo,sz,m,k,rfl,hw,l7,hp,pk,lp,epts,hk,m0,z1,asc,l3,hin,q⟩:=h;rfl
 obtain⟨l,p,ws,ps,fs,lo,sz,m,k,rfl,hw,l7,hp,pk,lp,epts,hk,m0,z1,asc,l3,hin,q⟩:=h;refine⟨_,(II (IY (i:=2) Hw.nd rfl (Or.inl rfl) (IS Io (hr.mono (by decide)) rfl (I0 (pv 0) IB)))
  (II (Kj AV rfl (JO (XM (pv 2))) (IP (i:=3) Hw.nd rfl (Or.inr rfl)) (II (MR (N':=["one","wish"]) (js:=[none,some 3]) (i:=4) Hw.nd rfl (Or.inl rfl) rfl (JE (N:=["wishes","points","stay","wish","others","alone","one"]) (outer:=IQ ND) (by decide+kernel)) (JO (pv 2)) (λ_ _ _ _ _=>(IP (i:=0) M6 rfl (Or.inl rfl))) (λ_ _ _ _ _=>K_ (Jn (Q7 K rfl (KR hr)) (pv 0) (pv 1) (Ji _))) (λ_ _ _ _ _=>(pv 0)))
  (II (MR (N':=["piece","wish"]) (js:=[none,some 3]) (i:=5) Hw.nd rfl (Or.inl rfl) rfl (JE (N:=["wishes","points","stay","wish","others","alone","one"]) (outer:=IQ ND) (by decide+kernel)) (JO (pv 1)) (λ_ _ _ _ _=>(IP (i:=0) OA rfl (Or.inl rfl))) (λ_ _ _ _ _=>K_ (JN (IS Ip (hr.mono (by decide)) rfl (I0 (pv 1) (I0 (pv 0) IB))))) (λ_ _ _ _ _=>(pv 0)))
  (II (Kj AV rfl (JO (pv 4)) (IP (i:=6) Hw.nd rfl (Or.inr rfl)) (IL (MR (N':=["piece","one"]) (js:=[none,some 6]) (i:=5) Hw.nd rfl (Or.inl rfl) rfl (JE (N:=["wishes","points","stay","wish","others","alone","one"]) (outer:=IQ ND) (by decide+kernel)) (JO (pv 5)) (λ_ _ _ _ _=>(IP (i:=0) O8 rfl (Or.inl rfl))) (λ_ _ _ _ _=>K_ (Kk (JN (IS Ip (hr.mono (by decide)) rfl (I0 (pv 1) (I0 (pv 0) IB)))))) (λ_ _ _ _ _=>(pv 0)))))
  (IL (Jo (Jn (To (KR hr)) (pv 5) (Kb IB) (Ji _)) (IL (IY (i:=2) Hw.nd rfl (Or.inl rfl) (pv 4))) Jm))))))
  (IL (IT (pv 2))))),?_⟩
 refine⟨_,rfl,l,ws,rfl,hw,l7,λsr qs H1 s1 nsr T1 srt1=>?_⟩;have hw1:=hw.same s1;refine⟨_,rfl,sr,_,rfl,SqL.of T1.1,λvr hvr=>?_⟩;have s2:=IM hvr (.lst (qs.map λx=>V.ref x.1).reverse);have e2:(IC H1 vr (.lst (qs.map λx=>V.ref x.1).reverse)) vr=some (.lst (qs.map λx=>V.ref x.1).reverse):=IE;generalize IC H1 vr (.lst (qs.map λx=>V.ref x.1).reverse)=H2 at*;have t2:=s1.trans s2;have hw2:=hw1.same s2;have lq:qs.length≤7:=AD T1.2.2.2 l7;have k3:∀x∈ws,x.2.length≤3:=λx hx=>AD (QH (hw.ok x hx).2 (hin x hx).1) l3;have lI:∀(st:List (Addr×List WP))(i:Nat),st.map (·.2)=Jl (qs.map (·.2)) i→st.length≤7:=λst i e=>by have h1:=(MX (qs.map (·.2)) i).length_le;rw[←e,Ab,Ab] at h1;omega
 refine⟨vr,rfl,⟨_,SqL.of e2⟩,L_ (K:=K) (a:=vr) (xs:=(qs.map λx=>V.ref x.1).reverse) (λi σ H'=>(∃(r:Addr)(y3 y4 y5 y6:Option V)(st:List (Addr×List WP)),σ=[some (.ref l),some (.ref p),some (.ref r),y3,y4,y5,y6]∧H' r=some (.lst (st.map λx=>V.ref x.1))∧st.map (·.2)=Jl (qs.map (·.2)) i∧∀x∈st,x∈ws)∧Same H2 H') ⟨⟨sr,none,none,none,none,qs,rfl,s2 _ _ T1.1,rfl,T1.2.1⟩,Same.refl _⟩ (λi σ H' _ ⟨_,z⟩=>SqL.of (z _ _ e2)) ?_ ?_⟩
 · rintro i x σ H3 hx ⟨⟨r,y3,y4,y5,y6,st,rfl,e3,v3,m3⟩,s3⟩;rw[←List.map_reverse,Af] at hx;cases e1:qs.reverse[i]? with
   | none=>rw[e1] at hx;cases hx
   | some X1=>
    rw[e1] at hx;obtain rfl:V.ref X1.1=x:=A4 hx;have mX:=T1.2.1 X1 (List.mem_reverse.mp (Ag e1));have er:(qs.map (·.2)).reverse[i]?=some X1.2:=by rw[←List.map_reverse,Af,e1];rfl
    have hw3:=hw2.same s3;have l5:=lI st i v3;have S3:WsAt H3 r st:=⟨e3,λx hx=>hw3.ok x (m3 x hx),by omega⟩;obtain⟨x1,x2⟩:=hw3.ok X1 mX;refine⟨_,rfl,r,rfl,⟨_,SqL.of e3⟩,λos hos=>?_⟩;refine Lj (xs:=st.map λx=>V.ref x.1) (λi σ' ys H'=>(∃v,σ'=[v,some (.ref X1.1)])∧Same H3 H'∧H' os=some (.lst ys)∧ys=(Ju X1.2 (st.take i)).map λx=>V.ref x.1) ⟨⟨none,rfl⟩,IM hos _,IE,rfl⟩ ?_ ?_ ?_
    · rintro i σ' ys H' hi ⟨_,s,h1,h2⟩;refine⟨s.seq (SqL.of e3),h1,?_⟩;rw[h2,Ab];have h3:=Oa X1.2 (st.take i);rw[AE] at h3;exact J7 (by omega)
    · rintro i x σ' ys H4 N hx ⟨⟨v,rfl⟩,s4,h1,h2⟩ hN;obtain⟨O1,e5,rfl⟩:=IU hx;obtain⟨o1,o2⟩:=S3.ok O1 (Ag e5);refine⟨_,rfl,_,rfl,dW O1.2,dW X1.2,Lp (o1.same s4),Lp (x1.same s4),Bn (Ny _) (by decide),?_⟩;rw[Nx];by_cases e:O1.2=X1.2
      · rw[decide_eq_true e];refine⟨_,rfl,IA (hN _ _ _ ⟨⟨_,rfl⟩,s4,h1,?_⟩)⟩;rw[h2,P7 e5,if_pos e];simp
      · rw[decide_eq_false e];refine⟨_,rfl,ID ⟨_,rfl,h1,hN _ _ _ ⟨⟨_,rfl⟩,JP s4 hos,IE,?_⟩⟩⟩;rw[h2,P7 e5,if_neg e,Aq];rfl
    rintro σ' ys H4 ⟨_,s4,h4,rfl⟩;rw[Ab,Bd] at h4;have l6:=Oa X1.2 st;have hw4:=hw3.same s4;have x4:=x1.same s4;have mO:∀o∈Ju X1.2 st,o∈ws:=λo ho=>m3 o (NB ho);have t4:=t2.trans (s3.trans s4);have hp4:=t4 _ _ hp;have ev:=QV X1.2 st;refine⟨_,rfl,p,rfl,⟨_,SqL.of hp4⟩,λal hal=>?_⟩;refine Lj (xs:=ps.map λx=>V.ref x.1) (λi σ' ys H'=>(∃v,σ'=[v,some (.ref X1.1)])∧Same H4 H'∧H' al=some (.lst ys)∧ys=((ps.take i).filter λq=>IX X1.2 q.2).map λx=>V.ref x.1) ⟨⟨none,rfl⟩,IM hal _,IE,rfl⟩ ?_ ?_ ?_
    · rintro i σ' ys H' hi ⟨_,s,h1,h2⟩;refine⟨s.seq (SqL.of hp4),h1,?_⟩;rw[h2,Ab];have h3:=AX (λq:Addr×List PP=>IX X1.2 q.2) (ps.take i);rw[AE] at h3;exact Bn (show _≤8000 by omega) (by decide)
    · rintro i x σ' ys H5 N hx ⟨⟨v,rfl⟩,s5,h1,h2⟩ hN;obtain⟨P1,e5,rfl⟩:=IU hx;obtain⟨p1,p2⟩:=pk P1 (Ag e5);refine⟨_,rfl,_,rfl,X1.1,P1.1,X1.2,P1.2,rfl,x4.same s5,p1.same (t4.trans s5),p2,λH6 s6=>⟨_,rfl,?_⟩⟩;have st6:((ps.take (i+1)).filter λq=>IX X1.2 q.2)=((ps.take i).filter λq=>IX X1.2 q.2)++(if IX X1.2 P1.2=true then [P1] else []):=by
       rw[Jt e5,BM];congr 1;rw[BL];rfl
      cases c:IX X1.2 P1.2 with
      | false=> rw[c] at st6;exact IA (hN _ _ _ ⟨⟨_,rfl⟩,s5.trans s6,s6 _ _ h1,by rw[h2,st6];simp⟩)
      | true=> rw[c] at st6;exact ID ⟨_,rfl,s6 _ _ h1,hN _ _ _ ⟨⟨_,rfl⟩,JP (s5.trans s6) hal,IE,by rw[h2,st6];simp⟩⟩
    rintro σ' ys H5 ⟨_,s5,h5,rfl⟩;rw[Ab,Bd] at h5;have o5:=s5 _ _ h4;refine⟨_,rfl,os,rfl,⟨_,SqL.of o5⟩,L_ (K:=K) (a:=os) (xs:=(Ju X1.2 st).map λx=>V.ref x.1) (λj σ H'=>(∃(al:Addr)(y6:Option V),σ=[some (.ref l),some (.ref p),some (.ref r),some (.ref X1.1),some (.ref os),some (.ref al),y6]∧H' al=some (.lst ((ps.filter λq=>IX X1.2 q.2 && ((Ju X1.2 st).take j).all λo=>!IX o.2 q.2).map λx=>V.ref x.1)))∧Same H5 H') ⟨⟨al,_,rfl,by rw[h5];simp⟩,Same.refl _⟩ (λi σ H' _ ⟨_,z⟩=>SqL.of (z _ _ o5)) ?_ ?_⟩
    · rintro j x σ H6 hx ⟨⟨al',y6',rfl,e6⟩,s6⟩;obtain⟨O1,eo,rfl⟩:=IU hx;obtain⟨o1,o2⟩:=hw4.ok O1 (mO O1 (Ag eo));have o6:=o1.same (s5.trans s6);have t6:=t4.trans (s5.trans s6);generalize ep:(ps.filter λq=>IX X1.2 q.2 && ((Ju X1.2 st).take j).all λo=>!IX o.2 q.2)=cs at*;have lc:cs.length≤8000:=by rw[←ep];exact AD (AX _ _) lp
      have mc:∀x∈cs,x∈ps:=λx hx=>by rw[←ep] at hx;exact(Da.mp hx).1
      refine⟨_,rfl,al',rfl,⟨_,SqL.of e6⟩,λbl hbl=>?_⟩;refine Lj (xs:=cs.map λx=>V.ref x.1) (λi σ' ys H'=>(∃v,σ'=[v,some (.ref O1.1)])∧Same H6 H'∧H' bl=some (.lst ys)∧ys=((cs.take i).filter λq=>!IX O1.2 q.2).map λx=>V.ref x.1) ⟨⟨none,rfl⟩,IM hbl _,IE,rfl⟩ ?_ ?_ ?_
      · rintro i σ' ys H' hi ⟨_,s,h1,h2⟩;refine⟨s.seq (SqL.of e6),h1,?_⟩;rw[h2,Ab];have h3:=AX (λq:Addr×List PP=>!IX O1.2 q.2) (cs.take i);rw[AE] at h3;exact Bn (show _≤8000 by omega) (by decide)
      · rintro i x σ' ys H7 N hx ⟨⟨v,rfl⟩,s7,h1,h2⟩ hN;obtain⟨P1,e5,rfl⟩:=IU hx;obtain⟨p1,p2⟩:=pk P1 (mc P1 (Ag e5));refine⟨_,rfl,_,rfl,O1.1,P1.1,O1.2,P1.2,rfl,o6.same s7,p1.same (t6.trans s7),p2,λH8 s8=>⟨_,rfl,?_⟩⟩;have st6:((cs.take (i+1)).filter λq=>!IX O1.2 q.2)=((cs.take i).filter λq=>!IX O1.2 q.2)++(if(!IX O1.2 P1.2)=true then [P1] else []):=by
         rw[Jt e5,BM];congr 1;rw[BL];rfl
        cases c:IX O1.2 P1.2 with
        | true=> rw[c] at st6;exact IA (hN _ _ _ ⟨⟨_,rfl⟩,s7.trans s8,s8 _ _ h1,by rw[h2,st6];simp⟩)
        | false=> rw[c] at st6;exact ID ⟨_,rfl,s8 _ _ h1,hN _ _ _ ⟨⟨_,rfl⟩,JP (s7.trans s8) hbl,IE,by rw[h2,st6];simp⟩⟩
      · rintro σ' ys H7 ⟨_,s7,h7,rfl⟩;rw[Ab,Bd,←ep,List.filter_filter] at h7;refine⟨⟨bl,_,rfl,?_⟩,s6.trans s7⟩;rw[h7,Jt eo];congr 4;funext q;rw[DM,C5,FV,Ew];cases IX X1.2 q.2<;>cases IX O1.2 q.2<;>simp
    · rintro σ H6 ⟨⟨al',y6',rfl,e6⟩,s6⟩;rw[Ab,Bd] at e6;refine⟨_,rfl,KM,λep hep=>?_⟩;have s7:=IM hep (.lst []);have t7:=s4.trans (s5.trans (s6.trans s7));have ab:=X2 hk m0 z1 asc x2 (k3 X1 mX) (hin X1 mX).1 (hin X1 mX).2 (os:=Ju X1.2 st) (λo ho=>⟨(hw.ok o (mO o ho)).2,(hin o (mO o ho)).2⟩) epts;have nx:=PN er;unfold Kd at nx;rw[←v3,←ev,←ab] at nx;refine⟨al',ep,_,rfl,rfl,s7 _ _ e6,IE,_,rfl,?_⟩;rw[List.isEmpty_map];cases c:(ps.filter λq=>IX X1.2 q.2 && (Ju X1.2 st).all λo=>!IX o.2 q.2).isEmpty with
      | true=> rw[c,if_pos rfl] at nx;exact ID ⟨_,rfl,⟨os,_,_,_,_,Ju X1.2 st,rfl,(s6.trans s7) _ _ o5,nx.symm,mO⟩,s3.trans t7⟩
      | false=> rw[c,if_neg Au] at nx;exact IA ⟨⟨r,_,_,_,_,st,rfl,t7 _ _ e3,nx.symm,m3⟩,s3.trans t7⟩
 · rintro σ H3 ⟨⟨r,y3,y4,y5,y6,st,rfl,e3,v3,m3⟩,s3⟩;have hw3:=hw2.same s3;have l5:=lI st _ v3;rw[EM,Ab] at v3;exact⟨_,rfl,q r _ st H3 (t2.trans s3) T1.2.2.1 srt1 ⟨e3,λx hx=>hw3.ok x (m3 x hx),by omega⟩ (v3.trans (by unfold Jz;rw[Ab])) m3⟩
theorem XF(F:Fun K "law" "law" Mp f fd)(Iq:Γ29 P w K mg base)(Ir:Γ32 P w K mg base)(Ib:Γ30 P w K mg base)(Iu:Γ34 P w K mg base)(Iv:Γ37 P w K mg base)(Iw:Γ47 P w K mg base)(Ix:Γ28 P w K mg base)(Im:Γ46 P w K mg base)(Iy:Γ45 P w K mg base)(Iz:Γ44 P w K mg base)(Ip:Γ43 P w K mg base):FnOk P w K mg base Jc 12 f fd ["script"] (OW K):=by
 refine F.ok Hx (λvs H Q E h=>?_) (λcdv A outer s H vs Q E hr h=>?_)
 · obtain⟨a,ns,rfl,hS,h63,q⟩:=h;rfl
 obtain⟨a,ns,rfl,hS,h63,q⟩:=h;refine⟨_,(II (IY (i:=1) Hx.nd rfl (Or.inl rfl) (IS Iq (hr.mono (by decide)) rfl (I0 (pv 0) IB)))
  (II (IY (i:=2) Hx.nd rfl (Or.inl rfl) (IS Ir (hr.mono (by decide)) rfl (I0 (pv 1) (I0 IF IB))))
  (II (IY (i:=3) Hx.nd rfl (Or.inl rfl) (Jf JV (Kb (I0 IF (I0 IF (I0 IF IB)))) (IW Mw (Jd Kw rfl B.len_ JZ (I0 (pv 2) IB)) IF) (λ_ _=>rfl)))
  (II (IY (i:=4) Hx.nd rfl (Or.inl rfl) (IS Ib (hr.mono (by decide)) rfl (I0 (pv 1) (I0 IF IB))))
  (II (IY (i:=5) Hx.nd rfl (Or.inl rfl) (IS Iu (hr.mono (by decide)) rfl (I0 (pv 1) IB)))
  (II (IY (i:=6) Hx.nd rfl (Or.inl rfl) (IS Iv (hr.mono (by decide)) rfl (I0 (pv 1) (I0 (pv 2) (I0 (pv 5) (I0 (pv 3) (I0 (pv 4) IB)))))))
  (II (IY (i:=7) Hx.nd rfl (Or.inl rfl) (IS Iw (hr.mono (by decide)) rfl (I0 (pv 6) (I0 (IS Iy (hr.mono (by decide)) rfl (I0 (pv 2) (I0 (pv 5) (I0 (pv 3) IB)))) IB))))
  (II (IY (i:=8) Hx.nd rfl (Or.inl rfl) (MZ Wo rfl B.list_ Mz (I0 (pv 6) IB)))
  (II (IY (i:=9) Hx.nd rfl (Or.inl rfl) (IS Ix (hr.mono (by decide)) rfl (I0 (pv 8) IB)))
  (II (Jo (PW.pt (Kn (Kk (JN (IS Im (hr.mono (by decide)) rfl (I0 (pv 8) (I0 (pv 6) IB))))) (Kn (Kk (JN (Jd (Kg (n:="")) rfl B.isinstance_ JT (I0 (pv 9) (I0 (JK (v:= .ty "list") rfl B.list_ Mz rfl) IB))))) (KB (Jn LB (Jd Kw rfl B.len_ JZ (I0 (pv 9) IB)) (Jd Kw rfl B.len_ JZ (I0 (pv 7) IB)) (Ji _)))))) (IL (IT JI)) Jm)
  (II (Kj AV rfl (Oj rfl B.range_ (I0 (Jd Kw rfl B.len_ JZ (I0 (pv 7) IB)) IB)) (IP (i:=10) Hx.nd rfl (Or.inl rfl)) (II (IY (i:=11) Hx.nd rfl (Or.inr rfl) (Jf JV (pv 9) (pv 10) (λ_ _=>rfl)))
  (II (Jo (PW.pt (Kn (Kk (JN (Jd (Kg (n:="")) rfl B.isinstance_ JT (I0 (pv 11) (I0 (JK (v:= .ty "tuple") rfl B.tuple_ Lk rfl) IB))))) (Kn (Jn LB (Jd Kw rfl B.len_ JZ (I0 (pv 11) IB)) IF (Ji _)) (KB (Kk (JN (IS Im (hr.mono (by decide)) rfl (I0 (Jf JM (pv 11) IF (λ_ _=>rfl)) (I0 (Jf JV (pv 7) (pv 10) (λ_ _=>rfl)) IB))))))))) (IL (IT JI)) Jm)
  (IL (Jo (PW.pt (Kn (Kk (JN (IS Iz (hr.mono (by decide)) rfl (I0 (Jf JM (pv 11) IF (λ_ _=>rfl)) IB)))) (KB (Jn (NU (KR hr)) (K5 (N':=["one","pair"]) (js:=[none,some 11]) rfl (JE (N:=["script","well","names","wide","many","grid","wishes","due","handed","found","k","pair"]) (outer:=IQ Mp) (by decide+kernel)) (JO (pv 7)) (λ_ _ _ _ _=>(IP (i:=0) O5 rfl (Or.inl rfl))) (λ_ _ _ _ _=>K_ (JN (IS Ip (hr.mono (by decide)) rfl (I0 (pv 0) (I0 (Jf (MO K rfl) (pv 1) IF (λ_ _=>rfl)) IB))))) (λ_ _ _ _ _=>(pv 0))) (Kb (I0 (Jf JV (pv 7) (pv 10) (λ_ _=>rfl)) IB)) (Ji _))))) (IL (IT JI)) Jm)))))
  (II (L0 (LS BS BZ B_ LY (pv 9) (I0 IF IB)))
  (IL (IT (IS Im (hr.mono (by decide)) rfl (I0 (pv 8) (I0 (pv 6) IB))))))))))))))))),?_⟩
 refine⟨_,rfl,a,ns,rfl,hS,h63,λb g l H1 B1 S1 nb ng=>?_⟩;refine⟨_,rfl,b,g,l,_,3,rfl,B1,by decide,by decide,by decide,λna fs H2 n2 e2 asc2 ok2 l1 l3 B2 S2=>?_⟩;obtain⟨xb,xg,_⟩:=B1.free n2;have N2:NamesAt H2 b g na fs:=⟨e2,xb,xg,by omega,ok2,asc2⟩;refine⟨NN,λwl hwl=>?_⟩;have s3:=IM hwl (.lst [V.int 9,V.int 5,V.int 2]);have e3:(IC H2 wl (.lst [V.int 9,V.int 5,V.int 2])) wl=some (.lst [V.int 9,V.int 5,V.int 2]):=IE;have B3:=B2.same s3;have N3:=N2.sameB s3.sameB;generalize IC H2 wl (.lst [V.int 9,V.int 5,V.int 2])=H3 at*;obtain⟨wide,hwide,wd1,wd9⟩:∃wide:Int,Km [V.int 9,V.int 5,V.int 2] (((fs.map V.str).length:Int) - 1)=some (.int wide)∧1≤wide∧wide≤9:=by
  rw[Ab];have:fs.length=1∨fs.length=2∨fs.length=3:=by omega
  rcases this with h | h | h<;>rw[h]
  · exact⟨9,rfl,by decide,by decide⟩
  · exact⟨5,rfl,by decide,by decide⟩
  · exact⟨2,rfl,by decide,by decide⟩
 refine⟨_,rfl,na,_,rfl,.inl (SqL.of N3.at'),_,_,rfl,rfl,wl,_,_,_,rfl,rfl,SqL.of e3,hwide,?_⟩;refine⟨_,rfl,b,g,l,_,8,rfl,B3,by decide,by decide,by decide,λmany H4 m0 m1 B4 S4=>?_⟩;have N4:=N3.sameB S4;refine⟨_,rfl,b,g,l,_,rfl,B4,by decide,λt lo sz H5 et lo1 lo2 sz1 sz2 B5 S5=>?_⟩;have N5:=N4.sameB S5;refine⟨_,rfl,_,rfl,_,rfl,_,rfl,_,rfl,b,g,l,na,t,_,lo,sz,wide,many,fs,rfl,B5,by omega,N5,et,sz1,sz2,wd1,by omega,by omega,by omega,λr ws H6 nr W6 lw in6 B6 S6=>?_⟩;have N6:=N5.sameB S6;have t6:=B5.tup S6 et;refine⟨_,rfl,_,rfl,_,rfl,_,rfl,na,t,fs,lo,sz,wide,rfl,N6.at',by omega,ok2,asc2,t6,sz1,sz2,wd1,wd9,λpr ps H7 s7 e7 l7 g7 x7=>?_⟩;have W7:=W6.same s7;have i7:∀x∈ws,Nb fs x.2:=λx hx p hp=>((in6 x hx).1 p hp).1;have h7:ws.length≤7:=by omega
 refine⟨r,pr,ws,ps,fs,lo,sz,2*wide,(2*wide - (0 - 1)).toNat,rfl,W7,h7,e7,g7,l7,x7,by omega,by omega,sz1,asc2,by omega,λx hx=>⟨i7 x hx,λp hp=>((in6 x hx).1 p hp).2⟩,λdu qs rs H8 s8 T8 srt8 D8 eq8 sub8=>?_⟩;have W8:=W7.same s8;refine⟨_,rfl,r,_,rfl,.inl (SqL.of W8.at'),λhd hhd=>?_⟩;have s9:=IM hhd (.lst (ws.map λx=>V.ref x.1));have e9:(IC H8 hd (.lst (ws.map λx=>V.ref x.1))) hd=some (.lst (ws.map λx=>V.ref x.1)):=IE;have W9:=W8.same s9;have D9:=D8.same s9;generalize IC H8 hd (.lst (ws.map λx=>V.ref x.1))=H9 at*;have E9:WsAt H9 hd ws:=⟨e9,W9.ok,W9.len⟩;refine⟨_,rfl,hd,ws,fs,rfl,E9,h7,by omega,i7,λfo qs' ts H10 s10 nfo T10 srt10 L10=>?_⟩;obtain rfl:qs'=qs:=UP T10 T8 srt10 srt8;have W10:=W9.same s10;have E10:=E9.same s10;have D10:=D9.same s10;refine⟨_,rfl,_,rfl,3,by decide,_,_,_,rfl,by decide,E10.repY,W10.repY,VU _,λH11 s11=>⟨_,rfl,IA ?_⟩⟩;have W11:=W10.same s11;have E11:=E10.same s11;have D11:=D10.same s11;have L11:=L10.same s11;refine⟨_,rfl,_,"list","list",true,rfl,.lst L11.at',rfl,_,rfl,IA ?_⟩;have lt:ts.length=rs.length:=by have h1:=congrArg Be L10.eq;have h2:=congrArg Be eq8;rw[Ab] at h1 h2;omega
 refine⟨_,rfl,fo,_,rfl,.inl (SqL.of L11.at'),_,rfl,du,_,rfl,.inl (SqL.of D11.at'),rfl,_,rfl,Je (λh=>absurd h (by simp[lt])) (λ_=>?_)⟩;have nd:(rs.map (·.2)).Nodup:=by rw[eq8];exact T8.nd.sublist (Pz _)
 have lrs:=D8.len;have okq:∀w∈qs',WOk w∧w.length≤3:=λw hw=>by obtain⟨x,hx,rfl⟩:=AB.mp ((T8.mem w).mp hw).1;exact⟨(W6.ok x hx).2,AD (QH (W6.ok x hx).2 (i7 x hx)) (by omega)⟩
 refine⟨_,rfl,du,_,rfl,.inl (SqL.of D11.at'),_,rfl,(by rw[Ab];omega),(by rw[Ab];omega),Ra (lo:=0) (n:=(rs.map λx:Addr×List WP=>V.ref x.1).length) (λi σ H'=>(∃y10 y11,σ=[some (.ref a),some (.ref b),some (.ref na),some (.int wide),some (.int many),some (.ref t),some (.ref r),some (.ref du),some (.ref hd),some (.ref fo),y10,y11])∧Same H11 H') ⟨⟨none,none,rfl⟩,Same.refl _⟩ ?_ ?_⟩
 · rintro i σ H12 hi ⟨⟨y10,y11,rfl⟩,s12⟩;rw[Ab] at hi;rw[Int.zero_add];obtain⟨T1,eT⟩:∃T1,ts[i]?=some T1:=⟨ts[i]'(by omega),Al (by omega)⟩;obtain⟨R1,eR⟩:∃R1,rs[i]?=some R1:=⟨rs[i]'(by omega),Al (by omega)⟩;have eTR:T1.2.2.2=R1.2:=by
    have h1:(ts.map (·.2.2.2))[i]?=some T1.2.2.2:=by rw[Af,eT];rfl
    have h2:(rs.map (·.2))[i]?=some R1.2:=by rw[Af,eR];rfl
    rw[L10.eq,←eq8,h2] at h1;exact(A4 h1).symm
   have L12:=L11.same s12;have D12:=D11.same s12;obtain⟨u1,u2,u3,u4⟩:=L12.ok T1 (Ag eT);have hT:Km (ts.map λx=>V.ref x.1) (i:Int)=some (V.ref T1.1):=Lg (by rw[Af,eT];rfl);have hR:Km (rs.map λx=>V.ref x.1) (i:Int)=some (V.ref R1.1):=Lg (by rw[Af,eR];rfl);have mR:=Ag eR;refine⟨_,rfl,_,rfl,fo,_,_,_,rfl,rfl,SqL.of L12.at',hT,?_⟩;refine⟨_,rfl,_,"tuple","tuple",true,rfl,.tup u1,rfl,_,rfl,IA ⟨_,rfl,T1.1,_,rfl,.inr (SqT.of u1),rfl,_,rfl,Je (λh=>absurd h (by simp)) (λ_=>?_)⟩⟩;refine⟨_,rfl,T1.1,_,0,_,rfl,rfl,SqT.of u1,rfl,_,rfl,_,rfl,du,_,_,_,rfl,rfl,SqL.of D12.at',hR,2,by decide,_,_,_,rfl,by decide,QX u2 u3,(by rw[eTR];exact QX (D12.ok R1 mR).1 (D12.ok R1 mR).2),VT _,λH13 s13=>⟨_,rfl,IA ?_⟩⟩;have hin:R1.2∈Jz qs':=by rw[←eq8];exact Az mR
   have al:=zjG okq R1.2 hin;rw[eTR] at u4 u2;have kq:=okq R1.2 ((Pz _).subset hin);have A:=Pe kq.1 kq.2 (os:=JH R1.2 (Jz qs')) λo ho=>(okq o ((Pz _).subset (mem_butV.mp ho).1)).1;cases ep:IH R1.2 (JH R1.2 (Jz qs')) with
   | nil=>exact absurd ep al
   | cons p0 pr0=>
    rw[ep] at u4;obtain⟨pt,hv,hpt⟩:=u4;have hp0:p0∈IH R1.2 (JH R1.2 (Jz qs')):=by rw[ep];exact Ao
    obtain⟨k0,f0⟩:=A.ok p0 hp0;obtain⟨c1,c2⟩:=A.sound p0 hp0 (K7 p0) (Wv k0);have c3:=c2 ((Qa p0).trans f0);have u5:=s13 _ _ u1;rw[hv] at u5;refine⟨_,rfl,T1.1,_,1,_,rfl,rfl,SqT.of u5,rfl,pt,_,rfl,hpt.same s13,Ro k0,λH14 s14=>⟨_,rfl,IA ?_⟩⟩;have u6:=s14 _ _ u5;have p6:=hpt.same (s13.trans s14);have D14:=D12.same (s13.trans s14);refine⟨_,rfl,du,rfl,⟨_,SqL.of D14.at'⟩,λfl hfl=>?_⟩;refine Lj (xs:=rs.map λx=>V.ref x.1) (λj σ' ys H'=>(∃v,σ'=[v,some (.ref T1.1)])∧Same H14 H'∧H' fl=some (.lst ys)∧ys=((rs.take j).filter λx=>IX x.2 (K7 p0)).map λx=>V.ref x.1) ⟨⟨none,rfl⟩,IM hfl _,IE,rfl⟩ ?_ ?_ ?_
    · rintro j σ' ys H' hj ⟨_,s,h1,h2⟩;refine⟨s.seq (SqL.of D14.at'),h1,?_⟩;rw[h2,Ab];have h3:=AX (λx:Addr×List WP=>IX x.2 (K7 p0)) (rs.take j);rw[AE] at h3;exact J7 (by omega)
    · rintro j x σ' ys H15 N hx ⟨⟨v,rfl⟩,s15,h1,h2⟩ hN;obtain⟨O1,e5,rfl⟩:=IU hx;obtain⟨o1,o2⟩:=D14.ok O1 (Ag e5);refine⟨_,rfl,_,rfl,T1.1,_,1,_,rfl,rfl,SqT.of (s15 _ _ u6),rfl,O1.1,pt,O1.2,_,rfl,o1.same s15,p6.same s15,Ro k0,λH16 s16=>⟨_,rfl,?_⟩⟩;have st6:((rs.take (j+1)).filter λx=>IX x.2 (K7 p0))=((rs.take j).filter λx=>IX x.2 (K7 p0))++(if IX O1.2 (K7 p0)=true then [O1] else []):=by
       rw[Jt e5,BM];congr 1;rw[BL];rfl
      cases c:IX O1.2 (K7 p0) with
      | false=> rw[c] at st6;exact IA (hN _ _ _ ⟨⟨_,rfl⟩,s15.trans s16,s16 _ _ h1,by rw[h2,st6];simp⟩)
      | true=> rw[c] at st6;exact ID ⟨_,rfl,s16 _ _ h1,hN _ _ _ ⟨⟨_,rfl⟩,JP (s15.trans s16) hfl,IE,by rw[h2,st6];simp⟩⟩
    · rintro σ' ys H15 ⟨_,s15,h15,rfl⟩;rw[Ab,Bd,VW rs R1 nd mR c1 λy hy hne=>c3 y.2 (mem_butV.mpr ⟨by rw[←eq8];exact Az hy,hne⟩)] at h15;have D15:=D14.same s15;refine⟨_,rfl,_,rfl,du,_,_,_,rfl,rfl,SqL.of D15.at',hR,LA,λsl hsl=>?_⟩;have s16:=IM hsl (.lst [V.ref R1.1]);have w16:=(D15.same s16).ok R1 mR;refine⟨.lst [dW R1.2],.lst [dW R1.2],UG (s16 _ _ h15) w16.1,UG IE w16.1,Bn (zjO _) (by decide),?_⟩;rw[zku];exact⟨_,rfl,IA ⟨⟨_,_,rfl⟩,s12.trans (s13.trans (s14.trans (s15.trans s16)))⟩⟩
 · rintro σ H12 ⟨⟨y10,y11,rfl⟩,s12⟩;have L12:=L11.same s12;refine⟨_,rfl,.inl ⟨rfl,_,SqL.of L12.at'⟩,fo,_,_,rfl,rfl,L12.at',(by rw[Ab];exact J7 (by omega)),?_⟩;have t13:=JP (o:= .lst (ts.map (λx=>V.ref x.1)++[V.int 7])) (s10.trans (s11.trans s12)) nfo;exact⟨_,rfl,_,rfl,3,by decide,_,_,_,rfl,by decide,(E9.same t13).repY,(W9.same t13).repY,VU _,λH14 s14=>q _⟩
end
open PySem.W (nsIn mg_of mg_none_of fnOf keepIn codeIn)
noncomputable abbrev dF(n:Str)(s:Stmt):=fnOf n n (L1 s) (Lh s) (IQ s) .none
theorem JR{K:Ae}{st:Stmt}{f:Addr}{fd:BP}{p0:Str}(F:Fun K x x st f fd)(h:∀(a b c:Value)(d:Option Addr)(e g u0:Value),bindArgs (fnOf x x (L1 st) (Lh st) (IQ st) .none a b c d e g) ⟨[u0],[]⟩=pure [(p0,u0)]:=by intros;rfl):Binds K fd [p0] []:=
 F.binds λa b c d e g=>lS λu0=>l0 (h a b c d e g u0)
theorem K4{K:Ae}{st:Stmt}{f:Addr}{fd:BP}{p0 p1:Str}(F:Fun K x x st f fd)(h:∀(a b c:Value)(d:Option Addr)(e g u0 u1:Value),bindArgs (fnOf x x (L1 st) (Lh st) (IQ st) .none a b c d e g) ⟨[u0,u1],[]⟩=pure [(p0,u0),(p1,u1)]:=by intros;rfl):Binds K fd [p0,p1] []:=
 F.binds λa b c d e g=>lS λu0=>lS λu1=>l0 (h a b c d e g u0 u1)
theorem WI{K:Ae}{st:Stmt}{f:Addr}{fd:BP}{p0 p1 p2:Str}(F:Fun K x x st f fd)(h:∀(a b c:Value)(d:Option Addr)(e g u0 u1 u2:Value),bindArgs (fnOf x x (L1 st) (Lh st) (IQ st) .none a b c d e g) ⟨[u0,u1,u2],[]⟩=pure [(p0,u0),(p1,u1),(p2,u2)]:=by intros;rfl):Binds K fd [p0,p1,p2] []:=
 F.binds λa b c d e g=>lS λu0=>lS λu1=>lS λu2=>l0 (h a b c d e g u0 u1 u2)
theorem bn4{K:Ae}{st:Stmt}{f:Addr}{fd:BP}{p0 p1 p2 p3:Str}(F:Fun K x x st f fd)(h:∀(a b c:Value)(d:Option Addr)(e g u0 u1 u2 u3:Value),bindArgs (fnOf x x (L1 st) (Lh st) (IQ st) .none a b c d e g) ⟨[u0,u1,u2,u3],[]⟩=pure [(p0,u0),(p1,u1),(p2,u2),(p3,u3)]:=by intros;rfl):Binds K fd [p0,p1,p2,p3] []:=
 F.binds λa b c d e g=>lS λu0=>lS λu1=>lS λu2=>lS λu3=>l0 (h a b c d e g u0 u1 u2 u3)
theorem bn5{K:Ae}{st:Stmt}{f:Addr}{fd:BP}{p0 p1 p2 p3 p4:Str}(F:Fun K x x st f fd)(h:∀(a b c:Value)(d:Option Addr)(e g u0 u1 u2 u3 u4:Value),bindArgs (fnOf x x (L1 st) (Lh st) (IQ st) .none a b c d e g) ⟨[u0,u1,u2,u3,u4],[]⟩=pure [(p0,u0),(p1,u1),(p2,u2),(p3,u3),(p4,u4)]:=by intros;rfl):Binds K fd [p0,p1,p2,p3,p4] []:=
 F.binds λa b c d e g=>lS λu0=>lS λu1=>lS λu2=>lS λu3=>lS λu4=>l0 (h a b c d e g u0 u1 u2 u3 u4)
structure KF(K:Ae)(x:Str)(st:Stmt)(f:Addr)(fd:BP):Prop where
 a:nsIn K AJ x=some (some (.ref f))
 F:Fun K x x st f fd
theorem all_mk{l:Gd}{w:World}{K:Ae}{mg:Str→Option Value}{fa f1 f2 f3 f4 f5 f6 f7 f8 f9 f10 f11 f12 f13 f14 f15 f16 f17 f18 f19 f20 f21 f22 f23 f24 f25 f26 f27 f28 f29 f30 f31 f32 f33 f34 f35 f36 f37 f38 f39 f40 f41 f42 f43 f44 f45 f46 f47 f48 f49:Addr}{g1 g2 g3 g4 g5 g6 g7 g8 g9 g10 g11 g12 g13 g14 g15 g16 g17 g18 g19 g20 g21 g22 g23 g24 g25 g26 g27 g28 g29 g30 g31 g32 g33 g34 g35 g36 g37 g38 g39 g40 g41 g42 g43 g44 g45 g46 g47 g48 g49:BP}(X:K.In h)(G:h.Ns AJ mg)(hfa:mg "law"=some (.ref fa))
 (h1:KF K "is_whole" Rs f1 g1)
 (h2:KF K "is_end" QK f2 g2)
 (h3:KF K "is_span" QY f3 g3)
 (h4:KF K "span_reaches" R7 f4 g4)
 (h5:KF K "span_shared" On f5 g5)
 (h6:KF K "number_of" RF f6 g6)
 (h7:KF K "is_field" PH f7 g7)
 (h8:KF K "is_wish_part" R5 f8 g8)
 (h9:KF K "fields_ascend" PX f9 g9)
 (h10:KF K "is_wish" P4 f10 g10)
 (h11:KF K "are_wishes" Qc f11 g11)
 (h12:KF K "check_wishes" R4 f12 g12)
 (h13:KF K "spans_by_field" Qe f13 g13)
 (h14:KF K "reaches_spans" RJ f14 g14)
 (h15:KF K "wish_shared" P_ f15 g15)
 (h16:KF K "rank_of_low" R3 f16 g16)
 (h17:KF K "rank_of_high" R6 f17 g17)
 (h18:KF K "rank" OY f18 g18)
 (h19:KF K "is_under" Rr f19 g19)
 (h20:KF K "greatest_of" Om f20 g20)
 (h21:KF K "greatest" Rq f21 g21)
 (h22:KF K "spans_beside" R8 f22 g22)
 (h23:KF K "parts_beside_one" RI f23 g23)
 (h24:KF K "parts_beside" PU f24 g24)
 (h25:KF K "piece_beside" PV f25 g25)
 (h26:KF K "fields_of" P8 f26 g26)
 (h27:KF K "check_few" Ri f27 g27)
 (h28:KF K "all_but" P3 f28 g28)
 (h29:KF K "lean" OX f29 g29)
 (h30:KF K "_law_well" Oe f30 g30)
 (h31:KF K "_law_take" Ry f31 g31)
 (h32:KF K "_law_name" PJ f32 g32)
 (h33:KF K "_law_fields" RB f33 g33)
 (h34:KF K "_law_base" Rt f34 g34)
 (h35:KF K "_law_grid" Ru f35 g35)
 (h36:KF K "_law_span" Rx f36 g36)
 (h37:KF K "_law_wish" Rz f37 g37)
 (h38:KF K "_law_wishes" RC f38 g38)
 (h39:KF K "_law_part" Rv f39 g39)
 (h40:KF K "_law_covers" RA f40 g40)
 (h41:KF K "_law_rank" Rw f41 g41)
 (h42:KF K "_law_greatest" NF f42 g42)
 (h43:KF K "_law_whole" RE f43 g43)
 (h44:KF K "_law_wants" Rj f44 g44)
 (h45:KF K "_law_is_piece" PR f45 g45)
 (h46:KF K "_law_points" Oq f46 g46)
 (h47:KF K "_law_alike" P9 f47 g47)
 (h48:KF K "_law_stay" ND f48 g48)
 (h49:KF K "law" Mp f49 g49)
 {tML':Tok} (eML':nsIn K AJ "MOST_LETTERS"=some (some (.int 8 tML')))
 {tMW':Tok} (eMW':nsIn K AJ "MOST_WISHES"=some (some (.int 7 tMW')))
 {tMF':Tok} (eMF':nsIn K AJ "MOST_FIELDS"=some (some (.int 3 tMF')))
 (z_len:nsIn K AJ "len"=some none)
 (z_range:nsIn K AJ "range"=some none)
 (z_isinstance:nsIn K AJ "isinstance"=some none)
 (z_int:nsIn K AJ "int"=some none)
 (z_bool:nsIn K AJ "bool"=some none)
 (z_tuple:nsIn K AJ "tuple"=some none)
 (z_list:nsIn K AJ "list"=some none)
 (z_max:nsIn K AJ "max"=some none)
 (z_min:nsIn K AJ "min"=some none)
 (z_all:nsIn K AJ "all"=some none)
 (z_zip:nsIn K AJ "zip"=some none)
 (z_str:nsIn K AJ "str"=some none)
 (z_dict:nsIn K AJ "dict"=some none)
 (z_sorted:nsIn K AJ "sorted"=some none)
 (z_set:nsIn K AJ "set"=some none)
 (z_any:nsIn K AJ "any"=some none)
 (z_sum:nsIn K AJ "sum"=some none)
 (z_enumerate:nsIn K AJ "enumerate"=some none)
 (z_repr:nsIn K AJ "repr"=some none)
 (z_ord:nsIn K AJ "ord"=some none)
 (z_chr:nsIn K AJ "chr"=some none)
 (z_abs:nsIn K AJ "abs"=some none)
 (z_reversed:nsIn K AJ "reversed"=some none)
 :∃fd:BP,(∀(s:Shared)(v:Value),BindsTo s fd ⟨[v],[]⟩ [("script",v)])∧∀base:Heap,K.In base→base.Ns AJ mg→FnOk l.prog w K mg base Jc 12 fa fd ["script"] (OW K):=by
 have e:=hfa.symm.trans (PySem.W.mg_of X G h49.a);cases e;obtain⟨_,⟨⟨oc,od,kV,dc,pm,an,cd,ct,sl,rfl,l',c'⟩,k'⟩⟩:=h49;have B:Bl mg:=⟨mg_none_of X G z_len,mg_none_of X G z_range,mg_none_of X G z_isinstance,mg_none_of X G z_int,mg_none_of X G z_bool,mg_none_of X G z_tuple,mg_none_of X G z_list,mg_none_of X G z_max,mg_none_of X G z_min,mg_none_of X G z_all,mg_none_of X G z_zip,mg_none_of X G z_str,mg_none_of X G z_dict,mg_none_of X G z_sorted,mg_none_of X G z_set,mg_none_of X G z_any,mg_none_of X G z_sum,mg_none_of X G z_enumerate,mg_none_of X G z_repr,mg_none_of X G z_ord,mg_none_of X G z_chr,mg_none_of X G z_abs,mg_none_of X G z_reversed⟩;refine⟨D0 "law" "law" (L1 Mp) (Lh Mp) (IQ Mp) .none kV dc pm an cd ct,λs v=> .of_eq rfl,λbase _ _=>?_⟩;have QML':=mg_of X G eML';have QMW':=mg_of X G eMW';have QMF':=mg_of X G eMF';have Hy:Γ0 l.prog w K mg base:=⟨_,_,zhJ B QML' QMW' QMF' h1.F,JR h1.F,h1.F.2,mg_of X G h1.a⟩;have Hz:Γ1 l.prog w K mg base:=⟨_,_,zkK B QML' QMW' QMF' h2.F Hy,JR h2.F,h2.F.2,mg_of X G h2.a⟩;have HB:Γ2 l.prog w K mg base:=⟨_,_,zjt B QML' QMW' QMF' h3.F Hz,JR h3.F,h3.F.2,mg_of X G h3.a⟩;have HG:Γ3 l.prog w K mg base:=⟨_,_,zeF B QML' QMW' QMF' h4.F,K4 h4.F,h4.F.2,mg_of X G h4.a⟩;have HI:Γ4 l.prog w K mg base:=⟨_,_,ze0 B QML' QMW' QMF' h5.F,K4 h5.F,h5.F.2,mg_of X G h5.a⟩;have HW:Γ5 l.prog w K mg base:=⟨_,_,zgE B QML' QMW' QMF' h6.F,JR h6.F,h6.F.2,mg_of X G h6.a⟩;have HA:Γ6 l.prog w K mg base:=⟨_,_,zhL B QML' QMW' QMF' h7.F,JR h7.F,h7.F.2,mg_of X G h7.a⟩;have HD:Γ7 l.prog w K mg base:=⟨_,_,zeL B QML' QMW' QMF' h8.F HA HB,JR h8.F,h8.F.2,mg_of X G h8.a⟩;have HC:Γ8 l.prog w K mg base:=⟨_,_,zeh B QML' QMW' QMF' h9.F,JR h9.F,h9.F.2,mg_of X G h9.a⟩;have HE:Γ9 l.prog w K mg base:=⟨_,_,zjs B QML' QMW' QMF' h10.F HC HD,JR h10.F,h10.F.2,mg_of X G h10.a⟩;have HF:Γ10 l.prog w K mg base:=⟨_,_,zfO B QML' QMW' QMF' h11.F HE,JR h11.F,h11.F.2,mg_of X G h11.a⟩;have HN:Γ11 l.prog w K mg base:=⟨_,_,zeM B QML' QMW' QMF' h12.F HF,JR h12.F,h12.F.2,mg_of X G h12.a⟩;have HH:Γ12 l.prog w K mg base:=⟨_,_,zdV B QML' QMW' QMF' h13.F,JR h13.F,h13.F.2,mg_of X G h13.a⟩;have HL:Γ13 l.prog w K mg base:=⟨_,_,zeg B QML' QMW' QMF' h14.F HG,K4 h14.F,h14.F.2,mg_of X G h14.a⟩;have HR:Γ14 l.prog w K mg base:=⟨_,_,zeZ B QML' QMW' QMF' h15.F HH HI,K4 h15.F,h15.F.2,mg_of X G h15.a⟩;have HJ:Γ15 l.prog w K mg base:=⟨_,_,ze1 B QML' QMW' QMF' h16.F,JR h16.F,h16.F.2,mg_of X G h16.a⟩;have HK:Γ16 l.prog w K mg base:=⟨_,_,zeG B QML' QMW' QMF' h17.F,JR h17.F,h17.F.2,mg_of X G h17.a⟩;have HQ:Γ17 l.prog w K mg base:=⟨_,_,Ys B QML' QMW' QMF' h18.F HJ HK,JR h18.F,h18.F.2,mg_of X G h18.a⟩;have HM:Γ18 l.prog w K mg base:=⟨_,_,zhK B QML' QMW' QMF' h19.F HH HL,K4 h19.F,h19.F.2,mg_of X G h19.a⟩;have HP:Γ19 l.prog w K mg base:=⟨_,_,ze2 B QML' QMW' QMF' h20.F HM,JR h20.F,h20.F.2,mg_of X G h20.a⟩;have HY:Γ20 l.prog w K mg base:=⟨_,_,zhM B QML' QMW' QMF' h21.F HN HP HQ,JR h21.F,h21.F.2,mg_of X G h21.a⟩;have HS:Γ21 l.prog w K mg base:=⟨_,_,zeE B QML' QMW' QMF' h22.F,K4 h22.F,h22.F.2,mg_of X G h22.a⟩;have HU:Γ22 l.prog w K mg base:=⟨_,_,zdf B QML' QMW' QMF' h23.F HR HS,K4 h23.F,h23.F.2,mg_of X G h23.a⟩;have HV:Γ23 l.prog w K mg base:=⟨_,_,zeI B QML' QMW' QMF' h24.F HU,K4 h24.F,h24.F.2,mg_of X G h24.a⟩;have Ia:Γ24 l.prog w K mg base:=⟨_,_,zeH B QML' QMW' QMF' h25.F HV HW,K4 h25.F,h25.F.2,mg_of X G h25.a⟩;have HZ:Γ25 l.prog w K mg base:=⟨_,_,zgI B QML' QMW' QMF' h26.F,JR h26.F,h26.F.2,mg_of X G h26.a⟩;have HX:Γ26 l.prog w K mg base:=⟨_,_,zgJ B QML' QMW' QMF' h27.F,K4 h27.F,h27.F.2,mg_of X G h27.a⟩;have H_:Γ27 l.prog w K mg base:=⟨_,_,zju B QML' QMW' QMF' h28.F,K4 h28.F,h28.F.2,mg_of X G h28.a⟩;have Ix:Γ28 l.prog w K mg base:=⟨_,_,Yr B QML' QMW' QMF' h29.F HN HX HY HZ H_ Ia,JR h29.F,h29.F.2,mg_of X G h29.a⟩;have Iq:Γ29 l.prog w K mg base:=⟨_,_,zhA B QML' QMW' QMF' h30.F,JR h30.F,h30.F.2,mg_of X G h30.a⟩;have Ib:Γ30 l.prog w K mg base:=⟨_,_,zhB B QML' QMW' QMF' h31.F,K4 h31.F,h31.F.2,mg_of X G h31.a⟩;have Ic:Γ31 l.prog w K mg base:=⟨_,_,zhG B QML' QMW' QMF' h32.F Ib,K4 h32.F,h32.F.2,mg_of X G h32.a⟩;have Ir:Γ32 l.prog w K mg base:=⟨_,_,zfM B QML' QMW' QMF' h33.F Ic Ib,K4 h33.F,h33.F.2,mg_of X G h33.a⟩;have Ie:Γ33 l.prog w K mg base:=⟨_,_,zhI B QML' QMW' QMF' h34.F Ib,JR h34.F,h34.F.2,mg_of X G h34.a⟩;have Iu:Γ34 l.prog w K mg base:=⟨_,_,zhH B QML' QMW' QMF' h35.F Ib Ie,JR h35.F,h35.F.2,mg_of X G h35.a⟩;have Ig:Γ35 l.prog w K mg base:=⟨_,_,zhD B QML' QMW' QMF' h36.F Ib,WI h36.F,h36.F.2,mg_of X G h36.a⟩;have Ih:Γ36 l.prog w K mg base:=⟨_,_,zhz B QML' QMW' QMF' h37.F Ib Ig,bn4 h37.F,h37.F.2,mg_of X G h37.a⟩;have Iv:Γ37 l.prog w K mg base:=⟨_,_,zfK B QML' QMW' QMF' h38.F Ib Ih,bn5 h38.F,h38.F.2,mg_of X G h38.a⟩;have Ii:Γ38 l.prog w K mg base:=⟨_,_,zhF B QML' QMW' QMF' h39.F,K4 h39.F,h39.F.2,mg_of X G h39.a⟩;have Ik:Γ39 l.prog w K mg base:=⟨_,_,zfN B QML' QMW' QMF' h40.F Ii,K4 h40.F,h40.F.2,mg_of X G h40.a⟩;have Ij:Γ40 l.prog w K mg base:=⟨_,_,zhE B QML' QMW' QMF' h41.F,JR h41.F,h41.F.2,mg_of X G h41.a⟩
 have Io:Γ41 l.prog w K mg base:=⟨_,_,zeK B QML' QMW' QMF' h42.F Ij Ik,JR h42.F,h42.F.2,mg_of X G h42.a⟩;have Il:Γ42 l.prog w K mg base:=⟨_,_,zgF B QML' QMW' QMF' h43.F,JR h43.F,h43.F.2,mg_of X G h43.a⟩;have Ip:Γ43 l.prog w K mg base:=⟨_,_,zgG B QML' QMW' QMF' h44.F,K4 h44.F,h44.F.2,mg_of X G h44.a⟩;have Iz:Γ44 l.prog w K mg base:=⟨_,_,zeJ B QML' QMW' QMF' h45.F Il,JR h45.F,h45.F.2,mg_of X G h45.a⟩;have Iy:Γ45 l.prog w K mg base:=⟨_,_,zfL B QML' QMW' QMF' h46.F,WI h46.F,h46.F.2,mg_of X G h46.a⟩;have Im:Γ46 l.prog w K mg base:=⟨_,_,zgH B QML' QMW' QMF' h47.F  (PySem.W.mg_of X G h47.a),K4 h47.F,h47.F.2,mg_of X G h47.a⟩;have Iw:Γ47 l.prog w K mg base:=⟨_,_,zhC B QML' QMW' QMF' h48.F Io Ip,K4 h48.F,h48.F.2,mg_of X G h48.a⟩;exact XF B QML' QMW' QMF' (fun_mk (st:=Mp) l' c' k') Iq Ir Ib Iu Iv Iw Ix Im Iy Iz Ip
theorem walk{l:Gd}{q:Bp}{loose:List Str}{XP:(Str→Option Value)→Heap→Prop}{YP:World→Heap→Prop}{d:DefRec}{K:Params→Ae}(hn:l.most=some 63)(hdf:d.params.defaults=[])
 (hY:∀(w:World)(h:Heap),YP w h→(K w.params).In h)
 (F:∀(w:World)(mg:Str→Option Value)(fa:Addr)(h:Heap),(K w.params).In h→h.Ns AJ mg→mg d.name=some (.ref fa)→
  ∃fd:BP,(∀(s:Shared)(u:Value),BindsTo s fd ⟨[u],[]⟩ [("script",u)])∧∀base:Heap,(K w.params).In base→base.Ns AJ mg→FnOk l.prog w (K w.params) mg base Jc 12 fa fd ["script"] (OW (K w.params))):
 PySem.W.WalkO q loose XP YP l.row.toRowW d [] (λf vs=>PySem.call f vs):=
 L2.walk_of (n:=63) (k:=12) (x:="script") (CX:=λ_=>Jc) (sp:=λw=>OW (K w.params)) hn (by decide) hdf ⟨rfl,by decide,by decide,rfl⟩ hY F (λ_ _ a ns hl _ hS=>⟨a,ns,rfl,hS,hl,λ_=>rfl⟩) λ_ _ _ _ _ z=>z
end K14
namespace PySem.W.Fast
theorem tw11679457764737299275:0=0:=rfl
theorem tw695023846573121230:0=0:=rfl
theorem tw6597191496045425844:0=0:=rfl
theorem tw9108279064777490248:0=0:=rfl
theorem tw13496994633358054719:0=0:=rfl
theorem tw3912075916925729895:0=0:=rfl
theorem tw12171237068769116338:0=0:=rfl
theorem tw2353872920393821212:0=0:=rfl
theorem tw8344817825907606784:0=0:=rfl
theorem tw4616169961157285248:0=0:=rfl
theorem tw1225412040300379552:0=0:=rfl
theorem tw9531826581589012992:0=0:=rfl
theorem tw4451477448430928641:0=0:=rfl
theorem tw1130616132904664929:0=0:=rfl
theorem tw15321190592612072834:0=0:=rfl
theorem tw9523316502336592610:0=0:=rfl
theorem tw9703930854776636290:0=0:=rfl
theorem tw5923726281189600387:0=0:=rfl
theorem tw6962174572203958915:0=0:=rfl
theorem tw6244217642324862340:0=0:=rfl
theorem tw15666243303971755428:0=0:=rfl
theorem tw11783373537083121252:0=0:=rfl
theorem tw703590716055143044:0=0:=rfl
theorem tw7332304825893746308:0=0:=rfl
theorem tw13596582892940110885:0=0:=rfl
theorem tw2613270120536599717:0=0:=rfl
theorem tw3752904363970446053:0=0:=rfl
theorem tw14127476617499854789:0=0:=rfl
theorem tw13694948268222418182:0=0:=rfl
theorem tw15875948542261166502:0=0:=rfl
theorem tw10447589942085961446:0=0:=rfl
theorem tw5473046242941555783:0=0:=rfl
theorem tw17098206068971940999:0=0:=rfl
theorem tw10378701429102383015:0=0:=rfl
theorem tw14409042093584171208:0=0:=rfl
theorem tw1489211114907228424:0=0:=rfl
theorem tw15143545446823760232:0=0:=rfl
theorem tw5072981571806223848:0=0:=rfl
theorem tw10649600821054469928:0=0:=rfl
theorem tw12588685869311558537:0=0:=rfl
theorem tw5156113741277235274:0=0:=rfl
theorem tw5280757059425873386:0=0:=rfl
theorem tw14590118827669991211:0=0:=rfl
theorem tw9633128751148943339:0=0:=rfl
theorem tw15868976803558265196:0=0:=rfl
theorem tw4962478227494168940:0=0:=rfl
theorem tw10378091176733737516:0=0:=rfl
theorem tw12833192174210633741:0=0:=rfl
theorem tw4552121141092336909:0=0:=rfl
theorem tw794243055077063117:0=0:=rfl
theorem tw496420486498630317:0=0:=rfl
theorem tw5518955147335770670:0=0:=rfl
theorem tw1560707315085912718:0=0:=rfl
theorem tw10479678143224190095:0=0:=rfl
theorem tw15385583236271074575:0=0:=rfl
theorem tw16762673802177170159:0=0:=rfl
theorem tw9547455913040903824:0=0:=rfl
theorem tw6819292019806965042:0=0:=rfl
theorem tw15410792315042255410:0=0:=rfl
theorem tw10366316978217676115:0=0:=rfl
theorem tw2593788966926300979:0=0:=rfl
theorem tw16577019786999394548:0=0:=rfl
theorem tw16323654491272533301:0=0:=rfl
theorem tw14992994502525889654:0=0:=rfl
theorem tw10314907511762505110:0=0:=rfl
theorem tw3939057738011902422:0=0:=rfl
theorem tw4994329188179758550:0=0:=rfl
theorem tw4113668329416448982:0=0:=rfl
theorem tw10954635756101588248:0=0:=rfl
theorem tw7544023001837464408:0=0:=rfl
theorem tw515347446318339353:0=0:=rfl
theorem tw6562296285752845113:0=0:=rfl
theorem tw10814507127255417306:0=0:=rfl
theorem tw17555387861049799226:0=0:=rfl
theorem tw1169927135169691226:0=0:=rfl
theorem tw2008576055579307866:0=0:=rfl
theorem tw5398565956707716435:0=0:=rfl
theorem tw1528004227639367744:0=0:=rfl
theorem tw4970009751090410752:0=0:=rfl
theorem tw14720161635620340256:0=0:=rfl
theorem tw15670666012018499136:0=0:=rfl
theorem tw4481689036363941472:0=0:=rfl
theorem tw455755032781105760:0=0:=rfl
theorem tw8958175471187469248:0=0:=rfl
theorem tw11150753512516741185:0=0:=rfl
theorem tw2406611931999603841:0=0:=rfl
theorem tw3655075344703367393:0=0:=rfl
theorem tw2168922106672679265:0=0:=rfl
theorem tw6983116340801739105:0=0:=rfl
theorem tw8359346881894676001:0=0:=rfl
theorem tw10495211728969702690:0=0:=rfl
theorem tw2424225225572661602:0=0:=rfl
theorem tw12782508385052318178:0=0:=rfl
theorem tw11737075944873558562:0=0:=rfl
theorem tw18205200736376020674:0=0:=rfl
theorem tw15560188434775281378:0=0:=rfl
theorem tw9106615986824064770:0=0:=rfl
theorem tw13091529961681296194:0=0:=rfl
theorem tw3464999955537623010:0=0:=rfl
theorem tw17403984362867364867:0=0:=rfl
theorem tw16004449882578293923:0=0:=rfl
theorem tw17404185662681306531:0=0:=rfl
theorem tw12571648327943130723:0=0:=rfl
theorem tw1891748319824618115:0=0:=rfl
theorem tw17788461744449398499:0=0:=rfl
theorem tw16391228239063997636:0=0:=rfl
theorem tw11395457807668666628:0=0:=rfl
theorem tw10289734852836170436:0=0:=rfl
theorem tw3761006756752324292:0=0:=rfl
theorem tw5168381141773473572:0=0:=rfl
theorem tw9624593864194047013:0=0:=rfl
theorem tw3870679018257806565:0=0:=rfl
theorem tw7452790064416725541:0=0:=rfl
theorem tw17008721753983513157:0=0:=rfl
theorem tw10806217543694244517:0=0:=rfl
theorem tw9394831562919603941:0=0:=rfl
theorem tw3829645949324212262:0=0:=rfl
theorem tw10099287052697172102:0=0:=rfl
theorem tw2830325024029124774:0=0:=rfl
theorem tw13484872096050369734:0=0:=rfl
theorem tw12815933748134524198:0=0:=rfl
theorem tw12720093744766548326:0=0:=rfl
theorem tw13201262451500425702:0=0:=rfl
theorem tw5564976548098554374:0=0:=rfl
theorem tw14616713471956170566:0=0:=rfl
theorem tw6276381485160645478:0=0:=rfl
theorem tw7289659189830531079:0=0:=rfl
theorem tw7901126618072278119:0=0:=rfl
theorem tw15260989301006756967:0=0:=rfl
theorem tw6388032717127776359:0=0:=rfl
theorem tw15645878334828839271:0=0:=rfl
theorem tw203015526019867015:0=0:=rfl
theorem tw18276210365079341639:0=0:=rfl
theorem tw2321916212965119719:0=0:=rfl
theorem tw1781295351872318183:0=0:=rfl
theorem tw13333983683625843431:0=0:=rfl
theorem tw12776894974246306599:0=0:=rfl
theorem tw55117972729202599:0=0:=rfl
theorem tw17310645676450057288:0=0:=rfl
theorem tw3643366795279267112:0=0:=rfl
theorem tw6078317335706828072:0=0:=rfl
theorem tw7919555995661694376:0=0:=rfl
theorem tw4481380811452496456:0=0:=rfl
theorem tw9722243654806183592:0=0:=rfl
theorem tw17151252738357382024:0=0:=rfl
theorem tw16115621352375970792:0=0:=rfl
theorem tw17786633947210599593:0=0:=rfl
theorem tw4445044153775306025:0=0:=rfl
theorem tw1516899463912587657:0=0:=rfl
theorem tw2185860594456803881:0=0:=rfl
theorem tw11475918707349777961:0=0:=rfl
theorem tw18314242162296150729:0=0:=rfl
theorem tw326685352445359881:0=0:=rfl
theorem tw9751075774276058154:0=0:=rfl
theorem tw10459885132968604842:0=0:=rfl
theorem tw2070173629478893802:0=0:=rfl
theorem tw15119424754024773898:0=0:=rfl
theorem tw13550181523356637514:0=0:=rfl
theorem tw5318361182726220202:0=0:=rfl
theorem tw803812021914404458:0=0:=rfl
theorem tw364845747632854666:0=0:=rfl
theorem tw4267030660517769066:0=0:=rfl
theorem tw1603099016512288682:0=0:=rfl
theorem tw3193921700677529803:0=0:=rfl
theorem tw9320064564326156619:0=0:=rfl
theorem tw3903431680559580555:0=0:=rfl
theorem tw1970407233678177867:0=0:=rfl
theorem tw7162864880217808619:0=0:=rfl
theorem tw345371738916088811:0=0:=rfl
theorem tw11966593777546222796:0=0:=rfl
theorem tw17346896175693260172:0=0:=rfl
theorem tw14277425191433968044:0=0:=rfl
theorem tw14889886696547379628:0=0:=rfl
theorem tw5366352894678629900:0=0:=rfl
theorem tw18414139454190289484:0=0:=rfl
theorem tw10355551473783403565:0=0:=rfl
theorem tw15028888947986792589:0=0:=rfl
theorem tw6007119265110277325:0=0:=rfl
theorem tw7244038066144085293:0=0:=rfl
theorem tw13374777349079851341:0=0:=rfl
theorem tw11359974970793044365:0=0:=rfl
theorem tw10250401074460981645:0=0:=rfl
theorem tw15950883154847985101:0=0:=rfl
theorem tw10960643546583377421:0=0:=rfl
theorem tw11082938908847993421:0=0:=rfl
theorem tw10912767293779152653:0=0:=rfl
theorem tw477805965896260429:0=0:=rfl
theorem tw8818716774014747533:0=0:=rfl
theorem tw14873909640520276909:0=0:=rfl
theorem tw12759975899703040973:0=0:=rfl
theorem tw14447614932212697166:0=0:=rfl
theorem tw4758862185467396302:0=0:=rfl
theorem tw14203128018151070254:0=0:=rfl
theorem tw14051998990891583278:0=0:=rfl
theorem tw5594719541740339086:0=0:=rfl
theorem tw17203914008654429327:0=0:=rfl
theorem tw10137547335791224175:0=0:=rfl
theorem tw6933968763531577807:0=0:=rfl
theorem tw4277444331144418127:0=0:=rfl
theorem tw16624598790728634191:0=0:=rfl
theorem tw14760510150914416463:0=0:=rfl
theorem tw16167124964280999791:0=0:=rfl
theorem tw12870829088081487791:0=0:=rfl
theorem tw10976431974380953680:0=0:=rfl
theorem tw8807588024104960368:0=0:=rfl
theorem tw3390638289109650832:0=0:=rfl
theorem tw13004906402539679248:0=0:=rfl
theorem tw17504279049602738768:0=0:=rfl
theorem tw8012912231675222065:0=0:=rfl
theorem tw17514196861695859761:0=0:=rfl
theorem tw2188496408099512465:0=0:=rfl
theorem tw15541740031788917233:0=0:=rfl
theorem tw6001846752013777970:0=0:=rfl
theorem tw7969207574423541842:0=0:=rfl
theorem tw14075605686631034226:0=0:=rfl
theorem tw12592303157650889202:0=0:=rfl
theorem tw753242098905588370:0=0:=rfl
theorem tw3746372563673687794:0=0:=rfl
theorem tw1283576104596861714:0=0:=rfl
theorem tw10838906276973742994:0=0:=rfl
theorem tw8319942489300715506:0=0:=rfl
theorem tw3321595637442989075:0=0:=rfl
theorem tw13435309887843278995:0=0:=rfl
theorem tw5676561717804366259:0=0:=rfl
theorem tw725819319993786899:0=0:=rfl
theorem tw16675516887449762355:0=0:=rfl
theorem tw12598143195423403699:0=0:=rfl
theorem tw2413130247382068179:0=0:=rfl
theorem tw9625160859453108179:0=0:=rfl
theorem tw4664095425890759667:0=0:=rfl
theorem tw12836760554985960564:0=0:=rfl
theorem tw10013648535975768308:0=0:=rfl
theorem tw16935670480326893908:0=0:=rfl
theorem tw3900995346278598996:0=0:=rfl
theorem tw12106906774824581620:0=0:=rfl
theorem tw453060006072168116:0=0:=rfl
theorem tw16561366252466850644:0=0:=rfl
theorem tw1827439108714201237:0=0:=rfl
theorem tw1337865522530613461:0=0:=rfl
theorem tw5544840759674764725:0=0:=rfl
theorem tw13026994567943172853:0=0:=rfl
theorem tw8946083751484408597:0=0:=rfl
theorem tw10562795054062362517:0=0:=rfl
theorem tw11773893355957317686:0=0:=rfl
theorem tw13877190181167164790:0=0:=rfl
theorem tw12564682758985973206:0=0:=rfl
theorem tw1075813025237579542:0=0:=rfl
theorem tw10692000360044176310:0=0:=rfl
theorem tw2228957172963766711:0=0:=rfl
theorem tw5579187110974944759:0=0:=rfl
theorem tw9983791293797871095:0=0:=rfl
theorem tw10944518193746503287:0=0:=rfl
theorem tw3605205365886305015:0=0:=rfl
theorem tw727901701769657303:0=0:=rfl
theorem tw9695186887175351480:0=0:=rfl
theorem tw3115816393663714552:0=0:=rfl
theorem tw9126191620224376:0=0:=rfl
theorem tw8156874772066642456:0=0:=rfl
theorem tw16423835727875137400:0=0:=rfl
theorem tw1163695823370332729:0=0:=rfl
theorem tw4470374836430475001:0=0:=rfl
theorem tw7756965689396334489:0=0:=rfl
theorem tw7821784719784567705:0=0:=rfl
theorem tw11538247057718972345:0=0:=rfl
theorem tw1377243501057370266:0=0:=rfl
theorem tw347364433710219482:0=0:=rfl
theorem tw13243102959103404346:0=0:=rfl
theorem tw14733515518041869658:0=0:=rfl
theorem tw8301994585880960730:0=0:=rfl
theorem tw17102839289649447642:0=0:=rfl
theorem tw7318317902706403194:0=0:=rfl
theorem tw5566994651507700666:0=0:=rfl
theorem tw1234181076079207418:0=0:=rfl
theorem tw1524465166808970267:0=0:=rfl
theorem tw733700712414261275:0=0:=rfl
theorem tw13766313177014667355:0=0:=rfl
theorem tw17615915552085151835:0=0:=rfl
theorem tw5387447015305331035:0=0:=rfl
theorem tw15412822781481372059:0=0:=rfl
theorem tw11387326221523708315:0=0:=rfl
theorem tw11377256295609325051:0=0:=rfl
theorem tw16491754163462209019:0=0:=rfl
theorem tw4509430158913118747:0=0:=rfl
theorem tw3625857007610773019:0=0:=rfl
theorem tw3318571998458094171:0=0:=rfl
theorem tw17428554471951070875:0=0:=rfl
theorem tw4260373226168252091:0=0:=rfl
theorem tw4169985108368027387:0=0:=rfl
theorem tw5882341730431001339:0=0:=rfl
theorem tw11405563157012231035:0=0:=rfl
theorem tw12042628376435302267:0=0:=rfl
theorem tw16975406493396205563:0=0:=rfl
theorem tw15887863045899628796:0=0:=rfl
theorem tw3511992923362728284:0=0:=rfl
theorem tw6174661914165041756:0=0:=rfl
theorem tw17383164588738103932:0=0:=rfl
theorem tw18211450016379799548:0=0:=rfl
theorem tw11360129653490158621:0=0:=rfl
theorem tw11702991927292153981:0=0:=rfl
theorem tw3916986058555698333:0=0:=rfl
theorem tw13864939860750873853:0=0:=rfl
theorem tw2871698296361405725:0=0:=rfl
theorem tw11608221136337457437:0=0:=rfl
theorem tw7556318439974592829:0=0:=rfl
theorem tw12145039461621718845:0=0:=rfl
theorem tw16825139710887933821:0=0:=rfl
theorem tw4680804014434672766:0=0:=rfl
theorem tw2972301119681488126:0=0:=rfl
theorem tw3522083100907268350:0=0:=rfl
theorem tw8307423000225625438:0=0:=rfl
theorem tw10014156178372965822:0=0:=rfl
theorem tw11152162858285031902:0=0:=rfl
theorem tw2914870982368677662:0=0:=rfl
theorem tw9896407348057768798:0=0:=rfl
theorem tw16810266033561215838:0=0:=rfl
theorem tw4249802341174197150:0=0:=rfl
theorem tw11145579879370510463:0=0:=rfl
theorem tw10989157946621321471:0=0:=rfl
theorem tw17584610817641049375:0=0:=rfl
theorem tw16270765838869812543:0=0:=rfl
theorem tw18005953367264335615:0=0:=rfl
theorem tw317246297616846783:0=0:=rfl
end PySem.W.Fast
open PySem PySem.W PyProof.Rows
set_option hygiene false in
local macro_rules | `(tactic| walk_at "kF")=> `(tactic| (refine' K14.KF.mk ?a (L2.fun_mk ?l ?c ?k);(case a=>k_is);(case l=>k_is);(case c=>k_is);(case k=>k_is)))
set_option maxRecDepth 100000 in
set_option maxHeartbeats 0 in
theorem PySem.Challenge.cw_newsways_k14_the_lean_list_by_trial_holds : PySem.Challenge.rw_newsways_k14_the_lean_list_by_trial.Holds := by
 w_on;o_law;k_head;(case hw=>w_witness2)
 k_fill
 refine K14.walk (l:=PySem.Challenge.rw_newsways_k14_the_lean_list_by_trial) rfl rfl (λw h Y=>PySem.W.kIn_of Y) ?F
 case F=>
  intro w mg fa h KX G hmg;refine' K14.all_mk KX G hmg ?h1 ?h2 ?h3 ?h4 ?h5 ?h6 ?h7 ?h8 ?h9 ?h10 ?h11 ?h12 ?h13 ?h14 ?h15 ?h16 ?h17 ?h18 ?h19 ?h20 ?h21 ?h22 ?h23 ?h24 ?h25 ?h26 ?h27 ?h28 ?h29 ?h30 ?h31 ?h32 ?h33 ?h34 ?h35 ?h36 ?h37 ?h38 ?h39 ?h40 ?h41 ?h42 ?h43 ?h44 ?h45 ?h46 ?h47 ?h48 ?h49 ?eML' ?eMW' ?eMF'  ?z_len ?z_range ?z_isinstance ?z_int ?z_bool ?z_tuple ?z_list ?z_max ?z_min ?z_all ?z_zip ?z_str ?z_dict ?z_sorted ?z_set ?z_any ?z_sum ?z_enumerate ?z_repr ?z_ord ?z_chr ?z_abs ?z_reversed
  (case h1=>walk_at "kF");(case h2=>walk_at "kF");(case h3=>walk_at "kF");(case h4=>walk_at "kF");(case h5=>walk_at "kF");(case h6=>walk_at "kF");(case h7=>walk_at "kF");(case h8=>walk_at "kF");(case h9=>walk_at "kF");(case h10=>walk_at "kF");(case h11=>walk_at "kF");(case h12=>walk_at "kF");(case h13=>walk_at "kF");(case h14=>walk_at "kF");(case h15=>walk_at "kF");(case h16=>walk_at "kF");(case h17=>walk_at "kF");(case h18=>walk_at "kF");(case h19=>walk_at "kF");(case h20=>walk_at "kF");(case h21=>walk_at "kF");(case h22=>walk_at "kF");(case h23=>walk_at "kF");(case h24=>walk_at "kF");(case h25=>walk_at "kF");(case h26=>walk_at "kF");(case h27=>walk_at "kF");(case h28=>walk_at "kF");(case h29=>walk_at "kF");(case h30=>walk_at "kF");(case h31=>walk_at "kF");(case h32=>walk_at "kF");(case h33=>walk_at "kF");(case h34=>walk_at "kF");(case h35=>walk_at "kF");(case h36=>walk_at "kF");(case h37=>walk_at "kF");(case h38=>walk_at "kF");(case h39=>walk_at "kF");(case h40=>walk_at "kF");(case h41=>walk_at "kF");(case h42=>walk_at "kF");(case h43=>walk_at "kF");(case h44=>walk_at "kF");(case h45=>walk_at "kF");(case h46=>walk_at "kF");(case h47=>walk_at "kF");(case h48=>walk_at "kF");(case h49=>walk_at "kF")
  (case eML'=>k_is);(case eMW'=>k_is);(case eMF'=>k_is)
  (case z_len=>k_is);(case z_range=>k_is);(case z_isinstance=>k_is);(case z_int=>k_is);(case z_bool=>k_is);(case z_tuple=>k_is);(case z_list=>k_is);(case z_max=>k_is);(case z_min=>k_is);(case z_all=>k_is);(case z_zip=>k_is);(case z_str=>k_is);(case z_dict=>k_is);(case z_sorted=>k_is);(case z_set=>k_is);(case z_any=>k_is);(case z_sum=>k_is);(case z_enumerate=>k_is);(case z_repr=>k_is);(case z_ord=>k_is);(case z_chr=>k_is);(case z_abs=>k_is);(case z_reversed=>k_is)
