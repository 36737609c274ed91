import PyProof.Rows.All
import Wide.All
import OpenK.AllK
import Wide.FinOn
import Lean
import PyProof.EqAt
import PyProof.EqKinds
import PyProof.TupleCall
import PyProof.NeKinds
import KE.IntBitsLaws
import PyProof.StrWalks
import PyProof.FString5
import PyProof.ConsumeWalk
import PyProof.DictCompW
import PyProof.ZipIter
import PyProof.EnumMake
import PyProof.Rows.SetFrom
import KE.KRevSl
import PyProof.FitsBits
import PyProof.Rows.SortStr
import PyProof.StrBlockL
import PyProof.JoinWalk
import PyProof.AttrMissHeap
import PyProof.ListNew
import PyProof.DictUpdate
import PyProof.DictWalks
import KE.KSortTup
import PyProof.Rows.StrMeet
import KE.KSortKey
import PyProof.ListRange
import PyProof.SumAny
import PyProof.WalkInts
import PyProof.StationsW
import PyProof.RulesAs
import OpenK.KRaise
import PyProof.ExcInit
import PyProof.ExcBaseAll.ValueError
import PyProof.PassesOwn
import PyProof.NsDelKeeps
import PyProof.Rows.Catch
import PyProof.FString
import PyProof.Rows.FStr
import PyProof.ExcArgs
import PyProof.ExcAttrAll.ValueError
import PyProof.Rows.SortWalk
import PyProof.ReprRoads
import PyProof.ReprText
import PyProof.CallFns
import KE.KEqDict
import PyProof.AutoListH
import PyProof.SliceStr2
import PyProof.StrOps2
import PyProof.Rows.StrMadeLen
import PyProof.StrLawsIn
import PyProof.TupleKey
import PyProof.DictRoadsH
import PySem.Challenge.RW_newsways_k15_how_many_by_trial
open Array renaming length_toList → AG, getElem?_eq_getElem → Ck, getElem?_toList → Cm, getElem?_eq_none → DP, size_append → ET
open Bool renaming false_ne_true → As, and_eq_true → A8, eq_iff_iff → Bt, false_eq_true → BR, eq_false_iff → CD, and_false → DH, not_eq_true' → DK, and_true → EH
open False renaming elim → C4
open Function renaming comp → DU
open Int renaming toNat_natCast → Ba, emod_lt_of_pos → Ca, mul_le_mul_of_nonneg_left → Cn, emod_nonneg → Cz, mul_nonneg → Ex, mul_le_mul → Ey, le_refl → Ez, lt_of_mul_lt_mul_left → Fc, le_trans → Fg
open List renaming length_map → Ab, mem_singleton → Ae, getElem?_map → Af, map_append → Ah, mem_of_getElem? → Aj, mem_cons → Ak, getElem?_eq_some_iff → Al, mem_append_right → An, take_of_length_le → Ar, getElem?_eq_getElem → Av, mem_append → Aw, size_toArray → Ax, mem_map → Ay, map_cons → A0, mem_map_of_mem → A3, length_append → A5, length_take → A7, all_eq_true → A9, mem_cons_self → AA, mem_cons_of_mem → AB, not_mem_nil → AC, length_cons → AF, mem_of_mem_take → AJ, getD_eq_getElem?_getD → AX, take_length → Bb, range → Bc, length → Bi, length_filter_le → Bk, mem_append_left → Bn, Nodup → Bs, map_map → BA, sum_cons → BE, filter_append → BF, replicate → BN, any_cons → BO, pairwise_cons → BU, filter_cons → BV, append_nil → BY, mem_flatMap → Cd, append_assoc → Ci, lookup_cons → Cp, any_eq_true → Ct, find?_cons → Cy, length_drop → C5, mem_filter → C7, range_succ → CA, length_range → CB, flatMap_cons → CC, all_cons → CF, length_eq_zero_iff → CG, mem_range → CH, length_replicate → CQ, drop_eq_getElem_cons → CU, pairwise_iff_getElem → CV, map_congr_left → Dc, flatMap_append → Dd, map_take → Df, countP_singleton → Dk, take_sublist_take_left → Dl, getElem_map → Do, mem_of_mem_drop → Dp, countP_cons → Dq, replicate_succ' → Dr, filterMap_cons → Dv, countP_eq_zero → Dw, nodup_cons → Dy, mem_of_find?_eq_some → D3, mem_filterMap → D4, map_nil → D8, all_map → DA, find?_eq_none → DD, any_map → DE, map_replicate → DF, range_succ_eq_map → DO, find?_cons_of_neg → DQ, filter_eq_nil_iff → DR, getElem_mem → DV, length_singleton → DZ, getElem?_eq_none → Ea, countP_map → Ek, foldr_cons → El, countP_pos_iff → Er, drop_zero → Et, lt_irrefl → Eu, getElem?_drop → E5, getElem?_take → EA, map_drop → EN, nodup_append → EW, foldl_append → EX, cons_append → Ff, isEmpty_map → Fn, isEmpty_iff → Fo, flatMap_nil → Fp, getElem?_cons_succ → Fu, of_mem_zip → Fz, forIn_cons → F6, foldl_cons → F8, sum_append → F9, find?_some → FB, all_append → FD, getElem?_set_self → FF, drop_eq_nil_of_le → FM, drop_of_length_le → FP, length_pos_of_mem → FQ, forIn_nil → FU, getElem?_toArray → FY, take_append_drop → FZ, countP_le_length → F_, eq_nil_or_concat → Ga, getElem?_set_ne → Gb, length_eraseIdx → Gg, getElem?_of_mem → Gh, pairwise_append → Gj, getElem_of_mem → Gx, countP_flatMap → Gy
open List.Pairwise renaming of_map → Gi
open List.Sublist renaming refl → EY
open Nat renaming le_refl → Ag, ne_of_lt → Aq, lt_of_lt_of_le → AE, le_trans → AL, le_of_lt → AZ, zero_le → Br, lt_of_le_of_lt → BS, lt_trans → BW, lt_succ_self → Cc, ne_of_gt → C1, lt_irrefl → C3, le_succ → CW, le_add_right → CZ, lt_succ_of_lt → Dh, pow_le_pow_right → Ds, pos_of_ne_zero → EC, min_eq_right → Fl, add_comm → Fm, min_eq_left → FC, add_le_add_left → Gu
open Ne renaming symm → Bq
open Option renaming map_some → Eg, isSome → EM, isSome_map → EU, isSome_iff_exists → Fd, getD_none → Fe, some_ne_none → Gw
open Option.some renaming inj → Az
open PyProof.Rows renaming callWith_type1 → BK, slot_tuple_getitem → BL, callWith_builtin1 → Ec, subscriptTail_builtinR → FH
open PySem renaming wpAny_bind → Aa, wpAny_pure → Ac, sizeLine → Au, wpAny_mono → A4, starEach → AD, mainGlobals → AH, wpAny_newObj_type → AN, wpAny_field → AO, wpAny_seqItems → AQ, wpAny_holding → AS, wpAny_callSpecial?_slot → AT, bootBuiltins → AV, wpAny_call_entry → AW, foldedSetIterable → A_, plainId_quiet → Bd, codeAny_builtin → Bf, wpAny_loadPart' → Bo, wpAny_standAt → Bp, wpAny_truthy_bool → Bu, Program → Bv, compareOp → By, wpAny_updateSeq → BB, FuncData → BD, wpAny_setField_rec → BG, letOwnedTupleGo → BH, wpAny_rule → BJ, wpAny_setField → BP, wpAny_Call_Name_kw → BQ, Around → BZ, cellsFrom → B_, sysModules → Cb, codeAny_mono → Ce, wpAny_letGo → Cg, wpAny_tryCatch → Ch, wpAny_setState_of → Cj, wpAny_typeOf → Co, compStart → Cq, SetTable → Cs, wpAny_pyIter_tuple → C6, wpAny_comprehension_free → C9, wpAny_pyIter_list → CS, wpAny_askSetting → Da, mem_of_lookup → Db, codeAny_call_builtin → Dm, wpAny_isInstance → Dn, wpAny_attempt → Dt, wpAny_of_eq → Du, wpAny_passesOwn → Dx, codeAny_loop → D9, wpAny_pyIter_enum → DJ, wpAny_noted → DN, wpAny_pyIter_zip → DW, wpAny_call → Eb, wpAny_specialOf → Ef, wpAny_updateSeq_pair → Eh, codeAny_extend_loopS → Ej, wpAny_setEntries_of → Ep, wpAny_richCompare_same_room → EB, wpAny_onRaise → EJ, wpAny_letOwnedTupleGo_enum → EK, wpAny_assign_Name → EQ, wpAny_sequenceKey → ES, wpAny_letOwnedTupleGo_zip → Fa, entryFor_of_tree → Fk, wpAny_pyNext_tuple_item → Fq, wpAny_execs_nil → Fy, codeAny_of_tree → F7, wpAny_pyNext_tuple_end → FG, codeAny_compStart_list → FK, wpAny_listPart → FT, wpAny_newTuple → FW
open PySem.Around renaming under_plainId → AK, in1_units → C_
open PySem.AutoSeq1 renaming sub_list_list → FN
open PySem.Builtin.Builtins renaming bindParams → CN
open PySem.Builtin.Dict renaming updateFrom → Fw
open PySem.Builtin.Int renaming intBits → Eo
open PySem.Builtin.List renaming listExtendWith → Bz, listSameRef → BI, listLengthHint → CO, listTooLong → D7, listItems → DM, listSubscript? → E3, listAllItems → EZ
open PySem.Builtin.Slice renaming slicePlaces → CT, sliceAdjust → Dz, sliceApplied → EF
open PySem.Builtin.SmallTypes renaming nextOf → AR, ownedTupleIsFree → BC, ownedTupleHandOut → Cr
open PySem.Builtin.Str renaming strSliceIndices → AU
open PySem.Builtin.Tuple renaming tupleExact → CY, tupleItemsOf → EG
open PySem.Calls renaming spliced_cons → D5, Name_function_global → EE, spliced_nil → ER, call_function_entry → Fb, callWith_builtin → FI, evalArgs_plain → Gf
open PySem.F renaming slot_tuple_iterator_next → Be, plainAttrs_list → BM, slot_list_append → Cu, type_list_append → Cv, args_tuple_iterator_next_1 → Cw, entry_tuple_iterator_next → C2, plain_max_loop → CJ, plain_min_loop → CK, slot_enumerate_next → CP, plain_list_iadd → De, slot_zip_next → Di, plain_extend_loop → D0, args_tuple_add_2 → D6, entry_tuple_add → DI, slot_tuple_add → DL, slot_dict_get → D_, args_enumerate_next_1 → Em, typeCall_enumerate_1 → Es, entry_enumerate_next → Ew, newCall_enumerate_1 → E6, entry_enumerate_new → E7, entry_proto_collect → E8, plain_proto_collect → E9, args_object_init_2 → EL, entry_max_loop → Fh, entry_min_loop → Fi, called_enumerate → Fj, args_dict_get_3 → Fs, args_zip_next_1 → Ft, entry_list_iadd → Fv, entry_dict_get → FJ, entry_zip_next → FL, slot_set_iter → FX
open PySem.Heap renaming get?_push_of_some → Ad, lt_size → Ai, get?_push_size → Am, get?_update_other → AI, get?_update_self → AM, size_push → Bj, SameBut → Bx, ExtBut → Dg
open PySem.Heap.IsTuple renaming push → EV
open PySem.Heap.SameBut renaming update → AY
open PySem.Manifest renaming signature? → Gv
open PySem.Obj renaming mapSeq → Bm, data_mapFields → DC, mapFields → DT, isFreed_of_fields → FV
open PySem.Paired renaming length → DS
open PySem.PassesOwn renaming never → Bh
open PySem.SeqAt.EqAt renaming same → Ed, int_str → E1, str_int → E2, none_bool → Gc, bool_none → Gd, bool_bool → Ge, none_int → Gk, none_str → Gm, bool_int → Gn, bool_str → Go, int_none → Gp, int_bool → Gq, str_none → Gr, str_bool → Gs
open PySem.SeqAt.RcAt renaming lists_lengths → DB
open PySem.SeqAt.RcNeAt renaming lists_lengths → EI
open PySem.SetTable renaming grown → CL, below → Dj
open PySem.Str renaming ofString → Cf
open PySem.Value renaming isStrOf_shape → En, isStrOf → ED
open PySem.W renaming Frag → Ao, kia_one → BX, fnOf → C8, keepIn → CI, cellsFrom_some → CM, codeIn → DG, methodObj → EO, instObj → Fx, OpenLaw → F0, binds_K → FE, lookIn → FR
open PySem.W.KFB renaming if_not → E4
open PySem.Walks renaming list → E_
variable{s:PySem.Shared}{w:PySem.World}{A:PySem.Around}{E:PySem.Value→PySem.Shared→Prop}{K:Ao}{pins:List (PySem.Addr×PySem.Obj)}{prog:PySem.Program}{pos:PySem.Pos}{h:PySem.Heap}{a:PySem.Addr}{b:PySem.Addr}{i:Nat}{n:Nat}{us:List PySem.Value}{P:PySem.Program}{u:PySem.Value}{e:PySem.Expr}{scope:PySem.Scope}
open PySem PySem.Spec PyProof.Rows
set_option Elab.async false
set_option linter.all false
set_option maxRecDepth 100000
namespace L2
abbrev Ic:=Sum Int Str
def LC:Ic→Value→Bool
 | .inl k,v=>Value.isInt k v
 | .inr x,v=>ED x v
def QC(w:World):Ic→Int
 | .inl k=>hashInt k
 | .inr x=>hashStr w x
theorem KY:∀{k:Ic}{v:Value},LC k v=true→(∃i t,k=Sum.inl i∧v=Value.int i t)∨(∃x t,k=Sum.inr x∧v=Value.str x t)
 | .inl i,v,h=>by obtain⟨t,e⟩:=Value.isInt_shape (k:=i) (v:=v) h;exact .inl ⟨i,t,rfl,e⟩
 | .inr x,v,h=>by obtain⟨t,e⟩:=En (x:=x) (v:=v) h;exact .inr ⟨x,t,rfl,e⟩
theorem X6(i:Int)(t:Tok):LC (.inl i) (.int i t)=true:=by simp[LC,Value.isInt]
theorem X7(x:Str)(t:Tok):LC (.inr x) (.str x t)=true:=by simp[LC,ED]
theorem UL(a b:Int):decide ((Sum.inl a:Ic)=Sum.inl b)=(a==b):=by
 by_cases e:a=b
 · subst e;simp
 · have h:¬(Sum.inl a:Ic)=Sum.inl b:=λq=>e (Sum.inl.inj q);rw[decide_eq_false h];exact(beq_eq_false_iff_ne.mpr e).symm
theorem UO(a b:Str):decide ((Sum.inr a:Ic)=Sum.inr b)=decide (a=b):=by
 by_cases e:a=b
 · subst e;simp
 · have h:¬(Sum.inr a:Ic)=Sum.inr b:=λq=>e (Sum.inr.inj q);rw[decide_eq_false h,decide_eq_false e]
theorem UM(a:Int)(b:Str):decide ((Sum.inl a:Ic)=Sum.inr b)=false:=decide_eq_false (λq=>nomatch q)
theorem UN(a:Str)(b:Int):decide ((Sum.inr a:Ic)=Sum.inl b)=false:=decide_eq_false (λq=>nomatch q)
def Jg(prog:Bv)(w:World):PySem.KeyKind prog w Ic where
 is:=LC
 hash:=QC w
 inj:=λv a b ha hb=>by
  rcases KY ha with⟨i,t,rfl,rfl⟩ | ⟨x,t,rfl,rfl⟩
  · rcases KY hb with⟨j,u,rfl,e⟩ | ⟨y,u,rfl,e⟩
    · injection e with e1 _;rw[e1]
    · exact nomatch e
  · rcases KY hb with⟨j,u,rfl,e⟩ | ⟨y,u,rfl,e⟩
    · exact nomatch e
    · injection e with e1 _;rw[e1]
 byValue:=λk v h=>by rcases KY h with⟨i,t,rfl,rfl⟩ | ⟨x,t,rfl,rfl⟩<;>rfl
 pyHash:=λhv h=>by
  rcases KY hv with⟨i,t,rfl,rfl⟩ | ⟨x,t,rfl,rfl⟩
  · exact wpAny_pyHash_int h
  · exact wpAny_pyHash_str h
 eqBool:=λhu hv h=>by
  rcases KY hu with⟨i,t,rfl,rfl⟩ | ⟨x,t,rfl,rfl⟩
  · rcases KY hv with⟨j,u,rfl,rfl⟩ | ⟨y,u,rfl,rfl⟩
    · rw[UL] at h;exact wpAny_eqBool_int h
    · rw[UM] at h;exact E1 i t y u _ _ _ _ h
  · rcases KY hv with⟨j,u,rfl,rfl⟩ | ⟨y,u,rfl,rfl⟩
    · rw[UN] at h;exact E2 x t j u _ _ _ _ h
    · rw[UO] at h;exact wpAny_eqBool_str h
 «strs»:=λk x t v h=>by
  rcases KY h with⟨i,u,rfl,e⟩ | ⟨y,u,rfl,e⟩
  · exact nomatch e
  · injection e with e1 _
    subst e1;cases v<;>rfl
theorem YC(prog:Bv)(w:World)(k:Ic)(v:Value):(Jg prog w).is k v=LC k v:=rfl
theorem YO(prog:Bv)(w:World)(i:Int)(t:Tok):(Jg prog w).is (.inl i) (.int i t)=true:=X6 i t
theorem YQ(prog:Bv)(w:World)(x:Str)(t:Tok):(Jg prog w).is (.inr x) (.str x t)=true:=X7 x t
inductive V where
 | non | bl (b:Bool) | int (i:Int) | str (x:Str) | byt (b:Array UInt8) | flt (b:UInt64) | ref (a:Addr) | ty (n:String)
 deriving DecidableEq
def RelV:V→Value→Prop
 | .non,u=>u=Value.none
 | .bl b,u=>u=Value.bool b
 | .int i,u=>∃t,u=Value.int i t
 | .str x,u=>∃t,u=Value.str x t
 | .byt b,u=>∃t,u=Value.bytes b t
 | .flt b,u=>∃t,u=Value.float b t
 | .ref a,u=>u=Value.ref a
 | .ty n,u=>u=Value.type n
abbrev Vals:List V→List Value→Prop:=Paired RelV
theorem Vals.length{xs:List V}(r:Vals xs us):xs.length=us.length:=DS r
theorem Vals.get:∀{xs:List V}{us:List Value}{i:Nat}{x:V},Vals xs us→xs[i]?=some x→∃u,us[i]?=some u∧RelV x u
 | _,_,_,_,.nil,e=>by simp at e
 | _,_,0,_,.cons r _,e=>by simp at e;subst e;exact⟨_,rfl,r⟩
 | _,_,i+1,x,.cons _ t,e=>by obtain⟨u,h1,h2⟩:=Vals.get (i:=i) (x:=x) t (by simpa using e);exact⟨u,by simpa using h1,h2⟩
theorem Vals.set{x:V}(r:RelV x u):∀{xs:List V}{us:List Value}(i:Nat),Vals xs us→Vals (xs.set i x) (us.set i u)
 | _,_,_,.nil=> .nil
 | _,_,0,.cons _ t=> .cons r t
 | _,_,i+1,.cons q t=> .cons q (Vals.set r i t)
theorem Vals.append:∀{xs ys:List V}{us ws:List Value},Vals xs us→Vals ys ws→Vals (xs++ys) (us++ws)
 | _,_,_,_,.nil,s=>s
 | _,_,_,_,.cons r t,s=> .cons r (Vals.append t s)
theorem Vals.take:∀{xs:List V}{us:List Value}(n:Nat),Vals xs us→Vals (xs.take n) (us.take n)
 | _,_,0,_=> .nil
 | _,_,_+1,.nil=> .nil
 | _,_,n+1,.cons r t=> .cons r (Vals.take n t)
theorem Vals.drop:∀{xs:List V}{us:List Value}(n:Nat),Vals xs us→Vals (xs.drop n) (us.drop n)
 | _,_,0,r=>r
 | _,_,_+1,.nil=> .nil
 | _,_,n+1,.cons _ t=>Vals.drop n t
def RelO:Option V→Option Value→Prop
 | some v,some u=>RelV v u
 | none,none=>True
 | _,_=>False
def KV{κ:Type}:List (κ×V)→List (κ×Value)→Prop:=Paired λ(p:κ×V)(q:κ×Value)=>p.1=q.1∧RelV p.2 q.2
def kV:Ic→V
 | .inl i=> .int i
 | .inr x=> .str x
inductive HO where
 | lst (xs:List V)
 | tup (xs:List V)
 | dK (kvs:List (Ic×V)) | dT (kvs:List (List Ic×V))
 | set (S:Int→Bool) (n:Nat)
 | ins (C dx:Addr) (fs:List (Str×V))
 | own (x:Addr)
 | xd (fs:List (Str×V))
 | met (f x:Addr)
 | rng (lo hi:Int)
 | frz (o:Obj) (u:HO)
 | tbl (ps:Array Value)
 | ext (φ:Heap→Prop)
def IsTupP(h:Heap)(a:Addr)(items:Array Value):Prop:=∃o,h.get? a=some o∧o.cls= .type "tuple"∧o.dict=none∧∃n,o.data= .seq items n
theorem IsTupP.tup{items:Array Value}(x:IsTupP h a items):IsTup h a items:=let⟨o,h1,h2,_,h3⟩:=x;⟨o,h1,h2,h3⟩
theorem IsTupP.new(h:Heap)(items:Array Value):IsTupP (h.push {cls:= .type "tuple",data:= .seq items}) h.objs.size items:=⟨_,Am _ rfl,rfl,rfl,_,rfl⟩
abbrev Hp:=Addr→Option HO
def HI(H:Hp)(a:Addr)(o:HO):Hp:=λb=>if b=a then some o else H b
theorem HK{H:Hp}{o:HO}:HI H a o a=some o:=by unfold HI;rw[if_pos rfl]
theorem Ij{H:Hp}{o:HO}(h:b≠a):HI H a o b=H b:=by unfold HI;rw[if_neg h]
theorem Wx{H:Hp}{o u:HO}:HI (HI H a o) a u=HI H a u:=by funext b;unfold HI;split<;>rfl
theorem Ki{H:Hp}{o u:HO}(h:H a=some o)(h':H b=some u)(d:o≠u):a≠b:=by intro e;subst e;rw[h] at h';exact d (Az h')
theorem J8{H:Hp}{o:HO}(h:H a=some o)(h':H b=none):a≠b:=by intro e;subst e;rw[h] at h';cases h'
section
variable(P:Bv)(w:World)
def ObjOk(H:Hp)(h:Heap)(a:Addr):HO→Prop
 | .lst xs=>xs.length≤Au∧∃(its:List Value)(n:Nat),Vals xs its∧h.get? a=some {cls:= .type "list",data:= .seq its.toArray n}
 | .tup xs=>xs.length≤Au∧∃its:List Value,Vals xs its∧IsTupP h a its.toArray
 | .dK kvs=>kvs.length≤Au∧(a==Cb)=false∧∃vs,KV kvs vs∧h.DictOf (Jg P w) a vs
 | .dT kvs=>kvs.length≤Au∧(a==Cb)=false∧∃xs:List (List Ic×Addr×Value),
  Paired (λ(p:List Ic×V)(q:List Ic×Addr×Value)=>p.1=q.1∧H q.2.1=some (.tup (p.1.map kV))∧RelV p.2 q.2.2) kvs xs∧
  ∃o es ep,h.get? a=some o∧o.ExactDict∧o.data= .dict es ep∧es.toList=xs.map (entryOfKey (tupleKind (Jg P w)))∧(xs.map (·.1)).Nodup
 | .set S n=>h.SetOf (intKind P w) a S n
 | .ins C dx fs=>H dx=some (.own a)∧fs.length≤1000∧dx≠a∧h.get? a=some (Fx C dx)∧
  ∃mA,h.Ns1 dx mA∧(∀f,RelO (fs.lookup f) (mA f))∧PySem.Within mA (fs.map (·.1))
 | .own _=>∃o,h.get? a=some o
 | .xd fs=>∃mA,h.Ns1 a mA∧∀f,RelO (fs.lookup f) (mA f)
 | .rng lo hi=>∃t u v,h.get? a=some {cls:= .type "range",data:= .fields #[.int lo t,.int hi u,.int 1 v]}
 | .frz o u=>h.get? a=some o∧ObjOk H h a u
 | .tbl ps=>h.get? a=some {cls:= .none,data:= .fields ps}
 | .met f x=>h.get? a=some (EO (.ref f) (.ref x))
 | .ext φ=>φ h∧(∃o,h.get? a=some o)∧∀h1 h2:Heap,φ h1→(∀o,h1.get? a=some o→h2.get? a=some o)→φ h2
def HOk(H:Hp)(h:Heap):Prop:=∀a o,H a=some o→ObjOk P w H h a o
end
section
variable{H H':Hp}{h':Heap}{o:HO}
theorem ObjOk.lt(x:ObjOk P w H h a o):a<h.objs.size:=by
 cases o with
 | lst xs=>obtain⟨_,_,_,_,e⟩:=x;exact Ai e
 | tup xs=>obtain⟨_,_,_,p⟩:=x;exact(show IsTupP _ _ _ from p).tup.lt
 | dK kvs=>obtain⟨_,_,_,_,o,_,_,e,_⟩:=x;exact Ai e
 | dT kvs=>obtain⟨_,_,_,_,o,_,_,e,_⟩:=x;exact Ai e
 | set S n=>obtain⟨o,_,_,_,e,_⟩:=x;exact Ai e
 | ins C dx fs=>obtain⟨_,_,_,e,_⟩:=x;exact Ai e
 | own y=>obtain⟨_,e⟩:=x;exact Ai e
 | xd fs=>obtain⟨_,⟨_,_,_,e,_⟩,_⟩:=x;exact Ai e
 | rng lo hi=>obtain⟨_,_,_,e⟩:=x;exact Ai e
 | frz ob u=>obtain⟨e,_⟩:=x;exact Ai e
 | tbl ps=>exact Ai (show h.get? a=some _ from x)
 | met f y=>exact Ai (show h.get? a=some _ from x)
 | ext φ=>obtain⟨_,⟨_,e⟩,_⟩:=x;exact Ai e
theorem Paired.mapP{α β:Type}{F G:α→β→Prop}:∀{l₁:List α}{l₂:List β},Paired F l₁ l₂→(∀a b,F a b→G a b)→Paired G l₁ l₂
 | _,_,.nil,_=> .nil
 | _,_,.cons r t,f=> .cons (f _ _ r) (Paired.mapP t f)
theorem ObjOk.stay(x:ObjOk P w H h a o)(k:∀b u,(b=a∨H b=some (.own a))→h.get? b=some u→h'.get? b=some u)
 (ho:∀b,H b=some (.own a)→H' b=some (.own a)) (ht:∀b xs,H b=some (.tup xs)→H' b=some (.tup xs)):ObjOk P w H' h' a o:=by
 induction o with
 | lst xs=>obtain⟨z,its,n,r,e⟩:=x;exact⟨z,its,n,r,k _ _ (.inl rfl) e⟩
 | tup xs=>obtain⟨z,its,r,ob,e,c⟩:=x;exact⟨z,its,r,ob,k _ _ (.inl rfl) e,c⟩
 | dK kvs=>obtain⟨z,y,vs,r,ob,es,ep,e,c⟩:=x;exact⟨z,y,vs,r,ob,es,ep,k _ _ (.inl rfl) e,c⟩
 | dT kvs=> obtain⟨z,y,xs,r,ob,es,ep,e,c⟩:=x;exact⟨z,y,xs,Paired.mapP r λp q z=>⟨z.1,ht _ _ z.2.1,z.2.2⟩,ob,es,ep,k _ _ (.inl rfl) e,c⟩
 | set S n=>obtain⟨ob,es,ep,t,e,c⟩:=x;exact⟨ob,es,ep,t,k _ _ (.inl rfl) e,c⟩
 | ins C dx fs=> obtain⟨d,z,ne,e,mA,⟨od,es,ep,e2,c⟩,r⟩:=x;exact⟨ho _ d,z,ne,k _ _ (.inl rfl) e,mA,⟨od,es,ep,k _ _ (.inr d) e2,c⟩,r⟩
 | own y=>obtain⟨ob,e⟩:=x;exact⟨ob,k _ _ (.inl rfl) e⟩
 | xd fs=>obtain⟨mA,⟨od,es,ep,e,c⟩,r⟩:=x;exact⟨mA,⟨od,es,ep,k _ _ (.inl rfl) e,c⟩,r⟩
 | rng lo hi=>obtain⟨t,u,v,e⟩:=x;exact⟨t,u,v,k _ _ (.inl rfl) e⟩
 | frz ob u ih=>obtain⟨e,q⟩:=x;exact⟨k _ _ (.inl rfl) e,ih q⟩
 | tbl ps=> have e:h.get? a=some {cls:= .none,data:= .fields ps}:=x;show h'.get? a=some {cls:= .none,data:= .fields ps};exact k a _ (.inl rfl) e
 | met f y=> have e:h.get? a=some (EO (.ref f) (.ref y)):=x;show h'.get? a=some (EO (.ref f) (.ref y));exact k a _ (.inl rfl) e
 | ext φ=>obtain⟨p,⟨o,e⟩,st⟩:=x;exact⟨st _ _ p λo q=>k _ _ (.inl rfl) q,⟨o,k _ _ (.inl rfl) e⟩,st⟩
theorem HOk.lt(x:HOk P w H h)(e:H a=some o):a<h.objs.size:=(x a o e).lt
theorem HOk.fresh(x:HOk P w H h)(e:h.objs.size≤a):H a=none:=by
 cases q:H a with
 | none=>rfl
 | some u=>exact absurd (AE (x.lt q) e) (C3 _)
theorem HOk.kept(x:HOk P w H h)(k:∀b u,h.get? b=some u→h'.get? b=some u):HOk P w H h':=λa o e=>
 (x a o e).stay (λb u _ q=>k b u q) (λ_ q=>q) λ_ _ q=>q
theorem HOk.laid(x:HOk P w H h)(k:∀b u,h.get? b=some u→h'.get? b=some u)(hp:h.objs.size≤a)(new:ObjOk P w (HI H a o) h' a o):HOk P w (HI H a o) h':=λb u e=>by
 have hn:=x.fresh hp;by_cases hb:b=a
 · subst hb;rw[HK] at e;cases e;exact new
 · rw[Ij hb] at e;exact(x b u e).stay (λc v _ q=>k c v q) (λc q=>by rw[Ij (J8 q hn)];exact q) λc xs q=>by rw[Ij (J8 q hn)];exact q
end
def Rd(H:Hp)(a:Addr)(u:HO):Prop:=H a=some u∨∃o,H a=some (.frz o u)
theorem Rd.ok{H:Hp}{u:HO}(r:Rd H a u)(x:HOk P w H h):ObjOk P w H h a u:=by
 rcases r with r | ⟨o,r⟩
 · exact x a u r
 · obtain⟨_,q⟩:=x a _ r;exact q
def Ny:Option HO→Prop
 | some (.lst _)=>True
 | some (.dK _)=>True
 | some (.dT _)=>True
 | some (.set _ _)=>True
 | some (.ins _ _ _)=>True
 | some (.ext _)=>True
 | _=>False
section
variable{H:Hp}{h':Heap}{x e:Addr}{o':HO}
theorem HOk.write(ok:HOk P w H h)(mu:Ny (H x))(he:e=x∨H e=some (.own x))(k:∀b u,b≠e→h.get? b=some u→h'.get? b=some u)(heo:∃u,h'.get? e=some u)
 (new:ObjOk P w (HI H x o') h' x o'):HOk P w (HI H x o') h':=λb u q=>by
 have nown:∀c y,H c=some (.own y)→c≠x:=λc y r z=>by subst z;rw[r] at mu;exact mu
 have ntup:∀c xs,H c=some (.tup xs)→c≠x:=λc xs r z=>by subst z;rw[r] at mu;exact mu
 by_cases hb:b=x
 · subst hb;rw[HK] at q;cases q;exact new
 · rw[Ij hb] at q;by_cases hbe:b=e
   · have q':H b=some (.own x):=by
      rcases he with z | z
      · exact absurd (hbe.trans z) hb
      · rw[hbe];exact z
     rw[q] at q';cases q';obtain⟨v,hv⟩:=heo;exact⟨v,by rw[hbe];exact hv⟩
   · refine(ok b u q).stay (λc v hc r=>k c v ?_ r) (λc r=>by rw[Ij (nown c b r)];exact r) λc xs r=>by rw[Ij (ntup c xs r)];exact r
     rcases hc with rfl | hc
     · exact hbe
     · rintro rfl;rcases he with z | z
       · exact nown c b hc z
       · rw[hc] at z;cases z;exact hb rfl
end
structure Un(fs ex:List Addr)(H H':Hp)(h h':Heap):Prop where
 keep:∀b o,h.get? b=some o→H b=none→b ∉ fs→b ∉ ex→h'.get? b=some o
 slot:∀b o,h.get? b=some o→H b=none→b∈fs→b ∉ ex→∃sl,h'.get? b=some {o with slots:=sl}
 free:∀b o,h.get? b=some o→H b=none→b ∉ ex→H' b=none
 there:∀b o,h.get? b=some o→b ∉ ex→∃o',h'.get? b=some o'
 tups:∀b xs,H b=some (.tup xs)→H' b=some (.tup xs)
 frzs:∀b o u,H b=some (.frz o u)→H' b=some (.frz o u)
 tbls:∀b ps,H b=some (.tbl ps)→∃more,H' b=some (.tbl (ps++more))
section
variable{fs fs' ex ex':List Addr}{H H1 H2:Hp}{h1 h2 h':Heap}{x e:Addr}{o:HO}
theorem Un.any(u:Un fs ex H H1 h h1){ob:Obj}(q:h.get? b=some ob)(n:H b=none)(hx:b ∉ ex):∃sl,h1.get? b=some {ob with slots:=sl}:=by
 by_cases hb:b∈fs
 · exact u.slot b ob q n hb hx
 · exact⟨ob.slots,u.keep b ob q n hb hx⟩
theorem Un.kept(k:∀b u,h.get? b=some u→h'.get? b=some u):Un fs ex H H h h':=
 ⟨λb ob q _ _ _=>k b ob q,λb ob q _ _ _=>⟨ob.slots,k b ob q⟩,λ_ _ _ n _=>n,λb ob q _=>⟨ob,k b ob q⟩,λ_ _ q=>q,λ_ _ _ q=>q,λ_ ps q=>⟨#[],by rw[q];simp⟩⟩
theorem Un.refl:Un fs ex H H h h:=Un.kept λ_ _ q=>q
theorem Un.laid(k:∀b u,h.get? b=some u→h'.get? b=some u)(hp:h.objs.size≤a)(hn:H a=none):Un fs ex H (HI H a o) h h' where
 keep:=λb u q _ _ _=>k b u q
 slot:=λb u q _ _ _=>⟨u.slots,k b u q⟩
 free:=λb u q n _=>by rw[Ij (Aq (AE (Ai q) hp))];exact n
 there:=λb u q _=>⟨u,k b u q⟩
 tups:=λb xs q=>by rw[Ij (J8 q hn)];exact q
 frzs:=λb u xs q=>by rw[Ij (J8 q hn)];exact q
 tbls:=λb ps q=>⟨#[],by rw[Ij (J8 q hn),q];simp⟩
theorem Un.write(mu:Ny (H x))(he:e=x∨H e=some (.own x))(k:∀b u,b≠e→h.get? b=some u→h'.get? b=some u)(heo:∃u,h'.get? e=some u):Un fs ex H (HI H x o) h h':=by
 have hx:∀b,H b=none→b≠x:=λb n z=>by subst z;rw[n] at mu;exact mu
 have hb:∀b,H b=none→b≠e:=λb n z=>by
  subst z;rcases he with r | r
  · exact hx b n r
  · rw[n] at r;cases r
 have hm:∀b u,H b=some u→¬Ny (some u)→b≠x:=λb u q nm z=>by subst z;rw[q] at mu;exact nm mu
 refine⟨λb u q n _ _=>k b u (hb b n) q,λb u q n _ _=>⟨u.slots,k b u (hb b n) q⟩,λb u q n _=>by rw[Ij (hx b n)];exact n,λb u q _=>?_,
  λb xs q=>by rw[Ij (hm b _ q λz=>z)];exact q,λb u xs q=>by rw[Ij (hm b _ q λz=>z)];exact q,λb ps q=>⟨#[],by rw[Ij (hm b _ q λz=>z),q];simp⟩⟩
 by_cases hbe:b=e
 · subst hbe;exact heo
 · exact⟨u,k b u hbe q⟩
end
def trk(h:Heap)(H:Hp):List Addr:=(Bc h.objs.size).filter λa=>(H a).isSome
def J2(h:Heap)(H:Hp):Heap:=PySem.W.hideAll h (trk h H)
theorem XU(h:Heap)(H:Hp):(J2 h H).objs.size=h.objs.size:=PySem.W.hideAll_size _ _
theorem Xk{H:Hp}{o:Obj}(e:h.get? b=some o)(n:H b=none):(J2 h H).get? b=some o:=
 PySem.W.hideAll_get _ e λhm=>by have q:(H b).isSome=true:=(C7.mp hm).2;rw[n] at q;simp at q
theorem V5{H:Hp}{o:Obj}(e:(J2 h H).get? b=some o):h.get? b=some o∧H b=none:=by
 have e':h.get? b=some o:=PySem.W.of_hideAll (trk h H) e;refine⟨e',?_⟩;cases q:H b with
 | none=>rfl
 | some x=> have hm:b∈trk h H:=C7.mpr ⟨CH.mpr (Ai e'),by simp[q]⟩;have z:(J2 h H).get? b=none:=PySem.W.hideAll_none (trk h H) hm;rw[z] at e;cases e
def VS(g h:Heap)(L:Addr):List (Addr×Obj):=(Bc h.objs.size).filterMap λa=>if a=L∨(g.get? a).isSome=true then none else(h.get? a).map λo=>(a,o)
def rest(g h:Heap)(L d:Addr):List (Addr×Obj):=(VS g h L).filter λp=>decide (p.1≠d)
structure Mod(K:Ao)(mg:Str→Option Value)(base:Heap):Prop where
 kin:K.In base
 glob:base.Ns AH mg
 blt:∃mb,base.Ns builtinsNs mb∧∀x:Str,x≠"__name__"→mb x=AV x
 nolimit:base.NoLimit
structure Cx where
 prog:Bv
 w:World
 K:Ao
 mg:Str→Option Value
 base:Heap
 A:BZ
 N:List Str
 s₀:Shared
 H₀:Hp
 env:Env
 outer:List Env
 stack:List Env
 ex:List Addr
 fn:Str→Bool
 calm:Bool
 pn:List (Addr×Obj)
 xe:Value→Shared→Prop
def K5(l:List Env):List Addr:=l.filterMap (·.frame)
abbrev Cx.fs(X:Cx):List Addr:=K5 X.outer
def Nu(sc:Scope)(x:Str):Prop:=sc.names.lookup x=some .local∨sc.names.lookup x=some .cell∨sc.names.lookup x=some .free
def LW(sc:Scope)(x:Str):Prop:=sc.names.lookup x=some .local∨sc.names.lookup x=some .cell
def QP(env:Env)(h:Heap)(m:Str→Option Value)(x:Str)(u:Value):Prop:=
 (env.kindOf x=some .local∧m x=some u)∨((env.kindOf x=some .cell∨env.kindOf x=some .free)∧∃c,env.cells.lookup x=some c∧h.IsCell c (some u))
structure Cx.Ok(X:Cx):Prop where
 mod:Mod X.K X.mg X.base
 kind:X.env.scope.kind= .function
 glob:X.env.globals=AH
 blt:X.env.builtins=builtinsNs
 above:X.s₀.heap.objs.size≤X.env.locals
 inj:∀x y c,X.env.cells.lookup x=some c→X.env.cells.lookup y=some c→x=y
 has:∀x,(X.env.kindOf x=some .cell∨X.env.kindOf x=some .free)→∃c,X.env.cells.lookup x=some c
 cab:∀x c,X.fn x=true→X.env.cells.lookup x=some c→X.s₀.heap.objs.size≤c
 hd:X.calm=true→X.A.handled=none
 frames:X.A.frames=some X.stack
 stk:X.stack=X.outer∨(X.stack=X.env::X.outer∧X.env.frame=some X.env.locals)
 exf:∀b∈X.ex,b≠X.env.locals∧∀x c,X.env.cells.lookup x=some c→c≠b
 bs:∀b o,X.base.get? b=some o→X.s₀.heap.get? b=some o∧X.H₀ b=none
 bsz:X.base.objs.size≤X.s₀.heap.objs.size
 noex:∀b o,X.base.get? b=some o→b ∉ X.ex
 exfs:∀b∈X.ex,b ∉ X.fs
 funs:X.s₀.heap.FunFrames X.base X.outer
 frf:∀b∈X.fs,X.H₀ b=none
structure Inv(X:Cx)(pins:List (Addr×Obj))(σ:List (Option V))(H:Hp)(s:Shared):Prop where
 ok:X.Ok
 os:s.os=X.s₀.os
 bare:AllBare s.gens
 base:Un X.fs X.ex X.H₀ H X.s₀.heap s.heap
 loc:∃m,s.heap.Ns X.env.locals m∧∀(i:Nat)(x:Str)(v:V),X.N[i]?=some x→σ[i]?=some (some v)→Nu X.env.scope x→∃u,RelV v u∧QP X.env s.heap m x u
 cell:∀x c,X.env.cells.lookup x=some c→∃v,s.heap.IsCell c v
 free:H X.env.locals=none
 freeC:∀x c,X.env.cells.lookup x=some c→H c=none
 pin:∀p∈X.pn++pins,s.heap.get? p.1=some p.2∧H p.1=none∧p.1≠X.env.locals∧p.1 ∉ X.fs∧∀v,p.2.data≠ .cell v
 hok:HOk X.prog X.w H s.heap
 len:σ.length=X.N.length
section
variable{X:Cx}{σ:List (Option V)}{H H':Hp}{h':Heap}
theorem Cx.Ok.nofr(ok:X.Ok){o:Obj}(e:X.base.get? b=some o):b ∉ X.fs:=λhb=>by have:=(ok.funs.mem hb).1;rw[e] at this;cases this
theorem Inv.bs(I:Inv X pins σ H s):∀b o,X.base.get? b=some o→s.heap.get? b=some o∧H b=none:=λb o e=>
 ⟨I.base.keep b o (I.ok.bs b o e).1 (I.ok.bs b o e).2 (I.ok.nofr e) (I.ok.noex b o e),I.base.free b o (I.ok.bs b o e).1 (I.ok.bs b o e).2 (I.ok.noex b o e)⟩
theorem Inv.bk(I:Inv X pins σ H s):∀b o,X.base.get? b=some o→s.heap.get? b=some o:=λb o e=>(I.bs b o e).1
theorem Inv.mod(I:Inv X pins σ H s):Mod X.K X.mg X.base:=I.ok.mod
theorem Inv.kIn(I:Inv X pins σ H s):X.K.In s.heap:=I.ok.mod.kin.keeps I.bk
theorem Inv.lt(I:Inv X pins σ H s):X.env.locals<s.heap.objs.size:=let⟨_,hn,_⟩:=I.loc;hn.lt
theorem Inv.sz(I:Inv X pins σ H s):X.s₀.heap.objs.size≤s.heap.objs.size:=AL I.ok.above (AZ I.lt)
theorem Inv.nofs(I:Inv X pins σ H s)(h:s.heap.objs.size≤a):a ∉ X.fs:=λhb=>by obtain⟨_,o,ho,_⟩:=I.ok.funs.mem hb;exact absurd (AE (Ai ho) (AL I.sz h)) (C3 _)
theorem Inv.cne(I:Inv X pins σ H s):∀x c,X.env.cells.lookup x=some c→c≠X.env.locals:=λx c e z=>by obtain⟨v,o,ho,hd⟩:=I.cell x c e;obtain⟨m,⟨o',es,ep,ho',hd',_⟩,_⟩:=I.loc;rw[z,ho'] at ho;cases ho;rw[hd'] at hd;cases hd
theorem Inv.funs(I:Inv X pins σ H s):s.heap.FunFrames X.base X.outer:=by
 have all:∀(l:List Env),(∀b∈K5 l,b∈X.fs)→X.s₀.heap.FunFrames X.base l→s.heap.FunFrames X.base l:=by
  intro l
  induction l with
  | nil=>intro _ _;trivial
  | cons env r ih=> intro hs hl;obtain⟨hk,⟨L,o,hf,hn,ho,hd⟩,hr⟩:=hl;have hL:L∈X.fs:=hs L (by unfold K5;rw[Dv,hf];exact AA);obtain⟨sl,e⟩:=I.base.slot L o ho (I.ok.frf L hL) hL λz=>I.ok.exfs L z hL;exact⟨hk,⟨L,_,hf,hn,e,hd⟩,ih (λb hb=>hs b (by unfold K5;rw[Dv,hf];exact AB _ hb)) hr⟩
 exact all X.outer (λ_ hb=>hb) I.ok.funs
theorem Inv.stack(I:Inv X pins σ H s):s.heap.FunFrames X.base X.stack:=by
 rcases I.ok.stk with e | ⟨e,hf⟩
 · rw[e];exact I.funs
 · rw[e];obtain⟨m,hn,_⟩:=I.loc;refine .cons (by rw[I.ok.kind];decide) hf hn ?_ I.funs;exact Heap.get?_none_of_le (AL I.ok.bsz I.ok.above)
theorem Inv.stkSub(I:Inv X pins σ H s):∀b∈K5 X.stack,b∈X.env.locals::X.fs:=λb hb=>by
 rcases I.ok.stk with e | ⟨e,hf⟩
 · rw[e] at hb;exact AB _ hb
 · rw[e] at hb;unfold K5 at hb;rw[Dv,hf] at hb;exact hb
theorem Inv.stkFree(I:Inv X pins σ H s):∀b∈K5 X.stack,H b=none:=λb hb=>by
 rcases Ak.mp (I.stkSub b hb) with e | hb
 · rw[e];exact I.free
 · obtain⟨_,o,ho,_⟩:=I.ok.funs.mem hb;exact I.base.free b o ho (I.ok.frf b hb) λz=>I.ok.exfs b z hb
theorem Inv.step{g':Array GenState}{t':Nat}{d':Drawn}{ch:List Addr}(I:Inv X pins σ H s)
 (hch:∀b∈ch,(b∈X.ex∨X.s₀.heap.objs.size≤b)∧b≠X.env.locals∧(∀x c,X.env.cells.lookup x=some c→c≠b)∧∀p∈X.pn++pins,p.1≠b)
 (keep:∀b o,b≠X.env.locals→b ∉ X.fs→b ∉ ch→s.heap.get? b=some o→H b=none→h'.get? b=some o)
 (slot:∀b o,b≠X.env.locals→b∈X.fs→b ∉ ch→s.heap.get? b=some o→H b=none→∃sl,h'.get? b=some {o with slots:=sl}) (free:∀b o,b ∉ ch→s.heap.get? b=some o→H b=none→H' b=none)
 (there:∀b o,b ∉ ch→s.heap.get? b=some o→∃o',h'.get? b=some o')
 (tups:∀b xs,H b=some (.tup xs)→H' b=some (.tup xs)) (frzs:∀b o u,H b=some (.frz o u)→H' b=some (.frz o u)) (tbls:∀b ps,H b=some (.tbl ps)→∃more,H' b=some (.tbl (ps++more)))
 (ns:∀m,s.heap.Ns X.env.locals m→h'.Ns X.env.locals m) (hok:HOk X.prog X.w H' h') (hg:AllBare g'):
 Inv X pins σ H' {s with heap:=h',gens:=g',drawn:=d',toks:=t'}:=by
 have neL:∀b o,X.s₀.heap.get? b=some o→b≠X.env.locals:=λb o e=>Aq (AE (Ai e) I.ok.above);have neC:∀b o,X.s₀.heap.get? b=some o→b ∉ X.ex→b ∉ ch:=λb o e hx hb=>by
  rcases(hch b hb).1 with z | z
  · exact hx z
  · exact absurd (AE (Ai e) z) (C3 _)
 have cellK:∀x c,X.env.cells.lookup x=some c→∀v,s.heap.IsCell c v→h'.IsCell c v:=λx c e v ⟨o,ho,hd⟩=>by
  have nch:c ∉ ch:=λz=>(hch c z).2.2.1 x c e rfl;by_cases hc:c∈X.fs
  · obtain⟨sl,q⟩:=slot c o (I.cne x c e) hc nch ho (I.freeC x c e);exact⟨_,q,hd⟩
  · exact⟨o,keep c o (I.cne x c e) hc nch ho (I.freeC x c e),hd⟩
 refine⟨I.ok,I.os,hg,⟨λb o e n hb hx=>?_,λb o e n hb hx=>?_,λb o e n hx=>?_,λb o e hx=>?_,λb xs e=>tups b xs (I.base.tups b xs e),λb o xs e=>frzs b o xs (I.base.frzs b o xs e),λb ps e=>?_⟩,?_,λx c e=>?_,?_,λx c e=>?_,λp hp=>?_,hok,I.len⟩
 · exact keep b o (neL b o e) hb (neC b o e hx) (I.base.keep b o e n hb hx) (I.base.free b o e n hx)
 · obtain⟨sl,e1⟩:=I.base.slot b o e n hb hx;obtain⟨sl',e2⟩:=slot b _ (neL b o e) hb (neC b o e hx) e1 (I.base.free b o e n hx);exact⟨sl',e2⟩
 · obtain⟨o',e1⟩:=I.base.there b o e hx;exact free b o' (neC b o e hx) e1 (I.base.free b o e n hx)
 · obtain⟨o',e1⟩:=I.base.there b o e hx;exact there b o' (neC b o e hx) e1
 · obtain⟨m1,e1⟩:=I.base.tbls b ps e;obtain⟨m2,e2⟩:=tbls b _ e1;exact⟨m1++m2,by rw[e2,Array.append_assoc]⟩
 · obtain⟨m,hn,hl⟩:=I.loc;refine⟨m,ns m hn,λi x v e1 e2 e3=>?_⟩;obtain⟨u,r,l⟩:=hl i x v e1 e2 e3;refine⟨u,r,?_⟩;rcases l with l | ⟨k,c,e,z⟩
   · exact .inl l
   · exact .inr ⟨k,c,e,cellK x c e _ z⟩
 · obtain⟨v,z⟩:=I.cell x c e;exact⟨v,cellK x c e v z⟩
 · obtain⟨m,⟨o,_,_,ho,_⟩,_⟩:=I.loc;exact free _ o (λz=>(hch _ z).2.1 rfl) ho I.free
 · obtain⟨v,o,ho,hd⟩:=I.cell x c e;exact free c o (λz=>(hch c z).2.2.1 x c e rfl) ho (I.freeC x c e)
 · obtain⟨e,n,ne,nf,d⟩:=I.pin p hp;have nch:p.1 ∉ ch:=λz=>(hch p.1 z).2.2.2 p hp rfl;exact⟨keep p.1 p.2 ne nf nch e n,free p.1 p.2 nch e n,ne,nf,d⟩
theorem Inv.un{t':Nat}(I:Inv X pins σ H s)(u:Un X.fs [] H H' s.heap h')(hok:HOk X.prog X.w H' h'):Inv X pins σ H' {s with heap:=h',toks:=t'}:=by obtain⟨m,⟨o,es,ep,ho,r⟩,_⟩:=id I.loc;obtain⟨sl,hL⟩:=u.any ho I.free (by simp);exact I.step (g':=s.gens) (d':=s.drawn) (ch:=[]) (λ_ z=>nomatch z) (λb o _ hb _ e n=>u.keep b o e n hb (by simp)) (λb o _ hb _ e n=>u.slot b o e n hb (by simp)) (λb o _ e n=>u.free b o e n (by simp)) (λb o _ e=>u.there b o e (by simp)) u.tups u.frzs u.tbls (λm' hm=>by obtain⟨o',es',ep',ho',r'⟩:=hm;rw[ho] at ho';cases ho';exact⟨_,es',ep',hL,r'⟩) hok I.bare
theorem Inv.call{g':Array GenState}{t':Nat}{d':Drawn}{ch:List Addr}(I:Inv X pins σ H s)(u:Un (K5 X.stack) ch H H' s.heap h')(hok:HOk X.prog X.w H' h')(hg:AllBare g')
 (hch:∀b∈ch,(b∈X.ex∨X.s₀.heap.objs.size≤b)∧b≠X.env.locals∧(∀x c,X.env.cells.lookup x=some c→c≠b)∧∀p∈X.pn++pins,p.1≠b):
 Inv X pins σ H' {s with heap:=h',gens:=g',drawn:=d',toks:=t'}:=by
 obtain⟨m,⟨o,es,ep,ho,r⟩,_⟩:=id I.loc;obtain⟨sl,hL⟩:=u.any ho I.free λz=>(hch _ z).2.1 rfl;exact I.step (ch:=ch) hch (λb o hL hb hc e n=>u.keep b o e n (λz=>(Ak.mp (I.stkSub b z)).elim hL hb) hc) (λb o _ _ hc e n=>u.any e n hc) (λb o hc e n=>u.free b o e n hc) (λb o hc e=>u.there b o e hc) u.tups u.frzs u.tbls (λm' hm=>by obtain⟨o',es',ep',ho',r'⟩:=hm;rw[ho] at ho';cases ho';exact⟨_,es',ep',hL,r'⟩) hok hg
theorem Inv.turned{t':Nat}{it:Addr}(I:Inv X pins σ H s)(k:∀b o,b≠it→s.heap.get? b=some o→h'.get? b=some o)(hn:H it=none)(hL:it≠X.env.locals)
 (h1:it∈X.ex∨X.s₀.heap.objs.size≤it) (h2:∀x c,X.env.cells.lookup x=some c→c≠it) (h3:∀p∈X.pn++pins,p.1≠it):Inv X pins σ H {s with heap:=h',toks:=t'}:=by
 have nit:∀b u,H b=some u→b≠it:=λb u e z=>by rw[z,hn] at e;cases e
 refine I.step (g':=s.gens) (d':=s.drawn) (ch:=[it]) (λb hb=>?_) (λb o _ _ hc e _=>k b o (λz=>hc (by simp[z])) e) (λb o _ _ hc e _=>⟨o.slots,k b o (λz=>hc (by simp[z])) e⟩) (λ_ _ _ _ n=>n)
  (λb o hc e=>⟨o,k b o (λz=>hc (by simp[z])) e⟩) (λ_ _ e=>e) (λ_ _ _ e=>e) (λb ps e=>⟨#[],by rw[e];simp⟩) (λm hm=>?_) (λb u e=>?_) I.bare
 · have e:b=it:=by simpa using hb
   subst e;exact⟨h1,hL,h2,h3⟩
 · obtain⟨o,es,ep,ho,r⟩:=hm;exact⟨o,es,ep,k _ o (Bq hL) ho,r⟩
 · refine(I.hok b u e).stay (λc v hc q=>k c v ?_ q) (λ_ q=>q) λ_ _ q=>q;rcases hc with z | z
   · rw[z];exact nit b u e
   · exact nit c _ z
theorem Inv.tok(I:Inv X pins σ H s)(t:Nat):Inv X pins σ H {s with toks:=t}:=I.un (h':=s.heap) (t':=t) Un.refl I.hok
theorem Inv.kept{t':Nat}(I:Inv X pins σ H s)(k:∀b u,s.heap.get? b=some u→h'.get? b=some u):Inv X pins σ H {s with heap:=h',toks:=t'}:=I.un (Un.kept k) (I.hok.kept k)
theorem Inv.laid{o:HO}{t':Nat}(I:Inv X pins σ H s)(k:∀b u,s.heap.get? b=some u→h'.get? b=some u)(hp:s.heap.objs.size≤a)(new:ObjOk X.prog X.w (HI H a o) h' a o):
 Inv X pins σ (HI H a o) {s with heap:=h',toks:=t'}:=I.un (Un.laid k hp (I.hok.fresh hp)) (I.hok.laid k hp new)
theorem Inv.write{x e:Addr}{o:HO}{t':Nat}(I:Inv X pins σ H s)(mu:Ny (H x))(he:e=x∨H e=some (.own x))(k:∀b u,b≠e→s.heap.get? b=some u→h'.get? b=some u)(heo:∃u,h'.get? e=some u)
 (new:ObjOk X.prog X.w (HI H x o) h' x o):Inv X pins σ (HI H x o) {s with heap:=h',toks:=t'}:=I.un (Un.write mu he k heo) (I.hok.write mu he k heo new)
theorem Inv.pins_of{pins':List (Addr×Obj)}(I:Inv X pins σ H s)(h:∀p∈pins',s.heap.get? p.1=some p.2∧H p.1=none∧p.1≠X.env.locals∧p.1 ∉ X.fs∧∀v,p.2.data≠ .cell v):Inv X pins' σ H s:=
 ⟨I.ok,I.os,I.bare,I.base,I.loc,I.cell,I.free,I.freeC,λp hp=>(Aw.mp hp).elim (λz=>I.pin p (Bn _ z)) (h p),I.hok,I.len⟩
theorem Ss{N:List Str}(hN:N.Nodup){j:Nat}{x:Str}(a:N[i]?=some x)(b:N[j]?=some x):i=j:=by obtain⟨h1,e1⟩:=Al.mp a;obtain⟨h2,e2⟩:=Al.mp b;exact(List.getElem_inj hN).mp (e1.trans e2.symm)
theorem PB{M:Model}{A:BZ}{E:Value→Shared→Prop}{x:Str}{v:V}{Q:Unit→Shared→Prop}(I:Inv X pins σ H s)(hN:X.N.Nodup)(hi:X.N[i]?=some x)(hx:LW X.env.scope x)(r:RelV v u)
 (h:∀s',Inv X pins (σ.set i (some v)) H s'→(∃a,Bx a s.heap s'.heap∧(a=X.env.locals∨X.env.cells.lookup x=some a))→Q () s') (hf:X.fn x=true∨X.env.scope.names.lookup x=some .local:=by first | exact .inl rfl | exact .inr rfl | assumption):wpAny M A (storeName X.env x u) Q E s:=by
 obtain⟨m,hn,hl⟩:=id I.loc;have hcls:(X.env.scope.kind== .class || (X.env.scope.kind== .module && X.env.locals !=X.env.globals))=false:=by rw[I.ok.kind];rfl
 have hiσ:i<σ.length:=by rw[I.len];exact(Al.mp hi).1
 have cne:=I.cne;have tracked:∀{a:Addr}{h':Heap},(∃o,s.heap.get? a=some o∧H a=none)→Bx a s.heap h'→HOk X.prog X.w H h':=λ{a h'}ha hs b ob e=>by
  obtain⟨_,_,hfree⟩:=ha;refine(I.hok b ob e).stay (λc w' hc q=>(hs.2 c ?_).trans q) (λ_ q=>q) λ_ _ q=>q;rintro rfl;rcases hc with rfl | hc
  · rw[hfree] at e;cases e
  · rw[hfree] at hc;cases hc
 rcases hx with hk | hk
 · refine wpAny_storeName_local hk hn (λh' hn' hs=>?_) hcls;obtain⟨oL,_,_,hoL,_⟩:=id hn;refine h _ ⟨I.ok,I.os,I.bare,⟨λb o e n hb hx=>?_,λb o e n hb hx=>?_,I.base.free,λb o e hx=>?_,I.base.tups,I.base.frzs,I.base.tbls⟩,⟨_,hn',λj y v' e1 e2 e3=>?_⟩,λy c e=>?_,I.free,I.freeC,λp hp=>?_,tracked ⟨oL,hoL,I.free⟩ hs,by simpa using I.len⟩ ⟨_,hs,.inl rfl⟩
   · exact(hs.2 b (Aq (AE (Ai e) I.ok.above))).trans (I.base.keep b o e n hb hx)
   · obtain⟨sl,e1⟩:=I.base.slot b o e n hb hx;exact⟨sl,(hs.2 b (Aq (AE (Ai e) I.ok.above))).trans e1⟩
   · obtain⟨o',e1⟩:=I.base.there b o e hx;exact⟨o',(hs.2 b (Aq (AE (Ai e) I.ok.above))).trans e1⟩
   · by_cases hj:j=i
     · subst hj;rw[hi] at e1;cases e1;rw[FF hiσ] at e2;cases e2;exact⟨u,r,.inl ⟨hk,by simp⟩⟩
     · rw[Gb (Bq hj)] at e2;obtain⟨u',r',q⟩:=hl j y v' e1 e2 e3;refine⟨u',r',?_⟩;rcases q with⟨k,e⟩ | ⟨k,c,e,z⟩
       · refine .inl ⟨k,?_⟩;have:y≠x:=λe=>hj (Ss hN e1 (e ▸ hi));simp[this,e]
       · exact .inr ⟨k,c,e,z.sameBut hs (cne y c e)⟩
   · obtain⟨w',z⟩:=I.cell y c e;exact⟨w',z.sameBut hs (cne y c e)⟩
   · obtain⟨e,n,ne,nf,d⟩:=I.pin p hp;exact⟨(hs.2 p.1 ne).trans e,n,ne,nf,d⟩
 · have hfn:X.fn x=true:=by
    rcases hf with z | z
    · exact z
    · rw[z] at hk;cases hk
   obtain⟨c,hc⟩:=I.ok.has x (.inl hk);obtain⟨w',z⟩:=I.cell x c hc;refine wpAny_storeName_cell I.ok.kind hk hc z (λh' hc' hs=>?_);obtain⟨oc,hoc,hocd⟩:=id z;refine h {s with heap:=h'} ⟨I.ok,I.os,I.bare,⟨λb o e n hb hx=>?_,λb o e n hb hx=>?_,I.base.free,λb o e hx=>?_,I.base.tups,I.base.frzs,I.base.tbls⟩,⟨m,hn.sameBut hs (Bq (cne x c hc)),λj y v' e1 e2 e3=>?_⟩,λy c' e=>?_,I.free,I.freeC,λp hp=>?_,tracked ⟨oc,hoc,I.freeC x c hc⟩ hs,by simpa using I.len⟩ ⟨c,hs,.inr hc⟩
   · exact(hs.2 b (Aq (AE (Ai e) (I.ok.cab x c hfn hc)))).trans (I.base.keep b o e n hb hx)
   · obtain⟨sl,e1⟩:=I.base.slot b o e n hb hx;exact⟨sl,(hs.2 b (Aq (AE (Ai e) (I.ok.cab x c hfn hc)))).trans e1⟩
   · obtain⟨o',e1⟩:=I.base.there b o e hx;exact⟨o',(hs.2 b (Aq (AE (Ai e) (I.ok.cab x c hfn hc)))).trans e1⟩
   · by_cases hj:j=i
     · subst hj;rw[hi] at e1;cases e1;rw[FF hiσ] at e2;cases e2;exact⟨u,r,.inr ⟨.inl hk,c,hc,hc'⟩⟩
     · rw[Gb (Bq hj)] at e2;obtain⟨u',r',q⟩:=hl j y v' e1 e2 e3;refine⟨u',r',?_⟩;rcases q with q | ⟨k,c',e,z'⟩
       · exact .inl q
       · refine .inr ⟨k,c',e,z'.sameBut hs ?_⟩;rintro rfl;exact hj (Ss hN e1 (I.ok.inj _ _ _ e hc ▸ hi))
   · by_cases hcc:c'=c
     · subst hcc;exact⟨_,hc'⟩
     · obtain⟨w2,z2⟩:=I.cell y c' e;exact⟨w2,z2.sameBut hs hcc⟩
   · obtain⟨e,n,ne,nf,d⟩:=I.pin p hp;refine⟨(hs.2 p.1 ?_).trans e,n,ne,nf,d⟩;intro q;rw[q,hoc] at e;have q':oc=p.2:=Az e;exact d w' (by rw[←q'];exact hocd)
theorem Po{M:Model}{A:BZ}{E:Value→Shared→Prop}{x:Str}{v:V}{Q:Unit→Shared→Prop}(I:Inv X pins σ H s)(hN:X.N.Nodup)(hi:X.N[i]?=some x)(hx:LW X.env.scope x)(r:RelV v u)
 (h:∀s',Inv X pins (σ.set i (some v)) H s'→Q () s') (hf:X.fn x=true∨X.env.scope.names.lookup x=some .local:=by first | exact .inl rfl | exact .inr rfl | assumption):wpAny M A (storeName X.env x u) Q E s:=
 PB I hN hi hx r (λs' I' _=>h s' I') hf
theorem Inv.call'{s':Shared}{ch:List Addr}(I:Inv X pins σ H s)(ho:s'.os=s.os)(u:Un (K5 X.stack) ch H H' s.heap s'.heap)(hok:HOk X.prog X.w H' s'.heap)(hg:AllBare s'.gens)
 (hch:∀b∈ch,(b∈X.ex∨X.s₀.heap.objs.size≤b)∧b≠X.env.locals∧(∀x c,X.env.cells.lookup x=some c→c≠b)∧∀p∈X.pn++pins,p.1≠b):Inv X pins σ H' s':=by
 obtain⟨h',g',d',t',o'⟩:=s';have e:o'=s.os:=ho;subst e;exact I.call (g':=g') (t':=t') (d':=d') u hok hg hch
end
abbrev XK:=Value→Option Addr→Hp→Prop
abbrev St:=List (Option V)
abbrev VK:=V→Hp→Prop
abbrev TE:=St→Hp→VK→Prop
abbrev TT:=St→Hp→(Bool→Hp→Prop)→Prop
abbrev TA:=St→Hp→(List V→Hp→Prop)→Prop
structure Ends where
 nx:St→Hp→Prop
 rt:VK
 bk:St→Hp→Prop:=λ_ _=>False
 ct:St→Hp→Prop:=λ_ _=>False
abbrev TS:=Ends→St→Hp→Prop
def EP(X:Cx)(pins:List (Addr×Obj))(σ:St)(Q:VK)(u:Value)(s':Shared):Prop:=∃v H',Inv X pins σ H' s'∧RelV v u∧Q v H'
def TP(X:Cx)(pins:List (Addr×Obj))(σ:St)(Q:Bool→Hp→Prop)(b:Bool)(s':Shared):Prop:=∃H',Inv X pins σ H' s'∧Q b H'
def AP(X:Cx)(pins:List (Addr×Obj))(σ:St)(Q:List V→Hp→Prop)(us:List Value)(s':Shared):Prop:=∃vs H',Inv X pins σ H' s'∧Vals vs us∧Q vs H'
def SP(X:Cx)(pins:List (Addr×Obj))(D:Ends)(f:Flow)(s':Shared):Prop:=
 match f with
 | .next=>∃σ' H',Inv X pins σ' H' s'∧D.nx σ' H'
 | .brk=>∃σ' H',Inv X pins σ' H' s'∧D.bk σ' H'
 | .cont=>∃σ' H',Inv X pins σ' H' s'∧D.ct σ' H'
 | .ret u=>∃v σ' H',Inv X pins σ' H' s'∧RelV v u∧D.rt v H'
def PE(X:Cx)(e:Expr)(t:TE):Prop:=
 ∀(pins:List (Addr×Obj))(s:Shared)(σ:St)(H:Hp)(Q:VK),Inv X pins σ H s→t σ H Q→wpAny (model X.prog X.w) X.A (eval e X.env) (EP X pins σ Q) X.xe s
def PT(X:Cx)(e:Expr)(t:TT):Prop:=
 ∀(pins:List (Addr×Obj))(s:Shared)(σ:St)(H:Hp)(Q:Bool→Hp→Prop),Inv X pins σ H s→t σ H Q→wpAny (model X.prog X.w) X.A (isTrue e X.env (eval e X.env)) (TP X pins σ Q) X.xe s
def PW(X:Cx)(e:Expr)(t:TT):Prop:=
 ∀(whole:Sem Value)(pins:List (Addr×Obj))(s:Shared)(σ:St)(H:Hp)(Q:Bool→Hp→Prop),Inv X pins σ H s→t σ H Q→wpAny (model X.prog X.w) X.A (isTrue e X.env whole) (TP X pins σ Q) X.xe s
theorem PW.pt{X:Cx}{t:TT}(h:PW X e t):PT X e t:=h _
def PA(X:Cx)(es:List Expr)(t:TA):Prop:=
 ∀(pos:Pos)(pins:List (Addr×Obj))(s:Shared)(σ:St)(H:Hp)(Q:List V→Hp→Prop),Inv X pins σ H s→t σ H Q→wpAny (model X.prog X.w) X.A (spliced (backTo pos (AD es X.env))) (AP X pins σ Q) X.xe s
def PS(X:Cx)(st:Stmt)(t:TS):Prop:=
 ∀(pins:List (Addr×Obj))(s:Shared)(σ:St)(H:Hp)(D:Ends),Inv X pins σ H s→t D σ H→wpAny (model X.prog X.w) X.A (exec st X.env) (SP X pins D) X.xe s
def PSs(X:Cx)(st:List Stmt)(t:TS):Prop:=
 ∀(pins:List (Addr×Obj))(s:Shared)(σ:St)(H:Hp)(D:Ends),Inv X pins σ H s→t D σ H→wpAny (model X.prog X.w) X.A (execs st X.env) (SP X pins D) X.xe s
theorem HN{α:Type}{t:Sem α}{Q Q':α→Shared→Prop}{M:Model}(h:wpAny M A t Q E s)(hQ:∀a s,Q a s→Q' a s):wpAny M A t Q' E s:=A4 h hQ λ_ _ x=>x
section
variable{X:Cx}
def MT(i:Nat):TE:=λσ H Q=>∃v,σ[i]?=some (some v)∧Q v H
def tC(v:V):TE:=λ_ H Q=>Q v H
theorem V_{x:Str}(hN:X.N[i]?=some x)(hv:Nu X.env.scope x)(hd:(x==("__debug__":Str))=false:=by decide)(hcd:(x==("__classdict__":Str))=false:=by decide):PE X (.Name x pos) (MT i):=by
 intro pins s σ H Q I h;obtain⟨v,e,h⟩:=h;obtain⟨m,hn,hl⟩:=I.loc;obtain⟨u,r,l⟩:=hl i x v hN e hv;have fin:EP X pins σ Q u s:=⟨v,H,I,r,h⟩;rcases l with⟨hk,hm⟩ | ⟨hk,c,hc,hcell⟩
 · exact wpAny_Name (wpAny_loadName_local I.ok.kind hk hn hm fin) hd
 · rcases hk with hk | hk
   · exact wpAny_Name (wpAny_loadName_cell I.ok.kind hk hc hcell fin) hd
   · exact wpAny_Name (wpAny_loadName_free I.ok.kind hk hc hcell fin hcd) hd
theorem HL{i j pos}:PE X (.Constant (.int i) j pos) (tC (.int i)):=λ_ _ _ H _ I h=>wpAny_Constant_int ⟨.int i,H,I.tok _,⟨_,rfl⟩,h⟩
theorem Kj{b j pos}:PE X (.Constant (.bool b) j pos) (tC (.bl b)):=λ_ _ _ H _ I h=>Constant_bool ⟨.bl b,H,I,rfl,h⟩
theorem JB{j pos}:PE X (.Constant .none j pos) (tC .non):=λ_ _ _ H _ I h=>Constant_none ⟨.non,H,I,rfl,h⟩
theorem M4{x j pos}:PE X (.Constant (.str x) j pos) (tC (.str x)):=λ_ _ _ H _ I h=>Calls.Constant_str ⟨.str x,H,I.tok _,⟨_,rfl⟩,h⟩
def Gl(X:Cx)(x:Str):Prop:=X.env.kindOf x=some .globalImplicit
theorem ON{E:Value→Shared→Prop}{σ:St}{H:Hp}{x:Str}{pos:Pos}{Q:Value→Shared→Prop}(I:Inv X pins σ H s)(hg:Gl X x)(hm:X.mg x=some u)(h:Q u s)
 (hd:(x==("__debug__":Str))=false:=by decide):wpAny (model X.prog X.w) X.A (eval (.Name x pos) X.env) Q E s:=
 EE I.ok.kind hg (Calls.loadGlobal_global (by rw[I.ok.glob];exact I.mod.glob.keeps I.bk) hm h) hd
theorem Ky{E:Value→Shared→Prop}{σ:St}{H:Hp}{x:Str}{pos:Pos}{Q:Value→Shared→Prop}(I:Inv X pins σ H s)(hg:Gl X x)(hm:X.mg x=none)(hv:AV x=some u)(h:Q u s)
 (hn:x≠"__name__":=by decide) (hd:(x==("__debug__":Str))=false:=by decide):wpAny (model X.prog X.w) X.A (eval (.Name x pos) X.env) Q E s:=by
 obtain⟨mb,h1,h2⟩:=I.mod.blt;exact EE I.ok.kind hg (Calls.loadGlobal_builtin (by rw[I.ok.glob];exact I.mod.glob.keeps I.bk) hm (by rw[I.ok.blt];exact h1.keeps I.bk) ((h2 x hn).trans hv) h) hd
theorem NL{x:Str}{v:V}(hg:Gl X x)(hm:X.mg x=some u)(r:RelV v u)(hd:(x==("__debug__":Str))=false:=by decide):PE X (.Name x pos) (tC v):=
 λ_ _ _ H _ I h=>ON I hg hm ⟨v,H,I,r,h⟩ hd
theorem KD{x:Str}{v:V}(hg:Gl X x)(hm:X.mg x=none)(hv:AV x=some u)(r:RelV v u)(hn:x≠"__name__":=by decide)(hd:(x==("__debug__":Str))=false:=by decide):PE X (.Name x pos) (tC v):=
 λ_ _ _ H _ I h=>Ky I hg hm hv ⟨v,H,I,r,h⟩ hn hd
variable{a b:Expr}{ta tb:TE}
def PC(X:Cx)(op:CmpOp)(a b:Expr)(t:TE):Prop:=
 ∀(pins:List (Addr×Obj))(s:Shared)(σ:St)(H:Hp)(Q:VK),Inv X pins σ H s→t σ H Q→
  wpAny (model X.prog X.w) X.A (eval a X.env) (λv s₁=>wpAny (model X.prog X.w) X.A (eval b X.env) (λu s₂=>wpAny (model X.prog X.w) X.A (By op v u) (EP X pins σ Q) X.xe s₂) X.xe s₁) X.xe s
theorem Sr(b:Expr){op:CmpOp}(h:op≠ .In)(h2:op≠ .NotIn):behindInMarks op b=false:=by
 have e1:(op==CmpOp.In)=false:=by cases op<;>first | rfl | exact absurd rfl h
 have e2:(op==CmpOp.NotIn)=false:=by cases op<;>first | rfl | exact absurd rfl h2
 cases b<;>simp[behindInMarks,e1,e2]
def Qp(ta:TE):TE:=λσ H Q=>ta σ H λx H1=>Q (.bl (decide (x= .non))) H1
def Vl(ta:TE):TE:=λσ H Q=>ta σ H λx H1=>Q (.bl (!decide (x= .non))) H1
theorem RelV.none_iff{x:V}{v:Value}(r:RelV x v):(v==Value.none)=decide (x= .non):=by
 cases x with
 | non=>cases r;rfl
 | bl _=>cases r;rfl
 | int _=>obtain⟨t,rfl⟩:=r;rfl
 | str _=>obtain⟨t,rfl⟩:=r;rfl
 | byt _=>obtain⟨t,rfl⟩:=r;rfl
 | flt _=>obtain⟨t,rfl⟩:=r;rfl
 | ref _=>cases r;rfl
 | ty _=>cases r;rfl
theorem Km{j pos'}(ha:PE X a ta):PC X .Is a (.Constant .none j pos') (Qp ta):=by intro pins s σ H Q I h;refine HN (ha pins s σ H _ I h) λv s1 ⟨x,H1,I1,r1,q1⟩=>?_;exact Constant_none (is_none_gen ⟨.bl _,H1,I1,by rw[r1.none_iff];rfl,q1⟩)
theorem KR{j pos'}(ha:PE X a ta):PC X .IsNot a (.Constant .none j pos') (Vl ta):=by intro pins s σ H Q I h;refine HN (ha pins s σ H _ I h) λv s1 ⟨x,H1,I1,r1,q1⟩=>?_;exact Constant_none (isnot_none_gen ⟨.bl _,H1,I1,by rw[r1.none_iff];rfl,q1⟩)
def tB(t:TE):TT:=λσ H Q=>t σ H λx H1=>∃c,x= .bl c∧Q c H1
theorem NI{op:CmpOp}{t:TE}(h:PC X op a b t)(h1:behindInMarks op b=false:=by first | exact Sr _ (by decide) (by decide) | rfl):PE X (.Compare a [op] [b] pos) t:=λpins s σ H Q I hw=>wpAny_Compare1 (h pins s σ H Q I hw) h1
theorem J7{op:CmpOp}{t:TE}(h:PC X op a b t)(h1:behindInMarks op b=false:=by first | exact Sr _ (by decide) (by decide) | rfl):PT X (.Compare a [op] [b] pos) (tB t):=by intro pins s σ H Q I hw;refine wpAny_isTrue_Compare1 (HN (h pins s σ H _ I hw) λv s1 h1=>HN h1 λu s2 h2=>HN h2 λc s3 ⟨x,H1,I1,r1,q1⟩=>?_) h1;obtain⟨d,rfl,q⟩:=q1;cases r1;exact Bu ⟨H1,I1,q⟩
theorem J_{t:TE}(h:PE X e t)(he:∀whole,isTrue e X.env whole=(do let v ←whole;standAt e.pos;holding [v] (truthy v)):=by intro _;rfl):PT X e (tB t):=by intro pins s σ H Q I hw;refine isTrue_plain (HN (h pins s σ H _ I hw) λv s1 ⟨x,H1,I1,r1,q1⟩=>?_) (he _);obtain⟨d,rfl,q⟩:=q1;cases r1;exact Bu ⟨H1,I1,q⟩
variable{tA tB':TT}{rest:List Expr}
def Qu(t u:TT):TT:=λσ H Q=>t σ H λc H1=>if c=true then u σ H1 Q else Q false H1
def tOr(t u:TT):TT:=λσ H Q=>t σ H λc H1=>if c=true then Q true H1 else u σ H1 Q
def Qm(t:TT):TT:=λσ H Q=>t σ H λc H1=>Q (!c) H1
theorem Mj(ha:PT X a tA):PW X (.BoolOp .And [a] pos) tA:=by
 intro wh pins s σ H Q I h;refine isTrue_and (HN (ha pins s σ H Q I h) λc s1 e=>?_);cases c with
 | true=>exact isTrue_and_nil e
 | false=>exact e
theorem Lo(ha:PT X a tA):PW X (.BoolOp .Or [a] pos) tA:=by
 intro wh pins s σ H Q I h;refine isTrue_or (HN (ha pins s σ H Q I h) λc s1 e=>?_);cases c with
 | false=>exact isTrue_or_nil e
 | true=>exact e
theorem Ln(ha:PT X a tA)(hb:PW X (.BoolOp .And (b::rest) pos) tB'):PW X (.BoolOp .And (a::b::rest) pos) (Qu tA tB'):=by
 intro wh pins s σ H Q I h;refine isTrue_and (HN (ha pins s σ H _ I h) λc s1 ⟨H1,I1,q1⟩=>?_);cases c with
 | true=>exact hb wh pins s1 σ H1 Q I1 q1
 | false=>exact⟨H1,I1,q1⟩
theorem Ll(ha:PT X a tA)(hb:PW X (.BoolOp .Or (b::rest) pos) tB'):PW X (.BoolOp .Or (a::b::rest) pos) (tOr tA tB'):=by
 intro wh pins s σ H Q I h;refine isTrue_or (HN (ha pins s σ H _ I h) λc s1 ⟨H1,I1,q1⟩=>?_);cases c with
 | true=>exact⟨H1,I1,q1⟩
 | false=>exact hb wh pins s1 σ H1 Q I1 q1
theorem Ko(ha:PT X a tA):PT X (.UnaryOp .Not a pos) (Qm tA):=by intro pins s σ H Q I h;exact isTrue_not (ha pins s σ H (λc H1=>Q (!c) H1) I h)
def Vi(ta tb:TE):TE:=λσ H Q=>ta σ H λx H1=>∃c,x= .bl c∧if c=true then tb σ H1 Q else Q (.bl false) H1
def Ql(ta tb:TE):TE:=λσ H Q=>ta σ H λx H1=>∃c,x= .bl c∧if c=true then Q (.bl true) H1 else tb σ H1 Q
def Vm(ta:TE):TE:=λσ H Q=>ta σ H λx H1=>∃c,x= .bl c∧Q (.bl (!c)) H1
theorem Lm{op}{t:TE}(h:PE X a t):PE X (.BoolOp op [a] pos) t:=λpins s σ H Q I hw=>BoolOp_one (h pins s σ H Q I hw)
theorem Me(ha:PE X a ta)(hb:PE X (.BoolOp .And (b::rest) pos) tb):PE X (.BoolOp .And (a::b::rest) pos) (Vi ta tb):=by
 intro pins s σ H Q I h;refine BoolOp_and (HN (ha pins s σ H _ I h) λv s1 ⟨x,H1,I1,r1,q1⟩=>?_);obtain⟨c,rfl,q1⟩:=q1;cases r1;refine Bu ?_;cases c with
 | true=>exact hb pins s1 σ H1 Q I1 q1
 | false=>exact⟨.bl false,H1,I1,rfl,q1⟩
theorem O4(ha:PE X a ta)(hb:PE X (.BoolOp .Or (b::rest) pos) tb):PE X (.BoolOp .Or (a::b::rest) pos) (Ql ta tb):=by
 intro pins s σ H Q I h;refine BoolOp_or (HN (ha pins s σ H _ I h) λv s1 ⟨x,H1,I1,r1,q1⟩=>?_);obtain⟨c,rfl,q1⟩:=q1;cases r1;refine Bu ?_;cases c with
 | false=>exact hb pins s1 σ H1 Q I1 q1
 | true=>exact⟨.bl true,H1,I1,rfl,q1⟩
theorem Rz(ha:PE X a ta):PE X (.UnaryOp .Not a pos) (Vm ta):=by intro pins s σ H Q I h;refine UnaryOp_ (HN (ha pins s σ H _ I h) λv s1 ⟨x,H1,I1,r1,q1⟩=>?_);obtain⟨c,rfl,q1⟩:=q1;cases r1;exact not_of (Bu ⟨.bl (!c),H1,I1,rfl,q1⟩)
def tIf(t:TT)(ta tb:TE):TE:=λσ H Q=>t σ H λc H1=>if c=true then ta σ H1 Q else tb σ H1 Q
theorem Lx{c:Expr}(hc:PT X c tA)(ha:PE X a ta)(hb:PE X b tb):PE X (.IfExp c a b pos) (tIf tA ta tb):=by
 intro pins s σ H Q I h;refine wpAny_IfExp (HN (hc pins s σ H _ I h) λd s1 ⟨H1,I1,q1⟩=>?_);cases d with
 | true=>exact ha pins s1 σ H1 Q I1 q1
 | false=>exact hb pins s1 σ H1 Q I1 q1
end
def SqL(K:Ao)(H:Hp)(a:Addr)(xs:List V):Prop:=
 Rd H a (.lst xs)∨
  ∃(o:Obj)(its:Array Value)(n:Nat),K.lookup a=some o∧o.cls= .type "list"∧o.dict=none∧o.data= .seq its n∧its.size≤Au∧Vals xs its.toList
def SqT(K:Ao)(H:Hp)(a:Addr)(xs:List V):Prop:=
 Rd H a (.tup xs)∨
  ∃(o:Obj)(its:Array Value)(n:Nat),K.lookup a=some o∧o.cls= .type "tuple"∧o.data= .seq its n∧its.size≤Au∧Vals xs its.toList
def QN:Value→Option V
 | .none=>some .non
 | .bool b=>some (.bl b)
 | .int i _=>some (.int i)
 | .str x _=>some (.str x)
 | .bytes b _=>some (.byt b)
 | .float b _=>some (.flt b)
 | .ref a=>some (.ref a)
 | .type n=>some (.ty n)
 | _=>none
theorem RelV.abs{x:V}(r:RelV x u):QN u=some x:=by
 cases x with
 | non=>cases r;rfl
 | bl _=>cases r;rfl
 | int _=>obtain⟨t,rfl⟩:=r;rfl
 | str _=>obtain⟨t,rfl⟩:=r;rfl
 | byt _=>obtain⟨t,rfl⟩:=r;rfl
 | flt _=>obtain⟨t,rfl⟩:=r;rfl
 | ref _=>cases r;rfl
 | ty _=>cases r;rfl
theorem RelV.inj{x y:V}(r:RelV x u)(q:RelV y u):x=y:=Az (r.abs.symm.trans q.abs)
theorem Vals.inj:∀{xs ys:List V}{us:List Value},Vals xs us→Vals ys us→xs=ys
 | _,_,_,.nil,.nil=>rfl
 | _,_,_,.cons r t,.cons r' t'=>by rw[r.inj r',Vals.inj t t']
section
variable{X:Cx}{σ:St}{H:Hp}{xs ys:List V}
theorem SqL.of(h:H a=some (.lst xs)):SqL K H a xs:= .inl (.inl h)
theorem SqT.of(h:H a=some (.tup xs)):SqT K H a xs:= .inl (.inl h)
theorem Inv.list(I:Inv X pins σ H s)(h:SqL X.K H a xs):∃its:List Value,Vals xs its∧PlainL s.heap a its.toArray∧xs.length≤Au:=by
 rcases h with h | ⟨o,its,n,hk,hc,hd,hs,hz,r⟩
 · obtain⟨z,its,n,r,e⟩:=h.ok I.hok;exact⟨its,r,⟨_,n,e,rfl,rfl,rfl⟩,z⟩
 · refine⟨its.toList,r,⟨o,n,I.kIn a o hk,hc,hd,by simpa using hs⟩,?_⟩;have e:=r.length;simp only[AG] at e;omega
theorem Inv.tuple(I:Inv X pins σ H s)(h:SqT X.K H a xs):∃its:List Value,Vals xs its∧IsTup s.heap a its.toArray∧xs.length≤Au:=by
 rcases h with h | ⟨o,its,n,hk,hc,hs,hz,r⟩
 · obtain⟨z,its,r,p⟩:=h.ok I.hok;exact⟨its,r,p.tup,z⟩
 · refine⟨its.toList,r,⟨o,I.kIn a o hk,hc,n,by simpa using hs⟩,?_⟩;have e:=r.length;simp only[AG] at e;omega
theorem Inv.list_inj(I:Inv X pins σ H s)(h:SqL X.K H a xs)(h':SqL X.K H a ys):xs=ys:=by
 obtain⟨its,r,⟨o,n,e,_,_,d⟩,_⟩:=I.list h;obtain⟨its',r',⟨o',n',e',_,_,d'⟩,_⟩:=I.list h';rw[e] at e';cases e';rw[d] at d';injection d' with d1 _;have:its=its':=by simpa using congrArg Array.toList d1
 subst this;exact r.inj r'
theorem Inv.tuple_inj(I:Inv X pins σ H s)(h:SqT X.K H a xs)(h':SqT X.K H a ys):xs=ys:=by
 obtain⟨its,r,⟨o,e,_,n,d⟩,_⟩:=I.tuple h;obtain⟨its',r',⟨o',e',_,n',d'⟩,_⟩:=I.tuple h';rw[e] at e';cases e';rw[d] at d';injection d' with d1 _;have:its=its':=by simpa using congrArg Array.toList d1
 subst this;exact r.inj r'
end
abbrev Cx.wish(X:Cx)(E:Value→Shared→Prop):Cx:={X with xe:=E}
abbrev Cx.nox(X:Cx):Cx:=X.wish λ_ _=>False
theorem Cx.Ok.wish{X:Cx}(ok:X.Ok)(E:Value→Shared→Prop):(X.wish E).Ok:=
 ⟨ok.mod,ok.kind,ok.glob,ok.blt,ok.above,ok.inj,ok.has,ok.cab,ok.hd,ok.frames,ok.stk,ok.exf,ok.bs,ok.bsz,ok.noex,ok.exfs,ok.funs,ok.frf⟩
theorem Cx.Ok.unwish{X:Cx}(ok:(X.wish E).Ok):X.Ok:=
 ⟨ok.mod,ok.kind,ok.glob,ok.blt,ok.above,ok.inj,ok.has,ok.cab,ok.hd,ok.frames,ok.stk,ok.exf,ok.bs,ok.bsz,ok.noex,ok.exfs,ok.funs,ok.frf⟩
section
variable{X:Cx}{σ:St}{H:Hp}
theorem Inv.wish(I:Inv X pins σ H s)(E:Value→Shared→Prop):Inv (X.wish E) pins σ H s:=⟨I.ok.wish E,I.os,I.bare,I.base,I.loc,I.cell,I.free,I.freeC,I.pin,I.hok,I.len⟩
theorem Inv.unwish(I:Inv (X.wish E) pins σ H s):Inv X pins σ H s:=⟨I.ok.unwish,I.os,I.bare,I.base,I.loc,I.cell,I.free,I.freeC,I.pin,I.hok,I.len⟩
theorem SP.unwish{D:Ends}{f:Flow}{s':Shared}(h:SP (X.wish E) pins D f s'):SP X pins D f s':=by
 cases f with
 | next=>obtain⟨σ',H',I,q⟩:=h;exact⟨σ',H',I.unwish,q⟩
 | brk=>obtain⟨σ',H',I,q⟩:=h;exact⟨σ',H',I.unwish,q⟩
 | cont=>obtain⟨σ',H',I,q⟩:=h;exact⟨σ',H',I.unwish,q⟩
 | ret u=>obtain⟨v,σ',H',I,r,q⟩:=h;exact⟨v,σ',H',I.unwish,r,q⟩
theorem PSs.nox{st:List Stmt}{t:TS}(h:PSs X.nox st t):PSs X st t:=λpins s σ H D I hw=> A4 (h pins s σ H D (I.wish _) hw) (λ_ _ q=>q.unwish) λ_ _ z=>C4 z
end
section
variable{X:Cx}{st:Stmt}{rest:List Stmt}{t u:TS}{te:TE}
def Rf:TS:=λD σ H=>D.nx σ H
def LO(t u:TS):TS:=λD σ H=>t {D with nx:=u D} σ H
theorem IG:PSs X [] Rf:=λ_ _ σ H _ I h=>Fy ⟨σ,H,I,h⟩
theorem HQ(h1:PS X st t)(h2:PSs X rest u):PSs X (st::rest) (LO t u):=by
 intro pins s σ H D I h;refine wpAny_execs_cons (HN (h1 pins s σ H {D with nx:=u D} I h) λf s1 q=>?_)
 cases f with
 | next=> obtain⟨σ',H',I',q⟩:=q;exact h2 pins s1 σ' H' D I' q
 | ret v=>exact q
 | brk=>exact q
 | cont=>exact q
theorem HW(h1:PS X st t):PSs X [st] t:=by
 intro pins s σ H D I h;refine wpAny_execs_cons (HN (h1 pins s σ H D I h) λf s1 q=>?_);cases f with
 | next=>exact Fy q
 | ret v=>exact q
 | brk=>exact q
 | cont=>exact q
theorem Inv.quiet{σ:St}{H:Hp}(I:Inv X pins σ H s):interactive X.env=false:=by simp[interactive,I.ok.kind]
def Vk(te:TE):TS:=λD σ H=>te σ H λ_ H1=>D.nx σ H1
theorem Kr(he:PE X e te)(hs:swapsWith e none pos.line X.env=pure false:=by rfl):PS X (.Expr e pos) (Vk te):=by intro pins s σ H D I h;exact wpAny_Expr_any (HN (he pins s σ H _ I h) λv s1 ⟨x,H1,I1,r1,q1⟩=>⟨σ,H1,I1,q1⟩) I.quiet hs
def Qk(te:TE):TS:=λD σ H=>te σ H D.rt
theorem Ik(he:PE X e te):PS X (.Return (some e) pos) (Qk te):=by intro pins s σ H D I h;exact wpAny_Return_some (HN (he pins s σ H _ I h) λv s1 ⟨x,H1,I1,r1,q1⟩=>⟨x,σ,H1,I1,r1,q1⟩)
def Qq(c:TT)(t u:TS):TS:=λD σ H=>c σ H λb H1=>if b=true then t D σ H1 else u D σ H1
theorem IH{c:Expr}{a b:List Stmt}{tc:TT}(hc:PT X c tc)(ha:PSs X a t)(hb:PSs X b u):PS X (.If c a b pos) (Qq tc t u):=by
 intro pins s σ H D I h;refine wpAny_If (HN (hc pins s σ H _ I h) λd s1 ⟨H1,I1,q1⟩=>?_);cases d with
 | true=>exact ha pins s1 σ H1 D I1 q1
 | false=>exact hb pins s1 σ H1 D I1 q1
def VM:TS:=λ_ _ _=>False
theorem MJ:PS X st VM:=λ_ _ _ _ _ _ h=>h.elim
end
abbrev TG:=V→St→Hp→(St→Hp→Prop)→Prop
abbrev L7:=List V→St→Hp→(St→Hp→Prop)→Prop
def PG(X:Cx)(target:Expr)(t:TG):Prop:=
 ∀(pins:List (Addr×Obj))(s:Shared)(σ:St)(H:Hp)(v:V)(u:Value)(Q:St→Hp→Prop),Inv X pins σ H s→RelV v u→t v σ H Q→
  wpAny (model X.prog X.w) X.A (assign target X.env u) (λ_ s'=>∃σ' H',Inv X pins σ' H' s'∧Q σ' H') X.xe s
def Nw(X:Cx)(ts:List Expr)(t:L7):Prop:=
 ∀(pins:List (Addr×Obj))(s:Shared)(σ:St)(H:Hp)(vs:List V)(us:List Value)(Q:St→Hp→Prop),Inv X pins σ H s→Vals vs us→t vs σ H Q→
  wpAny (model X.prog X.w) X.A (assignInOrder ((assignEach ts X.env).map (·.2)) us) (λ_ s'=>∃σ' H',Inv X pins σ' H' s'∧Q σ' H') X.xe s
abbrev LS:=V→V→V→Hp→(Hp→Prop)→Prop
def Nv(X:Cx)(t:LS):Prop:=
 ∀(pins:List (Addr×Obj))(s:Shared)(σ:St)(H:Hp)(o i v:V)(ov iv u:Value)(Q:Hp→Prop),Inv X pins σ H s→RelV o ov→RelV i iv→RelV v u→t o i v H Q→
  wpAny (model X.prog X.w) X.A (setItem ov iv u) (λ_ s'=>∃H',Inv X pins σ H' s'∧Q H') X.xe s
abbrev QO:=V→V→Hp→VK→Prop
def U3(X:Cx)(op:Operator)(t:QO):Prop:=
 ∀(pins:List (Addr×Obj))(s:Shared)(σ:St)(H:Hp)(x y:V)(v u:Value)(Q:VK),Inv X pins σ H s→RelV x v→RelV y u→t x y H Q→
  wpAny (model X.prog X.w) X.A (inplaceOp op v u) (EP X pins σ Q) X.xe s
section
variable{X:Cx}
def JN(i:Nat):TG:=λv σ H Q=>Q (σ.set i (some v)) H
theorem H_{x:Str}(hN:X.N.Nodup)(hi:X.N[i]?=some x)(hx:LW X.env.scope x)(hf:X.fn x=true∨X.env.scope.names.lookup x=some .local:=by first | exact .inl rfl | exact .inr rfl | assumption):PG X (.Name x pos) (JN i):=by intro pins s σ H v u Q I r h;exact EQ (Po I hN hi hx r (λs' I'=>⟨_,H,I',h⟩) hf)
def QH:L7:=λvs σ H Q=>vs=[]∧Q σ H
def UW(t:TG)(u:L7):L7:=λvs σ H Q=>∃v r,vs=v::r∧t v σ H λσ' H'=>u r σ' H' Q
theorem Jr:Nw X [] QH:=by intro pins s σ H vs us Q I r h;obtain⟨e,h⟩:=h;subst e;cases r;exact assignInOrder_nil ⟨σ,H,I,h⟩
theorem Iq{es:List Expr}{t:TG}{u:L7}(h1:PG X e t)(h2:Nw X es u)
 (hs:(assignEach (e::es) X.env).map (·.2)=assign e X.env::(assignEach es X.env).map (·.2):=by rfl):Nw X (e::es) (UW t u):=by
 intro pins s σ H vs us Q I r h;obtain⟨v,vr,e1,h⟩:=h;subst e1;cases r with
 | cons r rr=> rw[hs];refine assignInOrder_cons (HN (h1 pins s σ H _ _ _ I r h) λ_ s1 ⟨σ1,H1,I1,q1⟩=>?_);exact h2 pins s1 σ1 H1 _ _ Q I1 rr q1
def Nt(K:Ao)(n:Nat)(t:L7):TG:=λv σ H Q=>∃a xs,v= .ref a∧SqT K H a xs∧xs.length=n∧t xs σ H Q
theorem JI{es:List Expr}{k:Nat}{t:L7}{n:Nat}(hc:X.calm=true)(h:Nw X es t)
 (hn:(assignEach es X.env).length=n:=by rfl) (hst:(assignEach es X.env).findIdx? (·.1)=none:=by rfl):PG X (.Tuple es k pos) (Nt X.K n t):=by
 intro pins s σ H v u Q I r hw;obtain⟨a,xs,e1,hq,hl,hw⟩:=hw;subst e1;cases r;obtain⟨its,rv,ht,hz⟩:=I.tuple hq;refine assign_Tuple_tuple (I.ok.hd hc) ht (by simp[hn,←hl,rv.length]) hst λh' hx=>?_;have I1:Inv X pins σ H {s with heap:=h'}:=I.kept (t':=s.toks) λb o e=>hx b o (Aq (Ai e)) e
 exact h pins _ σ H xs _ Q I1 (by simpa using rv) hw
def QG(to ti:TE)(t:LS):TG:=λv σ H Q=>to σ H λo H1=>ti σ H1 λi H2=>t o i v H2 λH3=>Q σ H3
theorem OG{o i:Expr}{to ti:TE}{t:LS}(ho:PE X o to)(hi:PE X i ti)(hs:Nv X t)
 (ha:∀v,assign (.Subscript o i pos) X.env v=(do
  let ov ←holding [v] (eval o X.env)
  let iv ←holding [v,ov] (eval i X.env)
  standAt pos
  holding [v,ov,iv] (setItem ov iv v)
  release [v,ov,iv] []):=by intro _;rfl):PG X (.Subscript o i pos) (QG to ti t):=by
 intro pins s σ H v u Q I r h;rw[ha];refine Aa (AS (HN (ho pins s σ H _ I h) λov s1 ⟨x,H1,I1,r1,q1⟩=>?_));refine Aa (AS (HN (hi pins s1 σ H1 _ I1 q1) λiv s2 ⟨y,H2,I2,r2,q2⟩=>?_));refine Aa (Bp (Aa (AS (HN (hs pins s2 σ H2 x y v ov iv u _ I2 r1 r2 r q2) λ_ s3 ⟨H3,I3,q3⟩=>?_))));exact wpAny_release ⟨σ,H3,I3,q3⟩
def K4(te:TE)(g:TG):TS:=λD σ H=>te σ H λx H1=>g x σ H1 D.nx
theorem KW{tg:Expr}{te:TE}{g:TG}(he:PE X e te)(hg:PG X tg g)(hs:swapsWithSole [tg] e pos.line X.env=pure false:=by rfl)(hw:swappedStores [tg] e X.env=pure none:=by rfl)
 (h1:(assignEach [tg] X.env).map (·.2)=[assign tg X.env]:=by rfl):PS X (.Assign [tg] e pos) (K4 te g):=by
 intro pins s σ H D I h;refine wpAny_Assign_stores (HN (he pins s σ H _ I h) λv s1 ⟨x,H1,I1,r1,q1⟩=>?_) hs hw;rw[h1];exact HN (hg pins s1 σ H1 x v _ I1 r1 q1) λ_ s2 q=>q
theorem Ig{x:Str}{te:TE}{pos':Pos}(hN:X.N.Nodup)(hi:X.N[i]?=some x)(hx:LW X.env.scope x)(he:PE X e te)(hs:swapsWith e (some (.Name x pos')) pos.line X.env=pure false:=by rfl)(hf:X.fn x=true∨X.env.scope.names.lookup x=some .local:=by first | exact .inl rfl | exact .inr rfl | assumption):
 PS X (.Assign [.Name x pos'] e pos) (K4 te (JN i)):=by
 intro pins s σ H D I h;refine wpAny_Assign_Name (HN (he pins s σ H _ I h) λv s1 ⟨y,H1,I1,r1,q1⟩=>?_) hs;exact Po I1 hN hi hx r1 (λs2 I2=>⟨_,H1,I2,q1⟩) hf
def Qt(i:Nat)(te:TE)(ti:QO):TS:=λD σ H=>∃x,σ[i]?=some (some x)∧te σ H λy H1=>ti x y H1 λz H2=>D.nx (σ.set i (some z)) H2
theorem VC{x:Str}{te:TE}{op:Operator}{ti:QO}{pos':Pos}(hN:X.N.Nodup)(hi:X.N[i]?=some x)(hx:LW X.env.scope x)(he:PE X e te)(ho:U3 X op ti)(hf:X.fn x=true∨X.env.scope.names.lookup x=some .local:=by first | exact .inl rfl | exact .inr rfl | assumption):
 PS X (.AugAssign (.Name x pos') op e pos) (Qt i te ti):=by
 intro pins s σ H D I h;obtain⟨v,e1,h⟩:=h;obtain⟨m,hn,hl⟩:=I.loc;have vis:Nu X.env.scope x:=by rcases hx with k | k;exact .inl k;exact .inr (.inl k)
 obtain⟨u,r,l⟩:=hl i x v hi e1 vis;refine wpAny_AugAssign_Name ?_;have go:wpAny (model X.prog X.w) X.A (eval e X.env) (λw s₂=>wpAny (model X.prog X.w) X.A (inplaceOp op u w) (λr s₃=>wpAny (model X.prog X.w) X.A (storeName X.env x r) (λ_=>SP X pins D .next) X.xe s₃) X.xe s₂) X.xe s:=by refine HN (he pins s σ H _ I h) λw s1 ⟨y,H1,I1,r1,q1⟩=>?_;refine HN (ho pins s1 σ H1 v y u w _ I1 r r1 q1) λz s2 ⟨zv,H2,I2,r2,q2⟩=>?_;exact Po I2 hN hi hx r2 (λs3 I3=>⟨_,H2,I3,q2⟩) hf
 rcases l with⟨hk,hm⟩ | ⟨hk,c,hc,hcell⟩
 · exact wpAny_loadName_local I.ok.kind hk hn hm go
 · rcases hk with hk | hk
   · exact wpAny_loadName_cell I.ok.kind hk hc hcell go
   · rcases hx with k | k
     · have:X.env.scope.names.lookup x=some .free:=hk;rw[k] at this;cases this
     · have:X.env.scope.names.lookup x=some .free:=hk;rw[k] at this;cases this
end
section
variable{X:Cx}
end
structure It where
 go:Nat→Hp→Prop
 yld:Nat→Hp→V→Hp→Prop
 stop:Nat→Hp→Prop
def HS(X:Cx)(pins:List (Addr×Obj))(H:Hp)(b:Addr):Prop:=
 H b=none∧b≠X.env.locals∧b ∉ X.fs∧(b∈X.ex∨X.s₀.heap.objs.size≤b)∧(∀x c,X.env.cells.lookup x=some c→c≠b)∧∀p∈X.pn++pins,p.1≠b
theorem Inv.fpOk{X:Cx}{σ:St}{H H':Hp}(I:Inv X pins σ H s)(hb:s.heap.objs.size≤b)(hn:H' b=none):HS X pins H' b:=by
 refine⟨hn,C1 (AE I.lt hb),I.nofs hb,.inr (AL I.sz hb),λx c e z=>?_,λp hp z=>?_⟩
 · obtain⟨v,q⟩:=I.cell x c e;exact absurd (AE q.lt (by rw[z];exact hb)) (C3 _)
 · exact absurd (AE (Ai (I.pin p hp).1) (by rw[z];exact hb)) (C3 _)
structure Turn(P:Bv)(w:World)(K:Ao)(tg:Expr)(J:It)(fp:List Addr)(it:Addr)(tn:Nat→Heap→Prop):Prop where
 mem:it∈fp
 obj:∀i h,tn i h→∀b∈fp,∃o,h.get? b=some o∧∀v,o.data≠ .cell v
 keep:∀i h h',tn i h→(∀b∈fp,∀o,h.get? b=some o→h'.get? b=some o)→tn i h'
 item:∀(X:Cx),X.prog=P→X.w=w→X.K=K→X.calm=true→∀(i:Nat)(pins:List (Addr×Obj))(s:Shared)(σ:St)(H:Hp)(E:Value→Shared→Prop),Inv X pins σ H s→(∀b∈fp,HS X pins H b)→tn i s.heap→J.go i H→
  wpAny (model P w) X.A (pyNext (.ref it)) (λr s1=>∃u,r=some u∧
   wpAny (model P w) X.A (BH tg (.ref it) u) (λ_ s2=>∃x H',Inv X pins σ H' s2∧RelV x u∧J.yld i H x H'∧tn (i+1) s2.heap∧∀b∈fp,H' b=none) E s1) E s
 done:∀(X:Cx),X.prog=P→X.w=w→X.K=K→X.calm=true→∀(i:Nat)(pins:List (Addr×Obj))(s:Shared)(σ:St)(H:Hp)(E:Value→Shared→Prop),Inv X pins σ H s→(∀b∈fp,HS X pins H b)→tn i s.heap→J.stop i H→
  wpAny (model P w) X.A (pyNext (.ref it)) (λr s1=>r=none∧Inv X pins σ H s1) E s
 self:∀(A:BZ)(i:Nat)(s:Shared)(Q:Value→Shared→Prop)(E:Value→Shared→Prop),tn i s.heap→Q (.ref it) s→wpAny (model P w) A (pyIter (.ref it)) Q E s
abbrev TI:=St→Hp→(It→Hp→Prop)→Prop
def U4(X:Cx)(pins:List (Addr×Obj))(σ:St)(tg:Expr)(R:It→Hp→Prop)(itv:Value)(s2:Shared):Prop:=
 ∃(it:Addr)(fp:List Addr)(tn:Nat→Heap→Prop)(J:It)(H':Hp),itv= .ref it∧Inv X pins σ H' s2∧Turn X.prog X.w X.K tg J fp it tn∧tn 0 s2.heap∧(∀b∈fp,HS X pins H' b)∧R J H'
def PI(X:Cx)(tg iter:Expr)(wi:TI):Prop:=
 ∀(pins:List (Addr×Obj))(s:Shared)(σ:St)(H:Hp)(R:It→Hp→Prop),Inv X pins σ H s→wi σ H R→
  wpAny (model X.prog X.w) X.A (eval iter X.env) (λv s1=>wpAny (model X.prog X.w) X.A (pyIter v) (U4 X pins σ tg R) X.xe s1) X.xe s
theorem Mx{M:Model}{A:BZ}{E:Value→Shared→Prop}{tg:Expr}{it:Addr}{u:Value}{o:Obj}{n:String}{vs:Array Value}{Q:Unit→Shared→Prop}(ho:s.heap.get? it=some o)(hc:o.cls= .type n)(hd:o.data= .fields vs)
 (hn:["enumerate","zip","dict_itemiterator","dict_reverseitemiterator","odict_iterator","itertools.zip_longest","itertools.pairwise"].contains n=false) (hQ:Q () s):wpAny M A (BH tg (.ref it) u) Q E s:=by
 unfold BH;cases tg<;>first
  | exact Ac hQ
  | (cases u<;>first
   | exact Ac hQ
   | (refine Aa (wpAny_load ho ?_)
      rw[hc,hd];show wpAny M A (if(["enumerate","zip","dict_itemiterator","dict_reverseitemiterator","odict_iterator","itertools.zip_longest","itertools.pairwise"].contains n && vs[0]?==some (rawInt _))=true then _ else _) Q E s
      rw[if_neg (by intro h;rw[hn,Bool.false_and] at h;cases h)];exact Ac hQ))
def Kv(K:Ao)(a:Addr):It:=
 ⟨λi H=>∃xs x,SqL K H a xs∧xs[i]?=some x,λi H x H'=>H'=H∧∀xs,SqL K H a xs→xs[i]?=some x,λi H=>∃xs,SqL K H a xs∧xs.length≤i⟩
def KJ(K:Ao)(a:Addr):It:=
 ⟨λi H=>∃xs x,SqT K H a xs∧xs[i]?=some x,λi H x H'=>H'=H∧∀xs,SqT K H a xs→xs[i]?=some x,λi H=>∃xs,SqT K H a xs∧xs.length≤i⟩
def Lf(lo:Int)(n:Nat):It:=⟨λi _=>i<n,λi H x H'=>H'=H∧x= .int (lo+i),λi _=>n≤i⟩
theorem Yu{tg:Expr}(a it:Addr):Turn P w K tg (Kv K a) [it] it (λi h=>h.IsListIter it a i) where
 mem:=by simp
 obj:=λi h st b hb=>by
  have e:b=it:=by simpa using hb
  subst e;obtain⟨o,e,c,d⟩:=st;exact⟨o,e,λv z=>by rw[d] at z;cases z⟩
 keep:=λi h h' st k=>st.at λo e=>k it (by simp) o e
 item:=by
  intro X hP hw hK hc i pins s σ H E I hf st hg;subst hP hw hK;obtain⟨xs,x,hq,hx⟩:=hg;obtain⟨its,rv,p,hz⟩:=I.list hq;obtain⟨u,hu,ru⟩:=rv.get hx;obtain⟨f0,f1,f2,f3,f4,f5⟩:=hf it (by simp);refine wpAny_pyNext_list_item st p.isList (x:=u) (by simpa using hu) λh' st' sb=>?_;have I1:Inv X pins σ H {s with heap:=h'}:=I.turned (t':=s.toks) (λb o hb e=>(sb.2 b hb).trans e) f0 f1 f3 f4 f5
  obtain⟨o,e,c,d⟩:=id st';exact⟨u,rfl,Mx (s:={s with heap:=h'}) e c d (by decide) ⟨x,H,I1,ru,⟨rfl,λys hy=>by rw[I.list_inj hy hq];exact hx⟩,st',λb hb=>(hf b hb).1⟩⟩
 done:=by intro X hP hw hK hc i pins s σ H E I hf st hg;subst hP hw hK;obtain⟨xs,hq,hx⟩:=hg;obtain⟨its,rv,p,hz⟩:=I.list hq;obtain⟨f0,f1,f2,f3,f4,f5⟩:=hf it (by simp);have hl:=rv.length;exact wpAny_pyNext_list_end (I.ok.hd hc) st p.isList (by simp;omega) λh' eb=>⟨rfl,I.turned (t':=s.toks) (λb o hb e=>eb b o hb e) f0 f1 f3 f4 f5⟩
 self:=λ_ _ _ _ _ st h=>wpAny_pyIter_listiter st h
theorem Yo{tg:Expr}(a it:Addr):Turn P w K tg (KJ K a) [it] it (λi h=>h.IsTupleIter it a i) where
 mem:=by simp
 obj:=λi h st b hb=>by
  have e:b=it:=by simpa using hb
  subst e;obtain⟨o,e,c,d⟩:=st;exact⟨o,e,λv z=>by rw[d] at z;cases z⟩
 keep:=λi h h' st k=>st.at λo e=>k it (by simp) o e
 item:=by
  intro X hP hw hK hc i pins s σ H E I hf st hg;subst hP hw hK;obtain⟨xs,x,hq,hx⟩:=hg;obtain⟨its,rv,p,hz⟩:=I.tuple hq;obtain⟨u,hu,ru⟩:=rv.get hx;obtain⟨f0,f1,f2,f3,f4,f5⟩:=hf it (by simp);refine Fq st (show s.heap.IsTuple a its.toArray from p) (x:=u) (by simpa using hu) λh' st' sb=>?_;have I1:Inv X pins σ H {s with heap:=h'}:=I.turned (t':=s.toks) (λb o hb e=>(sb.2 b hb).trans e) f0 f1 f3 f4 f5
  obtain⟨o,e,c,d⟩:=id st';exact⟨u,rfl,Mx (s:={s with heap:=h'}) e c d (by decide) ⟨x,H,I1,ru,⟨rfl,λys hy=>by rw[I.tuple_inj hy hq];exact hx⟩,st',λb hb=>(hf b hb).1⟩⟩
 done:=by intro X hP hw hK hc i pins s σ H E I hf st hg;subst hP hw hK;obtain⟨xs,hq,hx⟩:=hg;obtain⟨its,rv,p,hz⟩:=I.tuple hq;obtain⟨f0,f1,f2,f3,f4,f5⟩:=hf it (by simp);have hl:=rv.length;exact FG (I.ok.hd hc) st (show s.heap.IsTuple a its.toArray from p) (by simp;omega) λh' eb=>⟨rfl,I.turned (t':=s.toks) (λb o hb e=>eb b o hb e) f0 f1 f3 f4 f5⟩
 self:=λ_ _ _ _ _ st h=>wpAny_pyIter_tupleiter st h
theorem Yn{tg:Expr}(it:Addr)(lo:Int)(n:Nat):Turn P w K tg (Lf lo n) [it] it (λi h=>IsRangeIter h it (lo+(i:Nat)*1) ((n:Int) - (i:Nat)) 1) where
 mem:=by simp
 obj:=λi h st b hb=>by
  have e:b=it:=by simpa using hb
  subst e;exact⟨_,st,λv z=>by have z':Data.fields _=Data.cell v:=z;cases z'⟩
 keep:=λi h h' st k=>k it (by simp) _ st
 item:=by
  intro X hP hw hK hc i pins s σ H E I hf st hg;subst hP hw hK;obtain⟨f0,f1,f2,f3,f4,f5⟩:=hf it (by simp);have W:=Walks.range (prog:=X.prog) (w:=X.w) (I.ok.hd hc) it lo 1 n;refine W.item i s _ _ hg st λv h' tk hv st' kk=>?_;obtain⟨t,rfl⟩:=hv;have I1:Inv X pins σ H {s with heap:=h',toks:=tk}:=I.turned (λb o hb e=>kk b o (by simpa using hb) e) f0 f1 f3 f4 f5
  refine⟨_,rfl,Mx (s:={s with heap:=h',toks:=tk}) (n:="range_iterator") st' rfl rfl (by decide) ⟨.int (lo+i),H,I1,⟨t,?_⟩,⟨rfl,rfl⟩,st',λb hb=>(hf b hb).1⟩⟩
  rw[Int.mul_one]
 done:=by intro X hP hw hK hc i pins s σ H E I hf st hg;subst hP hw hK;obtain⟨f0,f1,f2,f3,f4,f5⟩:=hf it (by simp);exact wpAny_pyNext_range_end (I.ok.hd hc) st (by have:n≤i:=hg;omega) λh' eb=>⟨rfl,I.turned (t':=s.toks) (λb o hb e=>eb b o hb e) f0 f1 f3 f4 f5⟩
 self:=λ_ _ _ _ _ st h=>wpAny_pyIter_rangeiter st h
section
variable{X:Cx}{tg:Expr}
def QU(K:Ao)(tl:TE):TI:=λσ H R=>tl σ H λx H1=>∃a,x= .ref a∧(∃xs,SqL K H1 a xs)∧R (Kv K a) H1
def Nr(K:Ao)(tl:TE):TI:=λσ H R=>tl σ H λx H1=>∃a,x= .ref a∧(∃xs,SqT K H1 a xs)∧R (KJ K a) H1
theorem Jh{l:Expr}{tl:TE}(hl:PE X l tl):PI X tg l (QU X.K tl):=by
 intro pins s σ H R I h;refine HN (hl pins s σ H _ I h) λv s1 ⟨x,H1,I1,r1,q1⟩=>?_;obtain⟨a,e,⟨xs,hq⟩,q⟩:=q1;subst e;cases r1;obtain⟨its,rv,p,hz⟩:=I1.list hq;refine CS p.isList ?_;refine⟨s1.heap.objs.size,[s1.heap.objs.size],_,_,H1,rfl,I1.kept (t':=s1.toks) λb o e=>Ad _ e,Yu a _,⟨_,Am _ rfl,rfl,rfl⟩,λb hb=>?_,q⟩;have e:b=s1.heap.objs.size:=by simpa using hb
 subst e;exact I1.fpOk (Ag _) (I1.hok.fresh (Ag _))
theorem Kn{l:Expr}{tl:TE}(hl:PE X l tl):PI X tg l (Nr X.K tl):=by
 intro pins s σ H R I h;refine HN (hl pins s σ H _ I h) λv s1 ⟨x,H1,I1,r1,q1⟩=>?_;obtain⟨a,e,⟨xs,hq⟩,q⟩:=q1;subst e;cases r1;obtain⟨its,rv,p,hz⟩:=I1.tuple hq;refine C6 (show s1.heap.IsTuple a its.toArray from p) ?_;refine⟨s1.heap.objs.size,[s1.heap.objs.size],_,_,H1,rfl,I1.kept (t':=s1.toks) λb o e=>Ad _ e,Yo a _,⟨_,Am _ rfl,rfl,rfl⟩,λb hb=>?_,q⟩;have e:b=s1.heap.objs.size:=by simpa using hb
 subst e;exact I1.fpOk (Ag _) (I1.hok.fresh (Ag _))
theorem S0{σ:St}{H:Hp}{R:It→Hp→Prop}{E:Value→Shared→Prop}{lo hi:Int}{t u v:Tok}{tk:Nat}(I:Inv X pins σ H s)(h1: -(2^62)≤lo)(h2:lo<2^62)(h3: -(2^62)≤hi)(h4:hi<2^62)
 (q:R (Lf lo (hi - lo).toNat) H):wpAny (model X.prog X.w) X.A (pyIter (.ref s.heap.objs.size)) (U4 X pins σ tg R) E {s with heap:=s.heap.push {cls:= .type "range",data:= .fields #[.int lo t,.int hi u,.int 1 v]},toks:=tk}:=by
 refine wpAny_pyIter_range (IsRange.new ..) (small_one h1 h2 h3 h4) ?_;have I1:Inv X pins σ H {s with heap:=s.heap.push {cls:= .type "range",data:= .fields #[.int lo t,.int hi u,.int 1 v]},toks:=tk}:=I.kept λb o e=>Ad _ e
 refine⟨(s.heap.push {cls:= .type "range",data:= .fields #[.int lo t,.int hi u,.int 1 v]}).objs.size,[(s.heap.push {cls:= .type "range",data:= .fields #[.int lo t,.int hi u,.int 1 v]}).objs.size],_,_,H,rfl,
  I1.kept (t':=tk) λb o e=>Ad _ e,Yn _ lo (hi - lo).toNat,?_,λb hb=>?_,q⟩
 · have e1:lo+((0:Nat):Int)*1=lo:=by simp
   have e2:(((hi - lo).toNat:Nat):Int) - ((0:Nat):Int)=Builtin.Range.rangeSize lo hi 1:=by rw[rangeSize_one];split<;>omega
   show IsRangeIter _ _ (lo+((0:Nat):Int)*1) ((((hi - lo).toNat:Nat):Int) - ((0:Nat):Int)) 1;rw[e1,e2];exact Am _ rfl
 · have e:b=(s.heap.push {cls:= .type "range",data:= .fields #[.int lo t,.int hi u,.int 1 v]}).objs.size:=by simpa using hb
   subst e;exact I1.fpOk (Ag _) (I1.hok.fresh (Ag _))
def UY(ta:TA):TI:=λσ H R=>ta σ H λvs H1=>∃j:Int,vs=[.int j]∧ -(2^62)≤j∧j<2^62∧R (Lf 0 j.toNat) H1
def UZ(ta:TA):TI:=λσ H R=>ta σ H λvs H1=>∃i j:Int,vs=[.int i,.int j]∧(-(2^62)≤i∧i<2^62∧ -(2^62)≤j∧j<2^62)∧R (Lf i (j - i).toNat) H1
theorem Pm{a:Expr}{ta:TA}{p:Pos}(hg:Gl X "range")(hm:X.mg "range"=none)(ha:PA X [a] ta)(hs:AD [a] X.env=[(false,eval a X.env)]:=by rfl):PI X tg (.Call (.Name "range" p) [a] [] pos) (UY ta):=by
 intro pins s σ H R I h;refine Call_ (Ky I hg hm boot_range (BK (HN (ha pos pins s σ H _ I h) λus s1 ⟨vs,H1,I1,r1,q1⟩=>?_) hs rfl));obtain⟨j,e,q1,q2,q⟩:=q1;subst e;cases r1 with
 | cons r rr=> cases rr;obtain⟨t,rfl⟩:=r;exact call_range_1 (S0 I1 (by omega) (by omega) q1 q2 (by simpa using q))
theorem Xu{a b:Expr}{ta:TA}{p pos:Pos}(hg:Gl X "range")(hm:X.mg "range"=none)(ha:PA X [a,b] ta)(hs:AD [a,b] X.env=[(false,eval a X.env),(false,eval b X.env)]:=by rfl)(hs2:AD [b] X.env=[(false,eval b X.env)]:=by rfl):
 PI X tg (.Call (.Name "range" p) [a,b] [] pos) (UZ ta):=by
 intro pins s σ H R I h;refine Call_ (Ky I hg hm boot_range (BK (HN (ha pos pins s σ H _ I h) λus s1 ⟨vs,H1,I1,r1,q1⟩=>?_) (by rw[hs,hs2]) (by rw[hs2];rfl)));obtain⟨i,j,e,⟨q1,q2,q3,q4⟩,q⟩:=q1;subst e;cases r1 with
 | cons r rr=>
  cases rr with
  | cons r' rr=> cases rr;obtain⟨t,rfl⟩:=r;obtain⟨t',rfl⟩:=r';exact call_range_2 (S0 I1 q1 q2 q3 q4 q)
def Qr(wi:TI)(g:TG)(tb:TS):TS:=λD σ H=>wi σ H λJ H1=>∃W:Nat→Nat→St→Hp→Prop,(∃m,W 0 m σ H1)∧∀i m σ H,W i m σ H→
 (J.stop i H∧D.nx σ H)∨(J.go i H∧∃N:St→Hp→Prop,(∀σ' H',N σ' H'→∃m',m'<m∧W (i+1) m' σ' H')∧∀x H',J.yld i H x H'→g x σ H' λσ2 H2=>tb {D with nx:=N,ct:=N,bk:=D.nx} σ2 H2)
def Js(fp:List Addr)(h:Heap):List (Addr×Obj):=fp.filterMap λb=>(h.get? b).map λo=>(b,o)
theorem JK{fp:List Addr}{o:Obj}(hb:b∈fp)(e:h.get? b=some o):(b,o)∈Js fp h:=D4.mpr ⟨b,hb,by rw[e];rfl⟩
theorem Pl{fp:List Addr}{p:Addr×Obj}(hp:p∈Js fp h):p.1∈fp∧h.get? p.1=some p.2:=by
 obtain⟨b,hb,e⟩:=D4.mp hp;cases q:h.get? b with
 | none=>rw[q] at e;cases e
 | some o=> rw[q] at e;have e':(b,o)=p:=Az e;subst e';exact⟨hb,q⟩
theorem Inv.pinned{σ:St}{H:Hp}{fp:List Addr}(I:Inv X pins σ H s)(hf:∀b∈fp,HS X pins H b)(ho:∀b∈fp,∃o,s.heap.get? b=some o∧∀v,o.data≠ .cell v):Inv X (pins++Js fp s.heap) σ H s:=
 I.pins_of λp hp=>(Aw.mp hp).elim (λz=>I.pin p (An _ z)) λz=>by obtain⟨hb,e⟩:=Pl z;obtain⟨f0,f1,f2,_⟩:=hf p.1 hb;obtain⟨o,e',d⟩:=ho p.1 hb;rw[e] at e';cases e';exact⟨e,f0,f1,f2,d⟩
theorem Inv.unpinned{pl:List (Addr×Obj)}{σ:St}{H:Hp}(I:Inv X (pins++pl) σ H s):Inv X pins σ H s:=I.pins_of λp hp=>I.pin p (An _ (Bn _ hp))
theorem JC{iter:Expr}{body:List Stmt}{wi:TI}{g:TG}{tb:TS}{pos:Pos}(hp:PassesOwn (model X.prog X.w) X.A X.env X.xe)(hc:X.calm=true)(hi:PI X tg iter wi)(hg:PG X tg g)(hb:PSs X body tb)
 (hs:∀x,A_ iter X.env x=pure x:=by intro _;rfl):PS X (.For tg iter body [] pos) (Qr wi g tb):=by
 intro pins s σ H D I h;refine wpAny_For (HN (hi pins s σ H _ I h) λv s1 h1=>HN h1 λitv s2 h2=>?_) hs;obtain⟨it,fp,tn,J,H2,e,I2,T,st2,f2,W,⟨m0,w0⟩,turn⟩:=h2;subst e;have stat:∀{H':Hp},(∀b∈fp,H' b=none)→∀b∈fp,HS X pins H' b:=λhn b hb=>⟨hn b hb,(f2 b hb).2⟩;refine codeAny_forLoop_any (λn s'=>∃i σ' H',Inv X pins σ' H' s'∧tn i s'.heap∧(∀b∈fp,H' b=none)∧W i n σ' H') ?_ m0 ⟨0,σ,H2,I2,st2,λb hb=>(f2 b hb).1,w0⟩;rintro n s3 ⟨i,σ3,H3,I3,st3,fr3,w3⟩;rcases turn i n σ3 H3 w3 with⟨stop,qn⟩ | ⟨go,N,hN,step⟩
 · refine Dx hp (HN (T.done X rfl rfl rfl hc i pins s3 σ3 H3 X.xe I3 (stat fr3) st3 stop) λr s4 ⟨hr,I4⟩=>?_);subst hr;exact Fy ⟨σ3,H3,I4,qn⟩
 · refine Dx hp (HN (T.item X rfl rfl rfl hc i pins s3 σ3 H3 X.xe I3 (stat fr3) st3 go) λr s4 ⟨u,hr,h4⟩=>?_);subst hr;refine Dx hp (HN h4 λ_ s5 ⟨x,H5,I5,r5,y5,st5,fr5⟩=>?_);have I5':=I5.pinned (stat fr5) (T.obj _ _ st5);refine Dx hp (HN (hg _ s5 σ3 H5 x u _ I5' r5 (step x H5 y5)) λ_ s6 ⟨σ6,H6,I6,q6⟩=>?_);refine Dx hp (HN (hb _ s6 σ6 H6 _ I6 q6) λf s7 q7=>?_);have again:∀{σ7:St}{H7:Hp},Inv X (pins++Js fp s5.heap) σ7 H7 s7→N σ7 H7→∃m,m<n∧∃i σ' H',Inv X pins σ' H' s7∧tn i s7.heap∧(∀b∈fp,H' b=none)∧W i m σ' H':=λ{σ7 H7}I7 n7=>by
    obtain⟨m',hm,w7⟩:=hN σ7 H7 n7;refine⟨m',hm,i+1,σ7,H7,I7.unpinned,T.keep _ _ _ st5 λb hb o e=>(I7.pin (b,o) (An _ (An _ (JK hb e)))).1,λb hb=>?_,w7⟩;obtain⟨o,e,d⟩:=T.obj _ _ st5 b hb;exact(I7.pin (b,o) (An _ (An _ (JK hb e)))).2.1
   cases f with
   | next=>obtain⟨σ7,H7,I7,n7⟩:=q7;exact again I7 n7
   | cont=>obtain⟨σ7,H7,I7,n7⟩:=q7;exact again I7 n7
   | brk=>obtain⟨σ7,H7,I7,q7⟩:=q7;exact⟨σ7,H7,I7.unpinned,q7⟩
   | ret v=>obtain⟨x7,σ7,H7,I7,r7,q7⟩:=q7;exact⟨x7,σ7,H7,I7.unpinned,r7,q7⟩
end
theorem Lv{xs:List V}{g:TG}{tb:TS}{D:Ends}{σ:St}{H:Hp}(Pv:Nat→St→Hp→Prop)(h0:Pv 0 σ H)(hl:∀i σ H,i≤xs.length→Pv i σ H→SqL K H a xs)
 (hs:∀i x σ H,xs[i]?=some x→Pv i σ H→g x σ H λσ2 H2=>tb {D with nx:=Pv (i+1),ct:=Pv (i+1),bk:=D.nx} σ2 H2) (hd:∀σ H,Pv xs.length σ H→D.nx σ H):
 ∃W:Nat→Nat→St→Hp→Prop,(∃m,W 0 m σ H)∧∀i m σ H,W i m σ H→
  ((Kv K a).stop i H∧D.nx σ H)∨((Kv K a).go i H∧∃N:St→Hp→Prop,(∀σ' H',N σ' H'→∃m',m'<m∧W (i+1) m' σ' H')∧∀x H',(Kv K a).yld i H x H'→g x σ H' λσ2 H2=>tb {D with nx:=N,ct:=N,bk:=D.nx} σ2 H2):=by
 refine⟨λi m σ H=>m=xs.length - i∧i≤xs.length∧Pv i σ H,⟨xs.length,by simp,Br _,h0⟩,?_⟩;rintro i m σ H ⟨rfl,hi,p⟩;have q:=hl i σ H hi p;by_cases hlt:i<xs.length
 · refine .inr ⟨⟨xs,xs[i],q,by simp[hlt]⟩,Pv (i+1),λσ' H' p'=>⟨xs.length - (i+1),by omega,rfl,hlt,p'⟩,λx H' y=>?_⟩;obtain⟨e,y⟩:=y;subst e;exact hs i x σ _ (y xs q) p
 · have e:i=xs.length:=by omega
   subst e;exact .inl ⟨⟨xs,q,Ag _⟩,hd σ H p⟩
theorem M8{xs:List V}{g:TG}{tb:TS}{D:Ends}{σ:St}{H:Hp}(Pv:Nat→St→Hp→Prop)(h0:Pv 0 σ H)(hl:∀i σ H,i≤xs.length→Pv i σ H→SqT K H a xs)
 (hs:∀i x σ H,xs[i]?=some x→Pv i σ H→g x σ H λσ2 H2=>tb {D with nx:=Pv (i+1),ct:=Pv (i+1),bk:=D.nx} σ2 H2) (hd:∀σ H,Pv xs.length σ H→D.nx σ H):
 ∃W:Nat→Nat→St→Hp→Prop,(∃m,W 0 m σ H)∧∀i m σ H,W i m σ H→
  ((KJ K a).stop i H∧D.nx σ H)∨((KJ K a).go i H∧∃N:St→Hp→Prop,(∀σ' H',N σ' H'→∃m',m'<m∧W (i+1) m' σ' H')∧∀x H',(KJ K a).yld i H x H'→g x σ H' λσ2 H2=>tb {D with nx:=N,ct:=N,bk:=D.nx} σ2 H2):=by
 refine⟨λi m σ H=>m=xs.length - i∧i≤xs.length∧Pv i σ H,⟨xs.length,by simp,Br _,h0⟩,?_⟩;rintro i m σ H ⟨rfl,hi,p⟩;have q:=hl i σ H hi p;by_cases hlt:i<xs.length
 · refine .inr ⟨⟨xs,xs[i],q,by simp[hlt]⟩,Pv (i+1),λσ' H' p'=>⟨xs.length - (i+1),by omega,rfl,hlt,p'⟩,λx H' y=>?_⟩;obtain⟨e,y⟩:=y;subst e;exact hs i x σ _ (y xs q) p
 · have e:i=xs.length:=by omega
   subst e;exact .inl ⟨⟨xs,q,Ag _⟩,hd σ H p⟩
theorem Td{lo:Int}{n:Nat}{g:TG}{tb:TS}{D:Ends}{σ:St}{H:Hp}(Pv:Nat→St→Hp→Prop)(h0:Pv 0 σ H)
 (hs:∀i σ H,i<n→Pv i σ H→g (.int (lo+i)) σ H λσ2 H2=>tb {D with nx:=Pv (i+1),ct:=Pv (i+1),bk:=D.nx} σ2 H2) (hd:∀σ H,Pv n σ H→D.nx σ H):
 ∃W:Nat→Nat→St→Hp→Prop,(∃m,W 0 m σ H)∧∀i m σ H,W i m σ H→
  ((Lf lo n).stop i H∧D.nx σ H)∨((Lf lo n).go i H∧∃N:St→Hp→Prop,(∀σ' H',N σ' H'→∃m',m'<m∧W (i+1) m' σ' H')∧∀x H',(Lf lo n).yld i H x H'→g x σ H' λσ2 H2=>tb {D with nx:=N,ct:=N,bk:=D.nx} σ2 H2):=by
 refine⟨λi m σ H=>m=n - i∧i≤n∧Pv i σ H,⟨n,by simp,Br _,h0⟩,?_⟩;rintro i m σ H ⟨rfl,hi,p⟩;by_cases hlt:i<n
 · refine .inr ⟨hlt,Pv (i+1),λσ' H' p'=>⟨n - (i+1),by omega,rfl,hlt,p'⟩,λx H' y=>?_⟩;obtain⟨e,y⟩:=y;subst e y;exact hs i σ _ hlt p
 · have e:i=n:=by omega
   subst e;exact .inl ⟨Ag _,hd σ H p⟩
abbrev R2:=V→V→Hp→VK→Prop
def IL(X:Cx)(f:Value→Value→Sem Value)(r:R2):Prop:=
 ∀(pins:List (Addr×Obj))(s:Shared)(σ:St)(H:Hp)(x y:V)(v u:Value)(Q:VK),Inv X pins σ H s→RelV x v→RelV y u→r x y H Q→
  wpAny (model X.prog X.w) X.A (f v u) (EP X pins σ Q) X.xe s
def J5(X:Cx)(f:Value)(r:List V→Hp→VK→Prop):Prop:=
 ∀(pins:List (Addr×Obj))(s:Shared)(σ:St)(H:Hp)(xs:List V)(us:List Value)(Q:VK),Inv X pins σ H s→Vals xs us→r xs H Q→
  wpAny (model X.prog X.w) X.A (call f us) (EP X pins σ Q) X.xe s
def Ov(r:R2)(ta tb:TE):TE:=λσ H Q=>ta σ H λx H1=>tb σ H1 λy H2=>r x y H2 Q
def rI(C:Int→Int→Prop)(g:Int→Int→V):R2:=λx y H Q=>∃i j,x= .int i∧y= .int j∧C i j∧Q (g i j) H
def L0(g:Int→Int→V):R2:=λx y H Q=>∃i j,x= .int i∧y= .int j∧Q (g i j) H
section
variable{X:Cx}{a b c:Expr}{ta tb tc:TE}
theorem LR(ha:PE X a ta)(hb:PE X b tb){σ:St}{H:Hp}{R:V→V→Hp→Prop}(I:Inv X pins σ H s)
 (h:ta σ H λx H1=>tb σ H1 λy H2=>R x y H2) {Q:Value→Shared→Prop} {f:Value→Value→Sem Value}
 (hf:∀v u s2 x y H2,Inv X pins σ H2 s2→RelV x v→RelV y u→R x y H2→wpAny (model X.prog X.w) X.A (f v u) Q X.xe s2):
 wpAny (model X.prog X.w) X.A (eval a X.env) (λv s₁=>wpAny (model X.prog X.w) X.A (eval b X.env) (λu s₂=>wpAny (model X.prog X.w) X.A (f v u) Q X.xe s₂) X.xe s₁) X.xe s:=by
 refine HN (ha pins s σ H _ I h) λv s1 ⟨x,H1,I1,r1,q1⟩=>?_;refine HN (hb pins s1 σ H1 _ I1 q1) λu s2 ⟨y,H2,I2,r2,q2⟩=>?_;exact hf v u s2 x y H2 I2 r1 r2 q2
theorem Ia{op:Operator}{r:R2}(ho:IL X (binaryOp op) r)(ha:PE X a ta)(hb:PE X b tb):PE X (.BinOp a op b pos) (Ov r ta tb):=by intro pins s σ H Q I h;exact wpAny_BinOp (LR ha hb I h λv u s2 x y H2 I2 rx ry q=>ho pins s2 σ H2 x y v u Q I2 rx ry q)
theorem Na{f:Value→Value→Sem Value}{C:Int→Int→Prop}{g:Int→Int→Int}
 (rule:∀(i j:Int)(t u:Tok)(s:Shared)(Q:Value→Shared→Prop)(E:Value→Shared→Prop),C i j→Q (.int (g i j) s.toks) {s with toks:=s.toks+1}→wpAny (model X.prog X.w) X.A (f (.int i t) (.int j u)) Q E s):
 IL X f (rI C λi j=> .int (g i j)):=by
 intro pins s σ H x y v u Q I rx ry h;obtain⟨i,j,rfl,rfl,hc,q⟩:=h;obtain⟨t,rfl⟩:=rx;obtain⟨t',rfl⟩:=ry;exact rule i j t t' s _ _ hc ⟨.int (g i j),H,I.tok _,⟨_,rfl⟩,q⟩
theorem M_{f:Value→Value→Sem Value}{g:Int→Int→Int}
 (rule:∀(i j:Int)(t u:Tok)(s:Shared)(Q:Value→Shared→Prop)(E:Value→Shared→Prop),Q (.int (g i j) s.toks) {s with toks:=s.toks+1}→wpAny (model X.prog X.w) X.A (f (.int i t) (.int j u)) Q E s):
 IL X f (L0 λi j=> .int (g i j)):=by
 intro pins s σ H x y v u Q I rx ry h;obtain⟨i,j,rfl,rfl,q⟩:=h;obtain⟨t,rfl⟩:=rx;obtain⟨t',rfl⟩:=ry;exact rule i j t t' s _ _ ⟨.int (g i j),H,I.tok _,⟨_,rfl⟩,q⟩
theorem KZ{f:Value→Value→Sem Value}{g:Int→Int→Bool}
 (rule:∀(i j:Int)(t u:Tok)(s:Shared)(Q:Value→Shared→Prop)(E:Value→Shared→Prop),Q (.bool (g i j)) s→wpAny (model X.prog X.w) X.A (f (.int i t) (.int j u)) Q E s):
 IL X f (L0 λi j=> .bl (g i j)):=by
 intro pins s σ H x y v u Q I rx ry h;obtain⟨i,j,rfl,rfl,q⟩:=h;obtain⟨t,rfl⟩:=rx;obtain⟨t',rfl⟩:=ry;exact rule i j t t' s _ _ ⟨.bl (g i j),H,I,rfl,q⟩
def CMul(i j:Int):Prop:=(-(2^64)<i∧i<2^64)∨(-(2^64)<j∧j<2^64)
theorem CMul.ok{i j:Int}(h:CMul i j):IntMulOk i j:=by
 rcases h with⟨h1,h2⟩ | ⟨h1,h2⟩
 · exact .of_left (intBits_le_64 h1 h2)
 · exact .of_right (intBits_le_64 h1 h2)
theorem Jf:IL X (binaryOp .Add) (L0 λi j=> .int (i+j)):=M_ λ_ _ _ _ _ _ _ q=>add_int q
theorem KB:IL X (binaryOp .Sub) (L0 λi j=> .int (i - j)):=M_ λ_ _ _ _ _ _ _ q=>sub_int q
theorem Kz:IL X (binaryOp .Mult) (rI CMul λi j=> .int (i*j)):=Na λ_ _ _ _ _ _ _ hc q=>mul_int q hc.ok
theorem KU:IL X (binaryOp .Mod) (rI (λ_ j=>0<j) λi j=> .int (i%j)):=Na λi j _ _ _ _ _ hc q=>by have h1:(0:Int)<j:=hc;exact mod_int' (by omega) (by rw[Int.fmod_eq_emod_of_nonneg i (by omega)];exact q)
end
def MV:V→V→Bool
 | .non,.non=>true | .non,.int _=>true | .int _,.non=>true | .non,.bl _=>true | .bl _,.non=>true | .non,.str _=>true | .str _,.non=>true
 | .int _,.int _=>true | .bl _,.bl _=>true | .str _,.str _=>true | .byt _,.byt _=>true
 | .int _,.str _=>true | .str _,.int _=>true | .bl _,.str _=>true | .str _,.bl _=>true
 | _,_=>false
def rEq:R2:=λx y H Q=>MV x y=true∧Q (.bl (decide (x=y))) H
def rNe:R2:=λx y H Q=>MV x y=true∧Q (.bl (!decide (x=y))) H
theorem RE{i j:Int}:decide (V.int i=V.int j)=(i==j):=by rw[Bt];simp
theorem Ru{i j:Bool}:decide (V.bl i=V.bl j)=(i==j):=by rw[Bt];simp
theorem RF{i j:Str}:decide (V.str i=V.str j)=(i==j):=by rw[Bt];simp
theorem RD{i j:Array UInt8}:decide (V.byt i=V.byt j)=(i.toList==j.toList):=by rw[Bt];cases i;cases j;simp
section
variable{X:Cx}{a b c:Expr}{ta tb tc:TE}
theorem IR{σ:St}{H:Hp}{Q:VK}{k k':Bool}(I:Inv X pins σ H s)(q:Q (.bl k) H)(e:k=k'):EP X pins σ Q (.bool k') s:=by subst e;exact⟨.bl k,H,I,rfl,q⟩
theorem Kb:IL X (By .Eq) rEq:=by
 intro pins s σ H x y v u Q I rx ry h;obtain⟨hs,q⟩:=h;cases x with
 | non=>
  cases rx;cases y with
  | non=>cases ry;exact PySem.EqNone.eq_none_none (IR I q (by simp))
  | bl j=>cases ry;exact PySem.EqNone.eq_none_bool (IR I q (by simp))
  | int j=>obtain⟨t',rfl⟩:=ry;exact PySem.EqNone.eq_none_int (IR I q (by simp))
  | str j=>obtain⟨t',rfl⟩:=ry;exact PySem.EqNone.eq_none_str (IR I q (by simp))
  | _=>exact absurd (show false=true from hs) As
 | bl i=>
  cases rx;cases y with
  | non=>cases ry;exact PySem.EqNone.eq_bool_none (IR I q (by simp))
  | bl j=>cases ry;exact eq_bool (IR I q Ru)
  | str j=>obtain⟨t',rfl⟩:=ry;exact PySem.EqMixed.eq_bool_str (IR I q (by simp))
  | _=>exact absurd (show false=true from hs) As
 | int i=>
  obtain⟨t,rfl⟩:=rx;cases y with
  | non=>cases ry;exact PySem.EqNone.eq_int_none (IR I q (by simp))
  | int j=>obtain⟨t',rfl⟩:=ry;exact eq_int (IR I q RE)
  | str j=>obtain⟨t',rfl⟩:=ry;exact PySem.EqMixed.eq_int_str (IR I q (by simp))
  | _=>exact absurd (show false=true from hs) As
 | str i=>
  obtain⟨t,rfl⟩:=rx;cases y with
  | non=>cases ry;exact PySem.EqNone.eq_str_none (IR I q (by simp))
  | bl j=>cases ry;exact PySem.EqMixed.eq_str_bool (IR I q (by simp))
  | int j=>obtain⟨t',rfl⟩:=ry;exact PySem.EqMixed.eq_str_int (IR I q (by simp))
  | str j=>obtain⟨t',rfl⟩:=ry;exact eq_str (IR I q RF)
  | _=>exact absurd (show false=true from hs) As
 | byt i=>
  obtain⟨t,rfl⟩:=rx;cases y with
  | byt j=>obtain⟨t',rfl⟩:=ry;exact PySem.W.eq_bytes (IR I q RD)
  | _=>exact absurd (show false=true from hs) As
 | _=>cases y<;>exact absurd (show false=true from hs) As
theorem NF:IL X (By .NotEq) rNe:=by
 intro pins s σ H x y v u Q I rx ry h;obtain⟨hs,q⟩:=h;cases x with
 | non=>
  cases rx;cases y with
  | non=>cases ry;exact PySem.EqNone.ne_none_none (IR I q (by simp))
  | bl j=>cases ry;exact PySem.EqNone.ne_none_bool (IR I q (by simp))
  | int j=>obtain⟨t',rfl⟩:=ry;exact PySem.EqNone.ne_none_int (IR I q (by simp))
  | str j=>obtain⟨t',rfl⟩:=ry;exact PySem.EqNone.ne_none_str (IR I q (by simp))
  | _=>exact absurd (show false=true from hs) As
 | bl i=>
  cases rx;cases y with
  | non=>cases ry;exact PySem.EqNone.ne_bool_none (IR I q (by simp))
  | bl j=>cases ry;exact ne_bool (IR I q (congrArg not Ru))
  | str j=>obtain⟨t',rfl⟩:=ry;exact PySem.EqMixed.ne_bool_str (IR I q (by simp))
  | _=>exact absurd (show false=true from hs) As
 | int i=>
  obtain⟨t,rfl⟩:=rx;cases y with
  | non=>cases ry;exact PySem.EqNone.ne_int_none (IR I q (by simp))
  | int j=>obtain⟨t',rfl⟩:=ry;exact ne_int (IR I q (congrArg not RE))
  | str j=>obtain⟨t',rfl⟩:=ry;exact PySem.EqMixed.ne_int_str (IR I q (by simp))
  | _=>exact absurd (show false=true from hs) As
 | str i=>
  obtain⟨t,rfl⟩:=rx;cases y with
  | non=>cases ry;exact PySem.EqNone.ne_str_none (IR I q (by simp))
  | bl j=>cases ry;exact PySem.EqMixed.ne_str_bool (IR I q (by simp))
  | int j=>obtain⟨t',rfl⟩:=ry;exact PySem.EqMixed.ne_str_int (IR I q (by simp))
  | str j=>obtain⟨t',rfl⟩:=ry;exact ne_str (IR I q (congrArg not RF))
  | _=>exact absurd (show false=true from hs) As
 | byt i=>
  obtain⟨t,rfl⟩:=rx;cases y with
  | byt j=>obtain⟨t',rfl⟩:=ry;exact PySem.W.ne_bytes (IR I q (congrArg not RD))
  | _=>exact absurd (show false=true from hs) As
 | _=>cases y<;>exact absurd (show false=true from hs) As
theorem LY:IL X (By .Lt) (L0 λi j=> .bl (decide (i<j))):=KZ λ_ _ _ _ _ _ _ q=>lt_int q
theorem O3:IL X (By .LtE) (L0 λi j=> .bl (decide (i≤j))):=KZ λ_ _ _ _ _ _ _ q=>le_int q
theorem KM:IL X (By .Gt) (L0 λi j=> .bl (decide (j<i))):=KZ λ_ _ _ _ _ _ _ q=>gt_int q
theorem Va:IL X (By .GtE) (L0 λi j=> .bl (decide (j≤i))):=KZ λ_ _ _ _ _ _ _ q=>ge_int q
theorem TJ:IL X (By .Lt) (λx y H Q=>∃i j,x= .str i∧y= .str j∧Q (.bl (decide (i.cps.toList<j.cps.toList))) H):=by intro pins s σ H x y v u Q I rx ry h;obtain⟨i,j,rfl,rfl,q⟩:=h;obtain⟨t,rfl⟩:=rx;obtain⟨t',rfl⟩:=ry;exact lt_str (IR I q rfl)
theorem I0(b:Expr){op:CmpOp}(h:op≠ .In:=by decide)(h2:op≠ .NotIn:=by decide):behindInMarks op b=false:=by
 have e1:(op==CmpOp.In)=false:=by cases op<;>first | rfl | exact absurd rfl h
 have e2:(op==CmpOp.NotIn)=false:=by cases op<;>first | rfl | exact absurd rfl h2
 cases b<;>simp[behindInMarks,e1,e2]
theorem Mh{op:CmpOp}{r:R2}(ho:IL X (By op) r)(ha:PE X a ta)(hb:PE X b tb)(hm:behindInMarks op b=false):PE X (.Compare a [op] [b] pos) (Ov r ta tb):=by intro pins s σ H Q I h;exact wpAny_Compare1 (LR ha hb I h λv u s2 x y H2 I2 rx ry q=>ho pins s2 σ H2 x y v u Q I2 rx ry q) hm
def Rg(t:TE):TT:=λσ H Q=>t σ H λx H'=>∃k,x= .bl k∧Q k H'
theorem IA{op:CmpOp}{r:R2}(ho:IL X (By op) r)(ha:PE X a ta)(hb:PE X b tb)(hm:behindInMarks op b=false):PT X (.Compare a [op] [b] pos) (Rg (Ov r ta tb)):=by intro pins s σ H Q I h;refine wpAny_isTrue_Compare1 (HN (ha pins s σ H _ I h) λv s1 ⟨x,H1,I1,r1,q1⟩=>HN (hb pins s1 σ H1 _ I1 q1) λu s2 ⟨y,H2,I2,r2,q2⟩=> HN (ho pins s2 σ H2 x y v u _ I2 r1 r2 q2) λc s3 ⟨z,H3,I3,r3,k,e,q3⟩=>?_) hm;subst e;cases r3;exact Bu ⟨H3,I3,q3⟩
def Ro(r r':R2)(ta tb tc:TE):TE:=λσ H Q=>ta σ H λx H1=>tb σ H1 λy H2=>r x y H2 λz H3=>∃k,z= .bl k∧
 (if k=true then tc σ H3 λw' H4=>r' y w' H4 Q else Q (.bl false) H3)
theorem WW{op op':CmpOp}{r r':R2}(ho:IL X (By op) r)(ho':IL X (By op') r')(ha:PE X a ta)(hb:PE X b tb)(hc:PE X c tc)
 (hm:lastMarks [op,op'] [b,c]=false:=by with_unfolding_all rfl):PE X (.Compare a [op,op'] [b,c] pos) (Ro r r' ta tb tc):=by
 intro pins s σ H Q I h;refine Compare_chain (HN (ha pins s σ H _ I h) λv s1 ⟨x,H1,I1,r1,q1⟩=>chain_link (HN (hb pins s1 σ H1 _ I1 q1) λu s2 ⟨y,H2,I2,r2,q2⟩=> HN (ho pins s2 σ H2 x y v u _ I2 r1 r2 q2) λd s3 ⟨z,H3,I3,r3,k,e,q3⟩=>?_)) hm;subst e;cases r3;refine Bu ?_;cases k with
 | false=>exact ite_ff ⟨.bl false,H3,I3,rfl,q3⟩
 | true=>exact ite_tt (chain_last (HN (hc pins s3 σ H3 _ I3 q3) λw' s4 ⟨z',H4,I4,r4,q4⟩=>ho' pins s4 σ H4 y z' u w' Q I4 r2 r4 q4))
theorem W_{op op':CmpOp}{r r':R2}(ho:IL X (By op) r)(ho':IL X (By op') r')(ha:PE X a ta)(hb:PE X b tb)(hc:PE X c tc)
 (hm:lastMarks [op,op'] [b,c]=false:=by with_unfolding_all rfl):PT X (.Compare a [op,op'] [b,c] pos) (Rg (Ro r r' ta tb tc)):=by
 intro pins s σ H Q I h;refine isTrue_chain (HN (ha pins s σ H _ I h) λv s1 ⟨x,H1,I1,r1,q1⟩=>test_link (HN (hb pins s1 σ H1 _ I1 q1) λu s2 ⟨y,H2,I2,r2,q2⟩=> HN (ho pins s2 σ H2 x y v u _ I2 r1 r2 q2) λd s3 ⟨z,H3,I3,r3,k,e,q3⟩=>?_)) hm;subst e;cases r3;refine Bu ?_;cases k with
 | false=> obtain⟨k',e',q'⟩:=q3;cases e';exact ite_ff ⟨H3,I3,q'⟩
 | true=> refine ite_tt (test_last (HN (hc pins s3 σ H3 _ I3 q3) λw' s4 ⟨z',H4,I4,r4,q4⟩=>HN (ho' pins s4 σ H4 y z' u w' _ I4 r2 r4 q4) λd' s5 ⟨z2,H5,I5,r5,k2,e2,q5⟩=>?_));subst e2;cases r5;exact Bu ⟨H5,I5,q5⟩
theorem Md:(Au:Nat)<2^63:=by rw[sizeLine_eq];decide
theorem Ob:IL X (binaryOp .Add) (λx y H Q=>∃i j,x= .str i∧y= .str j∧i.length+j.length≤Au∧Q (.str (i++j)) H):=by intro pins s σ H x y v u Q I rx ry h;obtain⟨i,j,rfl,rfl,hz,q⟩:=h;obtain⟨t,rfl⟩:=rx;obtain⟨t',rfl⟩:=ry;exact add_str (λt' tk=>⟨.str (i++j),H,I.tok _,⟨_,rfl⟩,q⟩) hz
theorem J6{x:V}(r:Vals [x] us):∃u,us=[u]∧RelV x u:=by
 cases r with
 | cons r1 r2=>cases r2;exact⟨_,rfl,r1⟩
theorem LZ{x y:V}(r:Vals [x,y] us):∃u w',us=[u,w']∧RelV x u∧RelV y w':=by
 cases r with
 | cons r1 r2=>
  cases r2 with
  | cons r3 r4=>cases r4;exact⟨_,_,rfl,r1,r3⟩
theorem Pf:J5 X (.builtin "abs") (λxs H Q=>∃i,xs=[.int i]∧Q (.int (if i<0 then -i else i)) H):=by intro pins s σ H xs us Q I r h;obtain⟨i,rfl,q⟩:=h;obtain⟨u,rfl,t,rfl⟩:=J6 r;exact call_abs_int λu tk=>⟨.int (if i<0 then -i else i),H,I.tok _,⟨_,rfl⟩,q⟩
theorem WF(hc:X.calm=true):J5 X (.builtin "max") (λxs H Q=>∃i j,xs=[.int i,.int j]∧Q (.int (if j>i then j else i)) H):=by
 intro pins s σ H xs us Q I r h;obtain⟨i,j,rfl,q⟩:=h;obtain⟨u,w',rfl,⟨t,rfl⟩,⟨t',rfl⟩⟩:=LZ r;refine max_two_ints (I.ok.hd hc) λh' tk k=>⟨_,H,I.kept k,?_,q⟩;by_cases hj:j>i
 · rw[if_pos hj,if_pos hj];exact⟨_,rfl⟩
 · rw[if_neg hj,if_neg hj];exact⟨_,rfl⟩
theorem WH(hc:X.calm=true):J5 X (.builtin "min") (λxs H Q=>∃i j,xs=[.int i,.int j]∧Q (.int (if j<i then j else i)) H):=by
 intro pins s σ H xs us Q I r h;obtain⟨i,j,rfl,q⟩:=h;obtain⟨u,w',rfl,⟨t,rfl⟩,⟨t',rfl⟩⟩:=LZ r;refine min_two_ints (I.ok.hd hc) λh' tk k=>⟨_,H,I.kept k,?_,q⟩;by_cases hj:j<i
 · rw[if_pos hj,if_pos hj];exact⟨_,rfl⟩
 · rw[if_neg hj,if_neg hj];exact⟨_,rfl⟩
end
structure ObjM(h:Heap)(x dx C:Addr)(mA:Str→Option Value):Prop where
 obj:h.get? x=some (Fx C dx)
 ns:h.Ns1 dx mA
 ne:dx≠x
theorem XB{dx:Addr}{mA:Str→Option Value}(n:h.Ns1 dx mA):∃od,h.get? dx=some od∧∀name,FR name od=some (mA name):=by
 obtain⟨o,es,ep,ho,hd,hk,_,hm⟩:=n;refine⟨o,ho,λname=>?_⟩;have e:=hm name;unfold nsFind findBy at e;rw[←Array.find?_toList] at e;unfold FR;rw[hd];dsimp only
 split
 · rename_i y q;rw[q] at e;exact congrArg some e
 · rename_i q;rw[q] at e;have a:es.toList.any (·.refKey)=false:=by
    rw[List.any_eq_false];intro y hy;obtain⟨z,t,hkey⟩:=hk y (Array.mem_toList_iff.mp hy);simp[DictEntry.refKey,hkey]
   have a':¬es.toList.any (·.refKey)=true:=by rw[a];exact As
   rw[if_neg a'];exact congrArg some e
theorem ObjM.look{x dx C:Addr}{mA:Str→Option Value}(I:ObjM h x dx C mA):∃od,PySem.W.InstAt h x (Fx C dx) C (some od)∧∀name,FR name od=some (mA name):=
 let⟨od,ho,hl⟩:=XB I.ns
 ⟨od,⟨I.obj,rfl,rfl,ho⟩,hl⟩
section
variable{x dx C f:Addr}{mA:Str→Option Value}{name:Str}{v:Value}
end
theorem RelO.some_of{v:V}{o:Option Value}(r:RelO (some v) o):∃u,o=some u∧RelV v u:=by
 cases o with
 | none=>exact(show False from r).elim
 | some u=>exact⟨u,rfl,r⟩
section
variable{H H':Hp}{h':Heap}{C dx:Addr}{fs fs':List (Str×V)}
theorem Vy(hok:HOk P w H h)(e:H a=some (.ins C dx fs)):∃mA,ObjM h a dx C mA∧(∀f,RelO (fs.lookup f) (mA f))∧PySem.Within mA (fs.map (·.1))∧fs.length≤1000∧H dx=some (.own a):=by obtain⟨d,z,ne,ob,mA,n,r,q⟩:=(show ObjOk P w H h a (.ins C dx fs) from hok a _ e);exact⟨mA,⟨ob,n,ne⟩,r,q,z,d⟩
end
structure Cls(K:Ao)(C:Addr):Prop where
 pg:PySem.W.plainGet K C Str.empty=true
 hd:PySem.W.hasDictIn K C=true
 po:PySem.W.plainOver K C=true
 sa:PySem.W.findIn K (.ref C) "__setattr__"=some (some (.builtin "object.__setattr__"))
theorem Cls.get{C:Addr}(c:Cls K C)(f:Str):PySem.W.plainGet K C f=true:=c.pg
section
variable{X:Cx}{σ:St}{H:Hp}{C dx:Addr}{fs:List (Str×V)}{f:Str}{v:V}
end
section
variable{X:Cx}{o value:Expr}{f:Str}{pos' tpos:Pos}{ta tv:TE}
end
section
variable{X:Cx}{σ:St}{H:Hp}{Q:Value→Shared→Prop}{c:Value}{b:Bool}
inductive TyOf(K:Ao)(H:Hp):V→Value→Prop where
 | non:TyOf K H .non (.type "NoneType")
 | bl (x:Bool):TyOf K H (.bl x) (.type "bool")
 | int (i:Int):TyOf K H (.int i) (.type "int")
 | str (x:Str):TyOf K H (.str x) (.type "str")
 | flt (x:UInt64):TyOf K H (.flt x) (.type "float")
 | lst {a:Addr} {xs:List V} (e:H a=some (.lst xs)):TyOf K H (.ref a) (.type "list")
 | frz {a:Addr} {o:Obj} {xs:List V} (e:H a=some (.frz o (.lst xs))):TyOf K H (.ref a) (.type "list")
 | tup {a:Addr} {xs:List V} (e:H a=some (.tup xs)):TyOf K H (.ref a) (.type "tuple")
 | dK {a:Addr} {kvs:List (Ic×V)} (e:H a=some (.dK kvs)):TyOf K H (.ref a) (.type "dict")
 | dT {a:Addr} {kvs:List (List Ic×V)} (e:H a=some (.dT kvs)):TyOf K H (.ref a) (.type "dict")
 | ins {a C dx:Addr} {fs:List (Str×V)} (e:H a=some (.ins C dx fs)) (cl:Cls K C) (ha:PySem.W.findIn K (.ref C) "__class__"=some (some (.builtin "object.__class__")))
  (hn:PySem.W.specialIn K (.builtin "object.__class__") "__get__"=some (some (.builtin "getset_descriptor.__get__"))) (htk:PySem.W.takesIn K (.builtin "object.__class__")=some true)
  (hm:PySem.W.mroIn K C (.type "object")=some true):TyOf K H (.ref a) (.ref C)
theorem X4{x:V}{t:Value}(I:Inv X pins σ H s)(rx:RelV x u)(ty:TyOf X.K H x t)(e:PySem.W.kitOne X.K t c=some b)(h:∀tk,Q (.bool b) {s with toks:=tk}):
 wpAny (model X.prog X.w) A (call (.builtin "isinstance") [u,c]) Q E s:=by
 cases ty with
 | non=>cases(show u=Value.none from rx);exact BX PySem.W.kitx_none I.kIn True.intro e (λz=>nomatch z) h
 | bl y=>cases(show u=Value.bool y from rx);exact BX PySem.W.kitx_bool I.kIn True.intro e (λz=>nomatch z) h
 | int i=>obtain⟨t,q⟩:=(show ∃t,u=Value.int i t from rx);cases q;exact BX PySem.W.kitx_int I.kIn True.intro e (λz=>nomatch z) h
 | str y=>obtain⟨t,q⟩:=(show ∃t,u=Value.str y t from rx);cases q;exact BX PySem.W.kitx_str I.kIn True.intro e (λz=>nomatch z) h
 | flt y=>obtain⟨t,q⟩:=(show ∃t,u=Value.float y t from rx);cases q;exact BX PySem.W.kitx_float I.kIn True.intro e (λz=>nomatch z) h
 | @lst a xs ea=> cases(show u=Value.ref a from rx);obtain⟨_,_,n,_,h1⟩:=(show ObjOk X.prog X.w H s.heap a (.lst xs) from I.hok a _ ea);exact BX PySem.W.kitx_list I.kIn ⟨_,h1,rfl⟩ e (λz=>nomatch z) h
 | @frz a ob xs ea=> cases(show u=Value.ref a from rx);obtain⟨_,_,_,n,_,h1⟩:=(show ObjOk X.prog X.w H s.heap a (.frz ob (.lst xs)) from I.hok a _ ea);exact BX PySem.W.kitx_list I.kIn ⟨_,h1,rfl⟩ e (λz=>nomatch z) h
 | @tup a xs ea=> cases(show u=Value.ref a from rx);obtain⟨_,_,_,p⟩:=(show ObjOk X.prog X.w H s.heap a (.tup xs) from I.hok a _ ea);obtain⟨o,h1,h2,_⟩:=p;exact BX PySem.W.kitx_tuple I.kIn ⟨o,h1,h2⟩ e (λz=>nomatch z) h
 | @dK a kvs ea=> cases(show u=Value.ref a from rx);obtain⟨_,_,vs,_,p⟩:=(show ObjOk X.prog X.w H s.heap a (.dK kvs) from I.hok a _ ea);obtain⟨o,es,ep,h1,h2,_⟩:=p;exact BX PySem.W.kitx_dict I.kIn ⟨o,h1,h2.1⟩ e (λz=>nomatch z) h
 | @dT a kvs ea=> cases(show u=Value.ref a from rx);obtain⟨_,_,xs,_,o,es,ep,h1,h2,_⟩:=(show ObjOk X.prog X.w H s.heap a (.dT kvs) from I.hok a _ ea);exact BX PySem.W.kitx_dict I.kIn ⟨o,h1,h2.1⟩ e (λz=>nomatch z) h
 | @ins a C dx fs ea cl ha hn htk hm=> cases(show u=Value.ref a from rx);obtain⟨mA,O,_⟩:=Vy I.hok ea;obtain⟨od,J,_⟩:=O.look;exact BX (PySem.W.kitx_own (cl.get _) cl.hd ha hn htk hm) I.kIn J e (λz=>nomatch z) h
end
structure Room(k:Nat)(A:BZ):Prop where
 hd:A.handled=none
 dp:A.depth+3*k+5<recursionLimit
 un:A.units+16*k+200<cLine
 gd:A.guards=some []
theorem Room.mono{j k:Nat}(r:Room k A)(h:j≤k):Room j A:=⟨r.hd,by have:=r.dp;omega,by have:=r.un;omega,r.gd⟩
theorem Room.deeper{k:Nat}(r:Room (k+1) A)(env:Env):Room k (A.deeper env):=
 ⟨r.hd,by have:=r.dp;show A.depth+1+3*k+5<_;omega,by have:=r.un;show A.units+3+16*k+200<_;omega,r.gd⟩
theorem Room.depth{k:Nat}(r:Room k A):A.depth<recursionLimit:=by have:=r.dp;omega
theorem Room.units{k:Nat}(r:Room k A):A.units+64<cLine:=by have:=r.un;omega
def MU:TA:=λ_ H Q=>Q [] H
def Re(ta:TE)(tr:TA):TA:=λσ H Q=>ta σ H λx H1=>tr σ H1 λxs H2=>Q (x::xs) H2
section
variable{X:Cx}{es:List Expr}{te:TE}{t:TA}
theorem HH:PA X [] MU:=λ_ _ _ _ H Q I h=>ER ⟨[],H,I,.nil,h⟩
theorem HG(ha:PE X e te)(hr:PA X es t)(hs:AD (e::es) X.env=(false,eval e X.env)::AD es X.env:=by rfl):PA X (e::es) (Re te t):=by intro pos pins s σ H Q I h;rw[hs];show wpAny _ _ (spliced ((false,eval e X.env)::backTo pos (AD es X.env))) _ _ s;refine D5 (HN (ha pins s σ H _ I h) λu s1 ⟨x,H1,I1,r1,q1⟩=>?_);exact HN (hr pos pins s1 σ H1 _ I1 q1) λus s2 ⟨xs,H2,I2,r2,q2⟩=>⟨x::xs,H2,I2,.cons r1 r2,q2⟩
def Qj(t:TA):TE:=λσ H Q=>t σ H λxs H1=>xs.length≤Au∧∀p,H1 p=none→Q (.ref p) (HI H1 p (.tup xs))
def Qn(t:TA):TE:=λσ H Q=>t σ H λxs H1=>xs.length≤Au∧∀p,H1 p=none→Q (.ref p) (HI H1 p (.lst xs))
theorem IX{x1}(h:PA X es t):PE X (.Tuple es x1 pos) (Qj t):=by intro pins s σ H Q I hq;refine wpAny_Tuple_spliced (HN (h pos pins s σ H _ I hq) λus s1 ⟨xs,H1,I1,r,z,q⟩=>⟨by rw[←r.length];exact z,?_⟩);have hf:H1 s1.heap.objs.size=none:=I1.hok.fresh (Ag _);refine⟨.ref s1.heap.objs.size,HI H1 s1.heap.objs.size (.tup xs),I1.laid (t':=s1.toks) (λb u e=>Ad _ e) (Ag _) ?_,rfl,q _ hf⟩;exact⟨z,us,r,⟨_,Am _ rfl,rfl,rfl,_,rfl⟩⟩
theorem Jc(h:PA X es t):PE X (.List es pos) (Qn t):=by intro pins s σ H Q I hq;refine wpAny_List_spliced (HN (h pos pins s σ H _ I hq) λus s1 ⟨xs,H1,I1,r,z,q⟩=>⟨by rw[←r.length];exact z,?_⟩);have hf:H1 s1.heap.objs.size=none:=I1.hok.fresh (Ag _);refine⟨.ref s1.heap.objs.size,HI H1 s1.heap.objs.size (.lst xs),I1.laid (t':=s1.toks) (λb u e=>Ad _ e) (Ag _) ?_,rfl,q _ hf⟩;exact⟨z,us,0,r,Am _ rfl⟩
end
abbrev Sp:=List V→Hp→VK→XK→Prop
abbrev K8:=List Env→Hp→Shared→XK→Value→Shared→Prop
structure Env0(P:Bv)(w:World)(K:Ao)(mg:Str→Option Value)(base:Heap)(A:BZ)(outer:List Env)(s:Shared)(H:Hp):Prop where
 frames:A.frames=some outer
 mod:Mod K mg base
 bs:∀b o,base.get? b=some o→s.heap.get? b=some o∧H b=none
 bsz:base.objs.size≤s.heap.objs.size
 funs:s.heap.FunFrames base outer
 frf:∀b∈K5 outer,H b=none
 hok:HOk P w H s.heap
 bare:AllBare s.gens
def CE(outer:List Env)(P:Bv)(w:World)(H:Hp)(s:Shared)(Q:VK)(u:Value)(s':Shared):Prop:=
 ∃v H',s'.os=s.os∧AllBare s'.gens∧Un (K5 outer) [] H H' s.heap s'.heap∧HOk P w H' s'.heap∧RelV v u∧Q v H'
def CR(CX:K8)(outer:List Env)(P:Bv)(w:World)(H:Hp)(s:Shared)(Q:VK)(E:XK)(r:Result)(s':Shared):Prop:=
 match r with
 | .ok (.ret u)=>CE outer P w H s Q u s'
 | .ok _=>False
 | .error e=>CX outer H s E e s'
structure FnOk(P:Bv)(w:World)(K:Ao)(mg:Str→Option Value)(base:Heap)(CX:K8)(k:Nat)(f:Addr)(fd:BD)(ps:List Str)(sp:Sp):Prop where
 len:∀vs H Q E,sp vs H Q E→vs.length=ps.length
 run:∀(A:BZ)(outer:List Env)(s:Shared)(H:Hp)(args:Args)(us:List Value)(vs:List V)(Q:VK)(E:XK),Room k A→Env0 P w K mg base A outer s H→BindsTo s fd args (ps.zip us)→Vals vs us→sp vs H Q E→
  codeAny (model P w) A (.call (.ref f) args) (CR CX outer P w H s Q E) s
section
variable{X:Cx}{σ:St}{H:Hp}{s':Shared}
theorem Inv.env0(I:Inv X pins σ H s):Env0 X.prog X.w X.K X.mg X.base X.A X.stack s H:=
 ⟨I.ok.frames,I.ok.mod,I.bs,AL I.ok.bsz I.sz,I.stack,I.stkFree,I.hok,I.bare⟩
theorem Inv.after{Q:VK}(I:Inv X pins σ H s)(h:CE X.stack X.prog X.w H s Q u s'):EP X pins σ Q u s':=by obtain⟨v,H',os,bare,un,hok,r,q⟩:=h;obtain⟨hh,g,d,t,os'⟩:=s';obtain rfl:os'=s.os:=os;exact⟨v,H',I.call (h':=hh) (g':=g) (d':=d) (t':=t) (ch:=[]) un hok bare (λb z=>absurd z (by simp)),r,q⟩
end
def NE(sp:Sp)(dvs:List V)(E:XK)(t:TA):TE:=λσ H Q=>t σ H λvs H1=>sp (vs++dvs) H1 Q E
def Binds(K:Ao)(fd:BD)(ps:List Str)(ds:List Value):Prop:=
 ∀(s:Shared)(us:List Value),K.In s.heap→(us++ds).length=ps.length→BindsTo s fd ⟨us,[]⟩ (ps.zip (us++ds))
theorem Binds.all{fd:BD}{ps:List Str}(h:∀us:List Value,us.length=ps.length→bindArgs fd ⟨us,[]⟩=pure (ps.zip us)):Binds K fd ps []:=λs us _ hl=>by rw[BY] at hl ⊢;exact .of_eq (h us hl)
def M0(CX:K8)(X:Cx)(E:XK):Prop:=∀(pins:List (Addr×Obj))(σ:St)(H:Hp)(s:Shared)(e:Value)(s':Shared),Inv X pins σ H s→CX X.stack H s E e s'→X.xe e s'
section
variable{X:Cx}{CX:K8}{k:Nat}{f C:Addr}{fd:BD}{ps:List Str}{sp:Sp}{dvs:List V}{ds:List Value}{E:XK}{x m:Str}{p apos:Pos}{o:Expr}{es:List Expr}{ta:TE}{t:TA}
theorem VG{pins:List (Addr×Obj)}{σ:St}{H:Hp}{s:Shared}{Q:VK}{us:List Value}{vs:List V}(F:FnOk X.prog X.w X.K X.mg X.base CX k f fd ps sp)(hr:Room k X.A)(hb:Binds X.K fd ps ds)(hd:Vals dvs ds)(hx:M0 CX X E)
 (I:Inv X pins σ H s) (r:Vals vs us) (h:sp (vs++dvs) H Q E):wpAny (model X.prog X.w) X.A (call (.ref f) us) (EP X pins σ Q) X.xe s:=by
 have r2:Vals (vs++dvs) (us++ds):=r.append hd;have hl:(us++ds).length=ps.length:=by rw[←r2.length];exact F.len _ _ _ _ h
 refine Eb (Ce (F.run X.A X.stack s H ⟨us,[]⟩ (us++ds) (vs++dvs) Q E hr I.env0 (hb s us I.kIn hl) r2 h) λr s' hq=>?_);cases r with
 | error e=>exact hx pins σ H s e s' I hq
 | ok fl=>
  cases fl with
  | ret u=>exact I.after hq
  | next=>exact C4 hq
  | brk=>exact C4 hq
  | cont=>exact C4 hq
theorem OS(F:FnOk X.prog X.w X.K X.mg X.base CX k f fd ps sp)(hr:Room k X.A)(hg:Gl X x)(hm:X.mg x=some (.ref f))(hk:CI X.K (.ref f)=true)(hb:Binds X.K fd ps ds)(hd:Vals dvs ds)(hx:M0 CX X E)
 (ha:PA X (e::es) t) (hdb:(x==("__debug__":Str))=false:=by decide) (he:AD (e::es) X.env=(false,eval e X.env)::AD es X.env:=by rfl) (hpl:(backTo pos (AD es X.env)).any (·.1)=false:=by rfl):
 PE X (.Call (.Name x p) (e::es) [] pos) (NE sp dvs E t):=by
 intro pins s σ H Q I h;refine BQ (ON I hg hm ?_ hdb);refine PySem.W.callWith_K (h₀:=X.base) I.ok.mod.kin hk (HN (ha pos pins s σ H _ I h) λus s1 ⟨vs,H1,I1,r,q⟩=>⟨I1.kIn,?_⟩) he hpl;exact VG F hr hb hd hx I1 r q
end
def PK(X:Cx)(kws:List Keyword)(t:TA):Prop:=
 ∀(pos:Pos)(pins:List (Addr×Obj))(s:Shared)(σ:St)(H:Hp)(Q:List V→Hp→Prop),Inv X pins σ H s→t σ H Q→wpAny (model X.prog X.w) X.A (evalAll ((backToKw pos (keywordEach kws X.env)).map (·.2))) (AP X pins σ Q) X.xe s
section
variable{X:Cx}{CX:K8}{k:Nat}{f C:Addr}{fd:BD}{ps ks:List Str}{sp:Sp}{E:XK}{x m:Str}{p apos kpos:Pos}{o:Expr}{es:List Expr}{kws:List Keyword}{te ta:TE}{t tk:TA}{nm:Option Str}
theorem OH:PK X [] MU:=λ_ _ _ _ H Q I h=>wpAny_evalAll_nil ⟨[],H,I,.nil,h⟩
theorem OT(ha:PE X e te)(hr:PK X kws t):PK X (⟨nm,e,kpos⟩::kws) (Re te t):=by
 intro pos pins s σ H Q I h;show wpAny _ _ (evalAll ((do let v ←eval e X.env;standAt pos;pure v)::(backToKw pos (keywordEach kws X.env)).map (·.2))) _ _ s
 refine wpAny_evalAll_cons (Aa (HN (ha pins s σ H _ I h) λu s1 ⟨x,H1,I1,r1,q1⟩=>Aa (Bp (Ac ?_))));exact HN (hr pos pins s1 σ H1 _ I1 q1) λus s2 ⟨xs,H2,I2,r2,q2⟩=>⟨x::xs,H2,I2,.cons r1 r2,q2⟩
structure KBinds(K:Ao)(fd:BD)(ps ks:List Str)(g:List Value→List Value→List Value)(gV:List V→List V→List V):Prop where
 to:∀(s:Shared)(us ws:List Value),K.In s.heap→(g us ws).length=ps.length→BindsTo s fd ⟨us,ks.zip ws⟩ (ps.zip (g us ws))
 rel:∀{vs:List V}{us:List Value}{zs:List V}{ws:List Value},Vals vs us→Vals zs ws→Vals (gV vs zs) (g us ws)
def Rn(sp:Sp)(gV:List V→List V→List V)(E:XK)(t tk:TA):TE:=λσ H Q=>t σ H λvs H1=>tk σ H1 λzs H2=>sp (gV vs zs) H2 Q E
variable{g:List Value→List Value→List Value}{gV:List V→List V→List V}
theorem W7{pins:List (Addr×Obj)}{σ:St}{H:Hp}{s:Shared}{Q:VK}{us ws:List Value}{vs zs:List V}(F:FnOk X.prog X.w X.K X.mg X.base CX k f fd ps sp)(hr:Room k X.A)(hb:KBinds X.K fd ps ks g gV)(hx:M0 CX X E)
 (I:Inv X pins σ H s) (r:Vals vs us) (rz:Vals zs ws) (h:sp (gV vs zs) H Q E):wpAny (model X.prog X.w) X.A (call (.ref f) us (ks.zip ws)) (EP X pins σ Q) X.xe s:=by
 have r2:=hb.rel r rz;have hl:(g us ws).length=ps.length:=by rw[←r2.length];exact F.len _ _ _ _ h
 refine Eb (Ce (F.run X.A X.stack s H ⟨us,ks.zip ws⟩ (g us ws) (gV vs zs) Q E hr I.env0 (hb.to s us ws I.kIn hl) r2 h) λr s' hq=>?_);cases r with
 | error e=>exact hx pins σ H s e s' I hq
 | ok fl=>
  cases fl with
  | ret u=>exact I.after hq
  | next=>exact C4 hq
  | brk=>exact C4 hq
  | cont=>exact C4 hq
theorem WV(F:FnOk X.prog X.w X.K X.mg X.base CX k f fd ps sp)(hr:Room k X.A)(hg:Gl X x)(hm:X.mg x=some (.ref f))(hk:CI X.K (.ref f)=true)(hb:KBinds X.K fd ps ks g gV)(hx:M0 CX X E)
 (ha:PA X (e::es) t) (hkw:PK X kws tk) (hall:(backToKw pos (keywordEach kws X.env)).all (·.1.isSome)=true:=by rfl) (hks:(backToKw pos (keywordEach kws X.env)).filterMap (·.1)=ks:=by rfl)
 (hdb:(x==("__debug__":Str))=false:=by decide) (he:AD (e::es) X.env=(false,eval e X.env)::AD es X.env:=by rfl)
 (hpl:((backTo pos (AD (e::es) X.env)).any (·.1) || (backToKw pos (keywordEach kws X.env)).any (·.1.isNone))=false:=by rfl):
 PE X (.Call (.Name x p) (e::es) kws pos) (Rn sp gV E t tk):=by
 intro pins s σ H Q I h;refine BQ (ON I hg hm ?_ hdb);refine PySem.W.callWith_KW (h₀:=X.base) I.ok.mod.kin hk hall (HN (ha pos pins s σ H _ I h) λus s1 ⟨vs,H1,I1,r,q⟩=>?_) hpl he;refine HN (hkw pos pins s1 σ H1 _ I1 q) λws s2 ⟨zs,H2,I2,rz,q2⟩=>⟨I2.kIn,?_⟩;rw[hks];exact W7 F hr hb hx I2 r rz q2
end
structure FnScope(N P:List Str)(sc:Scope):Prop where
 kind:sc.kind= .function
 co:sc.isCoroutine=false
 gen:sc.isGenerator=false
 nd:N.Nodup
 pre:N.take P.length=P
 par:∀x∈P,sc.names.lookup x=some .local∨sc.names.lookup x=some .cell
 nofree:∀y∈sc.names,y.2≠ .free
theorem SY{kindOf:Str→Option NameKind}{x:Str}:∀{binds:List (Str×Value)}{m:Str→Option Value},(∀v,(x,v) ∉ binds)→bindL kindOf binds m x=m x
 | [],_,_=>rfl
 | (n,v)::r,m,h=>by
  unfold bindL;rw[SY λw hw=>h w (AB _ hw)]
  split
  · have:x≠n:=by rintro rfl;exact h v AA
    simp[this]
  · rfl
theorem To{kindOf:Str→Option NameKind}{x:Str}:∀{binds:List (Str×Value)}{m:Str→Option Value},(∀v,(x,v) ∉ binds)→bindC kindOf binds m x=m x
 | [],_,_=>rfl
 | (n,v)::r,m,h=>by
  unfold bindC;rw[To λw hw=>h w (AB _ hw)]
  split
  · rfl
  · have:x≠n:=by rintro rfl;exact h v AA
    simp[this]
theorem Tp{kindOf:Str→Option NameKind}{x:Str}{v:Value}:∀{P:List Str}{vs:List Value}{i:Nat}{m:Str→Option Value},P.Nodup→P[i]?=some x→vs[i]?=some v→kindOf x=some .local→
 bindL kindOf (P.zip vs) m x=some v
 | [],_,_,_,_,h,_,_=>by simp at h
 | _::_,[],_,_,_,_,h,_=>by simp at h
 | p::P,w::vs,0,m,nd,h1,h2,hk=>by simp at h1 h2;subst h1;subst h2;show bindL kindOf ((p,w)::P.zip vs) m p=_;unfold bindL;rw[SY λv hv=>(Dy.mp nd).1 (Fz hv).1,if_pos hk];simp
 | p::P,w::vs,i+1,m,nd,h1,h2,hk=>by show bindL kindOf ((p,w)::P.zip vs) m x=_;unfold bindL;exact Tp (i:=i) (Dy.mp nd).2 (by simpa using h1) (by simpa using h2) hk
theorem Tn{kindOf:Str→Option NameKind}{x:Str}{v:Value}:∀{P:List Str}{vs:List Value}{i:Nat}{m:Str→Option Value},P.Nodup→P[i]?=some x→vs[i]?=some v→kindOf x≠some .local→
 bindC kindOf (P.zip vs) m x=some v
 | [],_,_,_,_,h,_,_=>by simp at h
 | _::_,[],_,_,_,_,h,_=>by simp at h
 | p::P,w::vs,0,m,nd,h1,h2,hk=>by simp at h1 h2;subst h1;subst h2;show bindC kindOf ((p,w)::P.zip vs) m p=_;unfold bindC;rw[To λv hv=>(Dy.mp nd).1 (Fz hv).1,if_neg hk];simp
 | p::P,w::vs,i+1,m,nd,h1,h2,hk=>by show bindC kindOf ((p,w)::P.zip vs) m x=_;unfold bindC;exact Tn (i:=i) (Dy.mp nd).2 (by simpa using h1) (by simpa using h2) hk
def KO(N:List Str)(vs:List V):St:=vs.map some++BN (N.length - vs.length) none
def JT(CX:K8)(P:Bv)(w:World)(K:Ao)(mg:Str→Option Value)(base:Heap)(N:List Str)(qual:Str)(scope:Scope)(f:Addr)(cd:Value)(A:BZ)(outer:List Env)(s:Shared)(H:Hp)(E:XK):Cx where
 prog:=P
 w:=w
 K:=K
 mg:=mg
 base:=base
 A:=A.deeper (envOfC qual scope s.heap.objs.size f cd)
 N:=N
 s₀:=s
 H₀:=H
 env:=envOfC qual scope s.heap.objs.size f cd
 outer:=outer
 stack:=envOfC qual scope s.heap.objs.size f cd::outer
 ex:=[]
 calm:=true
 fn:=λ_=>true
 pn:=[]
 xe:=λe s'=>wpAny (model P w) (A.deeper (envOfC qual scope s.heap.objs.size f cd)) (leaving (envOfC qual scope s.heap.objs.size f cd) e) (λ_ s''=>CX outer H s E e s'') (λe' s''=>CX outer H s E e' s'') s'
theorem SQ{sc:Scope}{x:Str}(h:sc.names.lookup x=some .cell):∃c,(B_ n sc.names []).lookup x=some c:=by have q:=CM sc.names n [] (.inl h);exact Fd.mp q
theorem X3{CX:K8}{P:Bv}{w:World}{K:Ao}{mg:Str→Option Value}{base:Heap}{N ps:List Str}{qual:Str}{scope:Scope}{f:Addr}{cd:Value}{A:BZ}{outer:List Env}{s s1:Shared}{H:Hp}{E:XK}{us:List Value}{vs:List V}
 (S:FnScope N ps scope) (hd:A.handled=none) (e0:Env0 P w K mg base A outer s H) (hl:vs.length=ps.length) (r:Vals vs us)
 (x:InCallC s s.heap.objs.size (bindL (envOfC qual scope s.heap.objs.size f cd).kindOf (ps.zip us) λ_=>none) (B_ (s.heap.objs.size+1) scope.names []) (bindC (envOfC qual scope s.heap.objs.size f cd).kindOf (ps.zip us) λ_=>none) s1):
 Inv (JT CX P w K mg base N qual scope f cd A outer s H E) [] (KO N vs) H s1:=by
 have hpl:ps.length≤N.length:=by have:=congrArg Bi S.pre;rw[A7] at this;omega
 obtain⟨h1,tk,rfl,hk⟩:=x.done;have noA:∀b:Addr,b ∉ (JT CX P w K mg base N qual scope f cd A outer s H E).ex:=λb z=>absurd (show b∈([]:List Addr) from z) (by simp);refine⟨⟨e0.mod,S.kind,rfl,rfl,Ag _,λy z c h1 h2=>?_,λy hy=>?_,λy c _ h=>?_,λ_=>hd,Around.frames_deeper e0.frames,.inr ⟨rfl,rfl⟩,λb z=>absurd z (noA b),e0.bs,e0.bsz,λb _ _=>noA b,λb z=>absurd z (noA b),e0.funs,e0.frf⟩,
  rfl,e0.bare,Un.kept hk,⟨_,x.toInCall.ns,λi y v h1 h2 h3=>?_⟩,λy c h=>⟨_,x.cell y c h⟩,e0.hok.fresh (Ag _),λy c h=>?_,λp hp=>absurd (show p∈([]:List (Addr×Obj)) from hp) (by simp),e0.hok.kept hk,?_⟩
 · exact name_of_addr x.apart (Db h1) (Db h2)
 · have hy:scope.names.lookup y=some .cell∨scope.names.lookup y=some .free:=hy;rcases hy with hy | hy
   · exact SQ hy
   · exact absurd rfl (S.nofree _ (Db hy))
 · exact AZ (x.above y c (Db h))
 · have hi:i<vs.length:=by
    unfold KO at h2;by_cases hi:i<vs.length
    · exact hi
    · rw[List.getElem?_append_right (by simpa using hi)] at h2;rw[List.getElem?_replicate] at h2
      split at h2<;>cases h2
   have ha:vs[i]?=some v:=by
    unfold KO at h2;rw[List.getElem?_append_left (by simpa using hi),Af] at h2;cases e:vs[i]? with
    | none=>rw[e] at h2;cases h2
    | some a=>rw[e] at h2;cases h2;rfl
   obtain⟨u,hu,rv⟩:=r.get ha;have hp:ps[i]?=some y:=by rw[←S.pre,List.getElem?_take_of_lt (by omega)];exact h1
   have ndP:ps.Nodup:=by rw[←S.pre];exact S.nd.sublist (List.take_sublist _ _)
   refine⟨u,rv,?_⟩;rcases S.par y (Aj hp) with k | k
   · exact .inl ⟨k,Tp ndP hp hu k⟩
   · obtain⟨c,e⟩:=SQ (n:=s.heap.objs.size+1) k;refine .inr ⟨.inl k,c,e,?_⟩;have q:=x.cell y c e;rw[Tn ndP hp hu (by show scope.names.lookup y≠_;rw[k];decide)] at q;exact q
 · exact e0.hok.fresh (AZ (x.above y c (Db h)))
 · unfold KO;show _=N.length;rw[A5,Ab,CQ];omega
theorem QT{CX:K8}{P:Bv}{w:World}{K:Ao}{mg:Str→Option Value}{base:Heap}{k:Nat}{f:Addr}{name qual:Str}{params:Arguments}{body:List Stmt}{scope:Scope}{dV kV doc pm cdv ct oc:Value}{an od:Option Addr}
 {osl:Array (Option Value)} {N ps:List Str} {sp:Sp} (lk:K.lookup f=some ⟨oc,od,.func (C8 name qual params body scope dV kV doc pm an cdv ct),osl⟩) (hcd:DG K cdv qual=true) (S:FnScope N ps scope)
 (len:∀vs H Q E,sp vs H Q E→vs.length=ps.length)
 (hbody:∀(A:BZ)(outer:List Env)(s:Shared)(H:Hp)(vs:List V)(Q:VK)(E:XK),Room k (A.deeper (envOfC qual scope s.heap.objs.size f cdv))→sp vs H Q E→
  ∃t,PSs (JT CX P w K mg base N qual scope f cdv A outer s H E) body t∧t {nx:=λ_ H'=>Q .non H',rt:=Q} (KO N vs) H):
 FnOk P w K mg base CX (k+1) f (C8 name qual params body scope dV kV doc pm an cdv ct) ps sp:=by
 refine⟨len,λA outer s H args us vs Q E hr e0 hb r hsp=>?_⟩;have hl:=len _ _ _ _ hsp;have KX:K.In s.heap:=e0.mod.kin.keeps λb o e=>(e0.bs b o e).1;have lim:s.heap.NoLimit:=e0.mod.nolimit.keeps λb o e=>(e0.bs b o e).1;have hkind:∀y∈ps.zip us,scope.names.lookup y.1=some .local∨(scope.names.lookup y.1=some .cell∧((B_ (s.heap.objs.size+1) scope.names []).lookup y.1).isSome=true):=λ⟨n,v⟩ hy=>by
  rcases S.par n (Fz hy).1 with q | q
  · exact .inl q
  · exact .inr ⟨q,CM _ _ _ (.inl q)⟩
 refine codeAny_call_function hr.depth (KX _ _ lk) rfl S.co S.gen rfl (PySem.W.codeRec_of KX hcd) (hb _ _ _ _ ?_);refine wpAny_newFunctionEnv_cells S.kind hkind λenv he s1 x=>?_;subst he;refine⟨lim.keeps x.toInCall.keep,codeAny_func ?_⟩;obtain⟨t,ht,hq⟩:=hbody A outer s H vs Q E (hr.deeper _) hsp;have I:Inv (JT CX P w K mg base N qual scope f cdv A outer s H E) [] (KO N vs) H s1:=X3 S hr.hd e0 hl r x;refine A4 (ht [] s1 (KO N vs) H _ I hq) (λfl s' hs=>?_) λe s' hs=>hs;have fin:∀{σ':St}{H':Hp}{v:V}{u:Value},Inv (JT CX P w K mg base N qual scope f cdv A outer s H E) [] σ' H' s'→RelV v u→Q v H'→CE outer P w H s Q u s':=
  λ{σ' H' v u}J rv q=>⟨v,H',J.os,J.bare,J.base,J.hok,rv,q⟩
 cases fl with
 | ret u=> obtain⟨v,σ',H',J,rv,q⟩:=hs;exact fin J rv q
 | next=> obtain⟨σ',H',J,q⟩:=hs;exact fin (v:=V.non) (u:=Value.none) J rfl q
 | brk=> obtain⟨_,_,_,q⟩:=hs;exact C4 q
 | cont=> obtain⟨_,_,_,q⟩:=hs;exact C4 q
section
variable{X:Cx}{x:Str}{p:Pos}{es:List Expr}{t:TA}{id T:String}{r:List V→Hp→VK→Prop}
def Ux(r:List V→Hp→VK→Prop)(t:TA):TE:=λσ H Q=>t σ H λvs H1=>r vs H1 Q
theorem Iy(hc:J5 X (.builtin id) r)(hg:Gl X x)(hm:X.mg x=none)(hv:AV x=some (.builtin id))(ha:PA X (e::es) t)(hn:x≠"__name__":=by decide)(hdb:(x==("__debug__":Str))=false:=by decide)
 (he:AD (e::es) X.env=(false,eval e X.env)::AD es X.env:=by rfl) (hpl:(backTo pos (AD es X.env)).any (·.1)=false:=by rfl):PE X (.Call (.Name x p) (e::es) [] pos) (Ux r t):=by
 intro pins s σ H Q I h;refine BQ (Ky I hg hm hv ?_ hn hdb);exact Ec (HN (ha pos pins s σ H _ I h) λus s1 ⟨vs,H1,I1,r1,q1⟩=>hc pins s1 σ H1 vs us Q I1 r1 q1) he hpl
theorem Lr(hc:J5 X (.type T) r)(hg:Gl X x)(hm:X.mg x=none)(hv:AV x=some (.type T))(ha:PA X (e::es) t)(hn:x≠"__name__":=by decide)(hdb:(x==("__debug__":Str))=false:=by decide)
 (he:AD (e::es) X.env=(false,eval e X.env)::AD es X.env:=by rfl) (hpl:(backTo pos (AD es X.env)).any (·.1)=false:=by rfl):PE X (.Call (.Name x p) (e::es) [] pos) (Ux r t):=by
 intro pins s σ H Q I h;refine BQ (Ky I hg hm hv ?_ hn hdb);exact BK (HN (ha pos pins s σ H _ I h) λus s1 ⟨vs,H1,I1,r1,q1⟩=>hc pins s1 σ H1 vs us Q I1 r1 q1) he hpl
end
end L2
variable{H:L2.Hp}{X:L2.Cx}{σ:L2.St}{xs:List L2.V}{x:PySem.Str}
namespace HT
open PySem PyProof.Rows
section
open PySem.SeqAt
open PySem.AutoSeq1 (wpAny_loadPart')
open PySem.MeetsSeq PySem.MeetsSeq2 PySem.MeetsSeq3
end
theorem cat_tup{t:Addr}{vs ws:List Value}{Q:Value→Shared→Prop}(ht:IsTup s.heap t vs.toArray)(hb:IsTup s.heap b ws.toArray)(hv:vs≠[])
 (h1:ws=[]→Q (.ref t) s) (h2:ws≠[]→Q (.ref s.heap.objs.size) {s with heap:=s.heap.push {cls:= .type "tuple",data:= .seq (vs++ws).toArray}})
 (hsz:vs.length+ws.length≤Au):wpAny (model prog w) A (binaryOp .Add (.ref t) (.ref b)) Q E s:=by
 obtain⟨⟨cls,dd,data,sl⟩,ho,hc,n,hd⟩:=id ht;obtain⟨⟨cls2,dd2,data2,sl2⟩,ho2,hc2,n2,hd2⟩:=id hb;simp only at hc hd hc2 hd2;subst hc hd hc2 hd2;have e:vs.toArray++ws.toArray=(vs++ws).toArray:=by simp
 by_cases hw:ws=[]
 · exact concat_meets ⟨_,ho,rfl⟩ ⟨_,ho2,rfl⟩ noFill_tuple_add seq_tuple_add DL DI (D6 _ _)
    (tuple_addW1 t b vs.toArray ws.toArray n n2 dd dd2 sl sl2 (by simpa using hv) (by simp[hw])) ⟨ho,ho2,h1 hw⟩
 · refine concat_meets ⟨_,ho,rfl⟩ ⟨_,ho2,rfl⟩ noFill_tuple_add seq_tuple_add DL DI (D6 _ _)
    (tuple_addW2 t b vs.toArray ws.toArray n n2 dd dd2 sl sl2 (by simpa using hv) (by simpa using hw) (by rw[Ax,Ax];exact hsz)) ⟨ho,ho2,?_⟩
   rw[e];exact h2 hw
def sIx(n d:Nat):Option Int→Nat
 | none=>d
 | some v=>if v<0 then(v+(n:Int)).toNat else min v.toNat n
theorem sIx_none(n d:Nat):sIx n d none=d:=rfl
theorem sIx_nat(n d k:Nat):sIx n d (some (k:Int))=min k n:=by
 show(if(k:Int)<0 then((k:Int)+(n:Int)).toNat else min (k:Int).toNat n)=min k n
 rw[if_neg (by omega),Ba]
theorem VH(n d:Nat)(hd:d≤n)(o:Option Int):sIx n d o≤n:=by
 cases o with
 | none=>exact hd
 | some v=>
  show(if v<0 then(v+(n:Int)).toNat else min v.toNat n)≤n
  by_cases hv:v<0
  · rw[if_pos hv];omega
  · rw[if_neg hv];exact Nat.min_le_right _ _
theorem RC(v:Int)(n d:Nat):(if v<0 then max (v+(n:Int)) 0 else min v (n:Int))=((sIx n d (some v):Nat):Int):=by
 show(if v<0 then max (v+(n:Int)) 0 else min v (n:Int))=(((if v<0 then(v+(n:Int)).toNat else min v.toNat n):Nat):Int)
 by_cases hv:v<0
 · simp only[if_pos hv];omega
 · simp only[if_neg hv];omega
theorem Yw(lo hi:Option Int)(n:Nat):Dz lo hi 1 (n:Int)=(((sIx n 0 lo:Nat):Int),((sIx n n hi:Nat):Int)):=by
 have h1:¬((1:Int)<0):=by omega
 unfold Dz;simp only[h1,if_false];refine Prod.ext ?_ ?_
 · cases lo with
   | none=>rfl
   | some v=>exact RC v n 0
 · cases hi with
   | none=>rfl
   | some v=>exact RC v n n
theorem Yc(i j:Nat):CT (i:Int) (j:Int) 1=j - i:=by
 unfold CT;have h1:(1:Int)>0:=by omega
 simp only[h1,if_true,Int.ediv_one]
 split<;>omega
theorem TZ{v:Value}{o:Option Int}{Q:Option Int→Shared→Prop}(p:IsPart v o)(h:Q o s):wpAny (model prog w) A (Builtin.Slice.slicePartIndex v) Q E s:=by
 cases p with
 | none=>exact slicePart_none h
 | int i t=>exact slicePart_int h
theorem sliceApplied_gen{sl:Addr}{vl vu:Value}{lo hi:Option Int}{n:Nat}{Q:Int×Int×Nat→Shared→Prop}(hs:s.heap.IsSliceOf sl vl vu .none)(pl:IsPart vl lo)(pu:IsPart vu hi)
 (h:Q (((sIx n 0 lo:Nat):Int),1,sIx n n hi - sIx n 0 lo) s):wpAny (model prog w) A (EF (.ref sl) (pure (n:Int))) Q E s:=by
 obtain⟨os,hos,hcs,hds⟩:=id hs;unfold EF Builtin.Slice.sliceFields;refine Aa (Aa (AO hos hds (x:=vl) rfl (Aa (AO hos hds (x:=vu) rfl (Aa (AO hos hds (x:= .none) rfl (Ac ?_)))))));refine Aa (slicePart_none ?_);show wpAny _ _ (if((1:Int)==0)=true then _ else _) _ _ s
 rw[if_neg (by decide)];refine Aa (TZ pl (Aa (TZ pu (Aa (Ac ?_)))));show wpAny _ _ (match Dz lo hi 1 (n:Int) with | (lo,hi)=>pure (lo,(1:Int),CT lo hi 1)) _ _ s
 rw[Yw lo hi n];show wpAny _ _ (pure (((sIx n 0 lo:Nat):Int),(1:Int),CT ((sIx n 0 lo:Nat):Int) ((sIx n n hi:Nat):Int) 1)) _ _ s;rw[Yc];exact Ac h
theorem WZ(xs:Array Value)(i k:Nat):((Bc k).filterMap λ(m:Nat)=>xs[((i:Int)+(m:Int)*1).toNat]?).toArray=((xs.toList.drop i).take k).toArray:=by
 have e:(λ(m:Nat)=>xs[((i:Int)+(m:Int)*1).toNat]?)=λm=>xs[i+m]?:=by
  funext m;have:((i:Int)+(m:Int)*1).toNat=i+m:=by omega
  rw[this]
 rw[e];have:=pick_run xs i k;rw[List.filterMap_map] at this;have e2:((λx=>xs[x]?)∘λx=>i+x)=λm=>xs[i+m]?:=rfl;rw[e2] at this;rw[this]
theorem getItem_tuple_cut{t sl:Addr}{items:Array Value}{vl vu:Value}{lo hi:Option Int}{Q:Value→Shared→Prop}(ht:IsTup s.heap t items)(hs:s.heap.IsSliceOf sl vl vu .none)(pl:IsPart vl lo)(pu:IsPart vu hi)
 (hw:¬(sIx items.size 0 lo=0∧sIx items.size items.size hi=items.size))
 (h:Q (.ref s.heap.objs.size) {s with heap:=s.heap.push {cls:= .type "tuple",data:= .seq ((items.toList.drop (sIx items.size 0 lo)).take (sIx items.size items.size hi - sIx items.size 0 lo)).toArray}})
 (hsz:items.size≤Au):wpAny (model prog w) A (getItem (.ref t) (.ref sl)) Q E s:=by
 have htake:sizeOk (.seq ((items.toList.drop (sIx items.size 0 lo)).take (sIx items.size items.size hi - sIx items.size 0 lo)).toArray):=by show((items.toList.drop (sIx items.size 0 lo)).take (sIx items.size items.size hi - sIx items.size 0 lo)).toArray.size≤Au;rw[Ax,A7,C5,AG];omega
 have hj:sIx items.size items.size hi≤items.size:=VH _ _ (Ag _) hi;obtain⟨os,hos,hcs,hds⟩:=id hs;have hTs:s.TypeIs (.ref sl) "slice":=⟨os,hos,hcs⟩;unfold getItem
 try with_reducible refine AS ?_
 first | refine Aa (Ac ?_) | skip
 refine Aa (ES ht.typeIs (by decide) ?_);refine Aa (AT (name:=Cf "__getitem__") ht.typeIs BL
  (AW BL ht.typeIs entry_tuple_getitem ?_ (args_tuple_getitem _ _)))
 show wpAny _ _ (EG (.ref t)>>=_) _ _ s;refine Aa (tupleItemsOf_ ht ?_);refine Aa (Co hTs ?_);rw[if_pos (by decide)];refine Aa (sliceApplied_gen hs pl pu ?_);have hno:¬((((sIx items.size 0 lo:Nat):Int)==0 && (1:Int)==1 && (sIx items.size items.size hi - sIx items.size 0 lo)==items.size)=true):=by intro q;rw[A8,A8] at q;have q1:((sIx items.size 0 lo:Nat):Int)=0:=eq_of_beq q.1.1;have q2:sIx items.size items.size hi - sIx items.size 0 lo=items.size:=eq_of_beq q.2;exact hw ⟨by omega,by omega⟩
 show wpAny _ _ (if(((sIx items.size 0 lo:Nat):Int)==0 && (1:Int)==1 && (sIx items.size items.size hi - sIx items.size 0 lo)==items.size)=true then _ else _) _ _ s
 rw[if_neg hno,WZ]
 first
  | exact Aa (m:=CY _) (AN (Ac ⟨_,rfl,Ac h⟩) htake)
  | exact Aa (m:=CY _) (AN (Aa (Ac (Ac ⟨_,rfl,Ac h⟩))) htake)
  | exact Aa (Aa (m:=CY _) (AN (Ac (Ac ⟨_,rfl,Ac h⟩)) htake))
  | exact Aa (Aa (m:=CY _) (AN (Ac ⟨_,rfl,Ac h⟩) htake))
end HT
namespace L2
abbrev TO:=St→Hp→(Option Int→Hp→Prop)→Prop
def PO(X:Cx)(e:Option Expr)(t:TO):Prop:=
 ∀(pins:List (Addr×Obj))(s:Shared)(σ:St)(H:Hp)(Q:Option Int→Hp→Prop),Inv X pins σ H s→t σ H Q→
  wpAny (model X.prog X.w) X.A (evalPart e X.env) (λu s'=>∃o H',Inv X pins σ H' s'∧IsPart u o∧Q o H') X.xe s
def Sf:TO:=λ_ H Q=>Q none H
def Vn(t:TE):TO:=λσ H Q=>t σ H λx H1=>∃i,x= .int i∧Q (some i) H1
section
variable{te:TE}{lo hi:Option Expr}{tl th:TO}{p2:Pos}
theorem Kp:PO X none Sf:=by intro pins s σ H Q I h;rw[evalPart_none];exact Ac ⟨none,H,I,.none,h⟩
theorem Kq(h:PE X e te):PO X (some e) (Vn te):=by intro pins s σ H Q I hw;rw[evalPart_some];refine HN (h pins s σ H _ I hw) λu s1 ⟨x,H1,I1,r1,q1⟩=>?_;obtain⟨i,rfl,q⟩:=q1;obtain⟨t,rfl⟩:=r1;exact⟨some i,H1,I1,.int i t,q⟩
def Mv(X:Cx)(r:V→Option Int→Option Int→Hp→VK→Prop):Prop:=
 ∀(pins:List (Addr×Obj))(s:Shared)(σ:St)(H:Hp)(x:V)(v vl vu:Value)(lo hi:Option Int)(sl:Addr)(Q:VK),Inv X pins σ H s→RelV x v→s.heap.IsSliceOf sl vl vu .none→IsPart vl lo→IsPart vu hi→r x lo hi H Q→
  ∃T id,typeLookup (.type T) "__getitem__"=pure (some (.builtin id))∧s.TypeIs v T∧wpAny (model X.prog X.w) X.A (getItem v (.ref sl)) (EP X pins σ Q) X.xe s
def tSl(r:V→Option Int→Option Int→Hp→VK→Prop)(te:TE)(tl th:TO):TE:=λσ H Q=>te σ H λx H1=>tl σ H1 λl H2=>th σ H2 λu H3=>r x l u H3 Q
theorem Ks{r:V→Option Int→Option Int→Hp→VK→Prop}(hr:Mv X r)(he:PE X e te)(hl:PO X lo tl)(hu:PO X hi th):PE X (.Subscript e (.Slice lo hi none p2) pos) (tSl r te tl th):=by
 intro pins s σ H Q I h;refine Subscript_ (HN (he pins s σ H _ I h) λv s1 ⟨x,H1,I1,r1,q1⟩=>?_);refine wpAny_Slice (HN (hl pins s1 σ H1 _ I1 q1) λvl s2 ⟨l,H2,I2,pl,q2⟩=>HN (hu pins s2 σ H2 _ I2 q2) λvu s3 ⟨u,H3,I3,pu,q3⟩=>?_);rw[evalPart_none];refine Ac ?_;have I4:Inv X pins σ H3 {s3 with heap:=s3.heap.push {cls:= .type "slice",data:= .fields #[vl,vu,.none]}}:=I3.kept (t':=s3.toks) λb ob q=>Ad _ q
 obtain⟨T,id,hT,ht,hg⟩:=hr pins {s3 with heap:=s3.heap.push {cls:= .type "slice",data:= .fields #[vl,vu,.none]}} σ H3 x v vl vu l u s3.heap.objs.size Q I4 r1 (Heap.IsSliceOf.new ..) pl pu q3;show wpAny (model X.prog X.w) X.A (subscriptTail e (.Slice lo hi none p2) v (.ref s3.heap.objs.size)) (EP X pins σ Q) X.xe {s3 with heap:=s3.heap.push {cls:= .type "slice",data:= .fields #[vl,vu,.none]}};exact tail_any (ops:=[.ref s3.heap.objs.size,v]) ht hT hg (by with_unfolding_all rfl)
def II(xs:List V)(lo hi:Option Int):List V:=(xs.drop (HT.sIx xs.length 0 lo)).take (HT.sIx xs.length xs.length hi - HT.sIx xs.length 0 lo)
theorem TN(xs:List V)(lo hi:Option Int):(II xs lo hi).length≤xs.length:=by unfold II;rw[A7,C5];omega
def Qw(K:Ao):V→Option Int→Option Int→Hp→VK→Prop:=λx lo hi H Q=>∃a xs,x= .ref a∧SqT K H a xs∧
 ¬(HT.sIx xs.length 0 lo=0∧HT.sIx xs.length xs.length hi=xs.length)∧∀p,H p=none→Q (.ref p) (HI H p (.tup (II xs lo hi)))
theorem VI:Mv X (Qw X.K):=by
 intro pins s σ H x v vl vu lo hi sl Q I rx hs pl pu h;obtain⟨a,xs,rfl,hx,hw,q⟩:=h;cases rx;obtain⟨its,r,ht,hz⟩:=I.tuple hx;have hlen:its.toArray.size=xs.length:=by rw[Ax];exact r.length.symm
 refine⟨"tuple",_,BL.lookup,ht.typeIs,?_⟩;refine HT.getItem_tuple_cut ht hs pl pu (by rw[hlen];exact hw) ?_ (by rw[hlen];exact hz);rw[hlen];refine⟨.ref s.heap.objs.size,_,I.laid (t':=s.toks) (o:= .tup (II xs lo hi)) (λb ob q=>Ad _ q) (Ag _) ?_,rfl,q _ (I.hok.fresh (Ag _))⟩;exact⟨AL (TN xs lo hi) hz,_,(r.drop (HT.sIx xs.length 0 lo)).take (HT.sIx xs.length xs.length hi - HT.sIx xs.length 0 lo),IsTupP.new _ _⟩
theorem Vals.nil_iff(r:Vals xs us):us=[]↔xs=[]:=by
 cases r with
 | nil=>simp
 | cons _ _=>simp
end
def Lb(n:Nat)(i:Int):Option Nat:=if 0≤i then(if i<n then some i.toNat else none) else if -(n:Int)≤i then some (i+n).toNat else none
def JW{α:Type}(xs:List α)(i:Int):Option α:=(Lb xs.length i).bind λj=>xs[j]?
theorem OM{i:Int}{j:Nat}(h:Lb n i=some j):seqIndex? i n=some j∧j<n∧ -(n:Int)≤i∧i<n:=by
 unfold Lb at h;by_cases h0:0≤i
 · rw[if_pos h0] at h;by_cases h1:i<n
   · rw[if_pos h1] at h;have e:i.toNat=j:=Az h;exact⟨by rw[seqIndex_of h0 h1,e],by omega,by omega,h1⟩
   · rw[if_neg h1] at h;cases h
 · rw[if_neg h0] at h;by_cases h1: -(n:Int)≤i
   · rw[if_pos h1] at h;have e:(i+n).toNat=j:=Az h;exact⟨by rw[seqIndex_neg (by omega) h1,e],by omega,h1,by omega⟩
   · rw[if_neg h1] at h;cases h
theorem OR{α:Type}{xs:List α}{i:Int}{v:α}(h:JW xs i=some v):∃j,seqIndex? i xs.length=some j∧xs[j]?=some v∧j<xs.length∧ -(xs.length:Int)≤i∧i<xs.length:=by
 unfold JW at h;cases e:Lb xs.length i with
 | none=>rw[e] at h;cases h
 | some j=> rw[e] at h;obtain⟨h1,h2,h3,h4⟩:=OM e;exact⟨j,h1,h,h2,h3,h4⟩
theorem Mm{α:Type}{xs:List α}{j:Nat}{v:α}(h:xs[j]?=some v):JW xs (j:Int)=some v:=by
 have hj:j<xs.length:=(Al.mp h).1;have e:Lb xs.length (j:Int)=some j:=by unfold Lb;rw[if_pos (by omega),if_pos (by omega)];simp
 unfold JW;rw[e];exact h
def VR(b:Expr):Prop:=∀o i,subscripted b false o i=operate [o,i] (getItem o i)
def Nz(X:Cx)(r:R2):Prop:=
 ∀(value slice:Expr)(pins:List (Addr×Obj))(s:Shared)(σ:St)(H:Hp)(x y:V)(v u:Value)(Q:VK),Inv X pins σ H s→RelV x v→RelV y u→r x y H Q→
  subscripted slice false v u=operate [v,u] (getItem v u)→wpAny (model X.prog X.w) X.A (subscriptTail value slice v u) (EP X pins σ Q) X.xe s
def MtR(X:Cx)(id:String)(r:V→List V→Hp→VK→Prop):Prop:=
 ∀(pins:List (Addr×Obj))(s:Shared)(σ:St)(H:Hp)(x:V)(xs:List V)(v:Value)(us:List Value)(Q:VK),Inv X pins σ H s→RelV x v→Vals xs us→r x xs H Q→
  wpAny (model X.prog X.w) X.A (call (.builtin id) (v::us)) (EP X pins σ Q) X.xe s
section
variable{a b:Expr}{ta tb:TE}
theorem IC{r:R2}(hr:Nz X r)(ha:PE X a ta)(hb:PE X b tb)(hs:VR b):PE X (.Subscript a b pos) (Ov r ta tb):=by intro pins s σ H Q I h;exact Subscript_ (LR ha hb I h λv u s2 x y H2 I2 rx ry q=>hr a b pins s2 σ H2 x y v u Q I2 rx ry q (hs _ _))
def Q0(K:Ao):R2:=λx y H Q=>∃p xs i v,x= .ref p∧y= .int i∧SqL K H p xs∧JW xs i=some v∧Q v H
def MZ(K:Ao):R2:=λx y H Q=>∃p xs i v,x= .ref p∧y= .int i∧SqT K H p xs∧JW xs i=some v∧Q v H
def Qz:R2:=λx y H Q=>∃z i c,x= .str z∧y= .int i∧z.length≤Au∧JW z.cps.toList i=some c∧Q (.str ⟨#[c]⟩) H
theorem Jx:Nz X (Q0 X.K):=by
 intro value slice pins s σ H x y v u Q I rx ry h hs;obtain⟨p,xs,i,z,rfl,rfl,hq,he,q⟩:=h;cases rx;obtain⟨t,rfl⟩:=ry;obtain⟨its,r,pl,hz⟩:=I.list hq;obtain⟨j,h1,h2,h3,h4,h5⟩:=OR he;obtain⟨w,ew,rw'⟩:=r.get h2;have hl:=r.length;have hn:=Md;have fin:EP X pins σ Q w s:=⟨z,H,I,rw',q⟩;by_cases h0:0≤i
 · have hj:i.toNat=j:=by
    rw[seqIndex_of h0 h5] at h1;exact Az h1
   exact item_listR pl.isList h0 (by omega) (by rw[hj];simpa using ew) fin hs
 · have hj:(i+(its.toArray.size:Int)).toNat=j:=by
    rw[seqIndex_neg (by omega) h4] at h1;rw[Ax,←hl];exact Az h1
   exact FH (x:=w) pl.isList.typeIs slot_list_getitem.lookup
    (wpAny_getItem_list_neg (Q:=λr s'=>r=w∧EP X pins σ Q r s') pl.isList (by omega) (by rw[Ax]<;>omega) (by omega) (by rw[hj];simpa using ew) ⟨rfl,fin⟩) hs
theorem JA:Nz X (MZ X.K):=by
 intro value slice pins s σ H x y v u Q I rx ry h hs;obtain⟨p,xs,i,z,rfl,rfl,hq,he,q⟩:=h;cases rx;obtain⟨t,rfl⟩:=ry;obtain⟨its,r,pl,hz⟩:=I.tuple hq;obtain⟨j,h1,h2,h3,h4,h5⟩:=OR he;obtain⟨w,ew,rw'⟩:=r.get h2;have hl:=r.length;have hn:=Md;have fin:EP X pins σ Q w s:=⟨z,H,I,rw',q⟩;exact FH (x:=w) pl.typeIs slot_tuple_getitem.lookup
  (getItem_tuple (j:=j) (Q:=λr s'=>r=w∧EP X pins σ Q r s') pl (by omega) (by omega) (by rw[Ax,←hl];exact h1) (by simpa using ew) ⟨rfl,fin⟩) hs
theorem Rx:Nz X Qz:=by
 intro value slice pins s σ H x y v u Q I rx ry h hs;obtain⟨z,i,c,rfl,rfl,hz,he,q⟩:=h;obtain⟨t,rfl⟩:=rx;obtain⟨t',rfl⟩:=ry;obtain⟨j,h1,h2,h3,h4,h5⟩:=OR he;have hl:z.cps.toList.length=z.length:=by simp[Str.length]
 rw[hl] at h1 h4 h5;have hn:=Md;exact tail_any (typeIs_str s z t) slot_str_getitem.lookup (getItem_str (c:=c) (by have e1:decide (i< -(2^63:Int))=false:=decide_eq_false (by omega);have e2:decide (i≥2^63)=false:=decide_eq_false (by omega);rw[e1,e2,Bool.or_false]) (by rw[h1];simpa using h2) ⟨.str ⟨#[c]⟩,H,I.tok _,⟨_,rfl⟩,q⟩) hs
theorem Y6(its:List Value)(n j:Nat)(u:Value):Bm (·.setIfInBounds j u) {cls:= .type "list",data:= .seq its.toArray n}={cls:= .type "list",data:= .seq (its.set j u).toArray n}:=by simp[Bm]
theorem Inv.lst{p:Addr}(I:Inv X pins σ H s)(h:H p=some (.lst xs)):
 ∃(its:List Value)(n:Nat),Vals xs its∧s.heap.get? p=some {cls:= .type "list",data:= .seq its.toArray n}∧xs.length≤Au:=by
 obtain⟨z,its,n,r,e⟩:=I.hok p _ h;exact⟨its,n,r,e,z⟩
theorem Inv.lstUpd{p:Addr}{ys:List V}{its its':List Value}{n n':Nat}{f:Obj→Obj}(I:Inv X pins σ H s)(h:H p=some (.lst xs))
 (ho:s.heap.get? p=some {cls:= .type "list",data:= .seq its.toArray n}) (hf:f {cls:= .type "list",data:= .seq its.toArray n}={cls:= .type "list",data:= .seq its'.toArray n'}) (r:Vals ys its') (hz:ys.length≤Au) (t:Nat):
 Inv X pins σ (HI H p (.lst ys)) {s with heap:=s.heap.update p f,toks:=t}:=by
 have e:(s.heap.update p f).get? p=some {cls:= .type "list",data:= .seq its'.toArray n'}:=by rw[AM f ho (by rw[hf]<;>rfl),hf]
 refine I.write (x:=p) (e:=p) (by rw[h];trivial) (.inl rfl) (λb u hb q=>(AI _ _ (Bq hb)).trans q) ⟨_,e⟩ ?_;exact⟨hz,its',n',r,e⟩
def Ve:V→V→V→Hp→(Hp→Prop)→Prop:=λo i v H Q=>∃p xs k j,o= .ref p∧i= .int k∧H p=some (.lst xs)∧Lb xs.length k=some j∧Q (HI H p (.lst (xs.set j v)))
theorem Pe:Nv X Ve:=by
 intro pins s σ H o i v ov iv u Q I ro ri rv h;obtain⟨p,xs,k,j,rfl,rfl,hp,hj,q⟩:=h;cases ro;obtain⟨t,rfl⟩:=ri;obtain⟨its,n,r,ho,hz⟩:=I.lst hp;obtain⟨h1,h2,h3,h4⟩:=OM hj;have hl:=r.length;have hn:=Md;have I':Inv X pins σ (HI H p (.lst (xs.set j v))) {s with heap:=s.heap.update p (Bm (·.setIfInBounds j u))}:=
  I.lstUpd hp ho (Y6 its n j u) (r.set rv j) (by rw[List.length_set];exact hz) s.toks
 by_cases h0:0≤k
 · have hk:k.toNat=j:=by
    rw[seqIndex_of h0 h4] at h1;exact Az h1
   exact PySem.W.ki_setAt ho h0 (by omega) (by rw[Ax,←hl];exact h4) (by rw[hk];exact⟨_,I',q⟩)
 · have hk:(k+(its.toArray.size:Int)).toNat=j:=by
    rw[seqIndex_neg (by omega) h3] at h1;rw[Ax,←hl];exact Az h1
   exact PySem.W.ki_setBack ho (by omega) (by rw[Ax,←hl];exact h3) (by omega) (by rw[hk];exact⟨_,I',q⟩)
theorem ZE(lo hi:Option Int)(n:Nat):(sliceBounds lo hi none n).1=((HT.sIx n 0 lo:Nat):Int)∧(sliceBounds lo hi none n).2.1=((HT.sIx n n hi:Nat):Int)∧(sliceBounds lo hi none n).2.2=1:=by
 refine⟨?_,?_,rfl⟩
 · cases lo with
   | none=>simp[sliceBounds,HT.sIx]
   | some i=>
    simp only[sliceBounds,HT.sIx,Fe,show(1:Int)>0 by decide,if_true];by_cases h:i<0
    · simp only[h,if_true]<;>omega
    · simp only[h,if_false]<;>omega
 · cases hi with
   | none=>simp[sliceBounds,HT.sIx]
   | some i=>
    simp only[sliceBounds,HT.sIx,Fe,show(1:Int)>0 by decide,if_true];by_cases h:i<0
    · simp only[h,if_true]<;>omega
    · simp only[h,if_false]<;>omega
theorem Z8(its:List Value)(lo hi:Option Int):slicePick its.toArray lo hi none=((its.drop (HT.sIx its.length 0 lo)).take (HT.sIx its.length its.length hi - HT.sIx its.length 0 lo)).toArray:=by obtain⟨h1,h2,h3⟩:=ZE lo hi its.toArray.size;unfold slicePick;rw[h1,h2,h3];simp only[sliceRange_one,pick_run,Ax]<;>rfl
def Qx(K:Ao):V→Option Int→Option Int→Hp→VK→Prop:=λx lo hi H Q=>∃a xs,x= .ref a∧SqL K H a xs∧∀p,H p=none→Q (.ref p) (HI H p (.lst (II xs lo hi)))
theorem NM:Mv X (Qx X.K):=by intro pins s σ H x v vl vu lo hi sl Q I rx hs pl pu h;obtain⟨a,xs,rfl,hx,q⟩:=h;cases rx;obtain⟨its,r,ht,hz⟩:=I.list hx;have hlen:=r.length;refine⟨"list",_,slot_list_getitem.lookup,ht.isList.typeIs,?_⟩;refine wpAny_getItem_list_slice ht.isList hs pl pu .none (by simp) ?_ (by rw[Ax]<;>omega);rw[Z8,←hlen];refine⟨.ref s.heap.objs.size,_,I.laid (t':=s.toks) (o:= .lst (II xs lo hi)) (λb ob q=>Ad _ q) (Ag _) ?_,rfl,q _ (I.hok.fresh (Ag _))⟩;exact⟨AL (TN xs lo hi) hz,_,0,(r.drop (HT.sIx xs.length 0 lo)).take (HT.sIx xs.length xs.length hi - HT.sIx xs.length 0 lo),Am _ rfl⟩
def Kw:V→Bool
 | .non=>true
 | .bl _=>true
 | .int _=>true
 | .str _=>true
 | _=>false
def K6:V→V→Bool
 | .non,.non=>true
 | .bl a,.bl b=>a==b
 | .bl a,.int b=>(if a then 1 else 0)==b
 | .int a,.bl b=>a==(if b then 1 else 0)
 | .int a,.int b=>a==b
 | .str a,.str b=>a==b
 | _,_=>false
theorem UF{y x:V}{v:Value}(ry:RelV y u)(rx:RelV x v)(fy:Kw y=true)(fx:Kw x=true):SeqAt.EqAt A s u v (K6 y x):=by
 cases y with
 | non=>
  cases ry;cases x with
  | non=>cases rx;exact Ed _
  | bl b=>cases rx;exact Gc b
  | int b=>obtain⟨t,rfl⟩:=rx;exact Gk b t
  | str b=>obtain⟨t,rfl⟩:=rx;exact Gm b t
  | _=>exact absurd (show false=true from fx) As
 | bl a=>
  cases ry;cases x with
  | non=>cases rx;exact Gd a
  | bl b=>cases rx;exact Ge a b
  | int b=>obtain⟨t,rfl⟩:=rx;exact Gn a b t
  | str b=>obtain⟨t,rfl⟩:=rx;exact Go a b t
  | _=>exact absurd (show false=true from fx) As
 | int a=>
  obtain⟨t',rfl⟩:=ry;cases x with
  | non=>cases rx;exact Gp a t'
  | bl b=>cases rx;exact Gq a t' b
  | int b=>obtain⟨t,rfl⟩:=rx;exact SeqAt.EqAt.int_int a t' b t
  | str b=>obtain⟨t,rfl⟩:=rx;exact E1 a t' b t
  | _=>exact absurd (show false=true from fx) As
 | str a=>
  obtain⟨t',rfl⟩:=ry;cases x with
  | non=>cases rx;exact Gr a t'
  | bl b=>cases rx;exact Gs a t' b
  | int b=>obtain⟨t,rfl⟩:=rx;exact E2 a t' b t
  | str b=>obtain⟨t,rfl⟩:=rx;exact SeqAt.EqAt.str_str a t' b t
  | _=>exact absurd (show false=true from fx) As
 | _=>exact absurd (show false=true from fy) As
def JS(x:V)(u:Value):Bool:=match u with
 | .none=>K6 .non x
 | .bool b=>K6 (.bl b) x
 | .int i _=>K6 (.int i) x
 | .str z _=>K6 (.str z) x
 | _=>false
theorem Rw{x y:V}(r:RelV y u)(f:Kw y=true):JS x u=K6 y x:=by
 cases y with
 | non=>cases r;rfl
 | bl b=>cases r;rfl
 | int i=>obtain⟨t,rfl⟩:=r;rfl
 | str z=>obtain⟨t,rfl⟩:=r;rfl
 | _=>exact absurd (show false=true from f) As
theorem M5{x:V}:∀{xs:List V}{us:List Value},Vals xs us→xs.all Kw=true→us.any (JS x)=xs.any λy=>K6 y x
 | _,_,.nil,_=>rfl
 | y::xs,u::us,.cons r t,f=>by rw[CF,A8] at f;rw[BO,BO,Rw r f.1,M5 t f.2]
theorem MB{x:V}{v:Value}(rx:RelV x v)(fx:Kw x=true):∀{xs:List V}{us:List Value},Vals xs us→xs.all Kw=true→∀u∈us,SeqAt.EqAt A s u v (JS x u)
 | _,_,.nil,_=>λu hu=>by cases hu
 | y::xs,u::us,.cons r t,f=>λu' hu=>by
  rw[CF,A8] at f;rcases Ak.mp hu with rfl | hu
  · rw[Rw r f.1];exact UF r rx f.1 fx
  · exact MB rx fx t f.2 u' hu
def L4(x:V)(xs:List V):Bool:=xs.any λy=>K6 y x
def Ox(K:Ao)(neg:Bool):R2:=λx y H Q=>∃p xs,y= .ref p∧(SqL K H p xs∨SqT K H p xs)∧Kw x=true∧xs.all Kw=true∧Q (.bl (if neg then !L4 x xs else L4 x xs)) H
theorem TF:IL X (By .In) (Ox X.K false):=by
 intro pins s σ H x y v u Q I rx ry h;obtain⟨p,xs,rfl,hq,fx,fs,q⟩:=h;cases ry;rcases hq with hq | hq
 · obtain⟨its,r,pl,hz⟩:=I.list hq;refine SeqAt.in_listAt (JS x) pl.isList (λw hw=>MB rx fx r fs w (by simpa using hw)) ⟨.bl _,H,I,rfl,?_⟩;rw[show its.toArray.any (JS x)=its.any (JS x) by simp,M5 r fs];exact q
 · obtain⟨its,r,pl,hz⟩:=I.tuple hq;refine SeqAt.in_tupleAt (JS x) pl (λw hw=>MB rx fx r fs w (by simpa using hw)) ⟨.bl _,H,I,rfl,?_⟩;rw[show its.toArray.any (JS x)=its.any (JS x) by simp,M5 r fs];exact q
theorem PZ:IL X (By .NotIn) (Ox X.K true):=by
 intro pins s σ H x y v u Q I rx ry h;obtain⟨p,xs,rfl,hq,fx,fs,q⟩:=h;cases ry;rcases hq with hq | hq
 · obtain⟨its,r,pl,hz⟩:=I.list hq;refine SeqAt.notIn_listAt (JS x) pl.isList (λw hw=>MB rx fx r fs w (by simpa using hw)) ⟨.bl _,H,I,rfl,?_⟩;rw[show its.toArray.any (JS x)=its.any (JS x) by simp,M5 r fs];exact q
 · obtain⟨its,r,pl,hz⟩:=I.tuple hq;refine SeqAt.notIn_tupleAt (JS x) pl (λw hw=>MB rx fx r fs w (by simpa using hw)) ⟨.bl _,H,I,rfl,?_⟩;rw[show its.toArray.any (JS x)=its.any (JS x) by simp,M5 r fs];exact q
theorem JQ:J5 X (.builtin "len") (λxs H Q=>∃p ys,xs=[.ref p]∧(SqL X.K H p ys∨SqT X.K H p ys)∧Q (.int ys.length) H):=by
 intro pins s σ H xs us Q I r h;obtain⟨p,ys,rfl,hq,q⟩:=h;obtain⟨u,rfl,rx⟩:=J6 r;cases rx;have hn:=Md;rcases hq with hq | hq
 · obtain⟨its,r',pl,hz⟩:=I.list hq;have hlen:=r'.length;exact Calls.call_len_list pl.isList (by simp only[Ax]<;>omega) ⟨.int ys.length,H,I.tok _,⟨s.toks+1,by rw[Ax,hlen]⟩,q⟩
 · obtain⟨its,r',pl,hz⟩:=I.tuple hq;have hlen:=r'.length;exact len_tuple pl (by simp only[Ax]<;>omega) ⟨.int ys.length,H,I.tok _,⟨s.toks+1,by rw[Ax,hlen]⟩,q⟩
theorem Um:J5 X (.builtin "len") (λxs H Q=>∃z,xs=[.str z]∧z.length≤Au∧Q (.int z.length) H):=by intro pins s σ H xs us Q I r h;obtain⟨z,rfl,hz,q⟩:=h;obtain⟨u,rfl,t,rfl⟩:=J6 r;have hn:=Md;exact len_str (by omega) ⟨.int z.length,H,I.tok _,⟨_,rfl⟩,q⟩
theorem Uo:J5 X (.type "list") (λxs H Q=>∃p ys,xs=[.ref p]∧(SqL X.K H p ys∨SqT X.K H p ys)∧∀l,H l=none→Q (.ref l) (HI H l (.lst ys))):=by
 intro pins s σ H xs us Q I r h;obtain⟨p,ys,rfl,hq,q⟩:=h;obtain⟨u,rfl,rx⟩:=J6 r;cases rx;have fin:∀(its:List Value),Vals ys its→ys.length≤Au→∀(h':Heap)(c':Nat),(∀b o',s.heap.get? b=some o'→h'.get? b=some o')→
  h'.get? s.heap.objs.size=some {cls:= .type "list",dict:=none,data:= .seq its.toArray c',slots:=#[]}→EP X pins σ Q (.ref s.heap.objs.size) {s with heap:=h'}:=λits r' hz h' c' kp e=>
  ⟨.ref s.heap.objs.size,_,I.laid (t':=s.toks) kp (Ag _) (show ObjOk X.prog X.w _ h' _ (.lst ys) from⟨hz,its,c',r',e⟩),rfl,q _ (I.hok.fresh (Ag _))⟩
 rcases hq with hq | hq
 · obtain⟨its,r',pl,hz⟩:=I.list hq;have hlen:=r'.length;obtain⟨o,ho,hc,n,hd⟩:=pl.isList;exact call_list_seq p (.inl rfl) ho hc hd (λh' c' kp e=>fin its r' hz h' c' kp e) (by simp only[Ax]<;>omega)
 · obtain⟨its,r',pl,hz⟩:=I.tuple hq;have hlen:=r'.length;obtain⟨o,ho,hc,n,hd⟩:=pl;exact call_list_seq p (.inr rfl) ho hc hd (λh' c' kp e=>fin its r' hz h' c' kp e) (by simp only[Ax]<;>omega)
theorem On:J5 X (.type "tuple") (λxs H Q=>∃p ys,xs=[.ref p]∧((SqL X.K H p ys∧∀l,H l=none→Q (.ref l) (HI H l (.tup ys)))∨(SqT X.K H p ys∧Q (.ref p) H))):=by
 intro pins s σ H xs us Q I r h;obtain⟨p,ys,rfl,h⟩:=h;obtain⟨u,rfl,rx⟩:=J6 r;cases rx;rcases h with⟨hq,q⟩ | ⟨hq,q⟩
 · obtain⟨its,r',pl,hz⟩:=I.list hq;have hlen:=r'.length;refine call_tuple_list pl.isList (λh' kp=>?_) (by simp only[Ax]<;>omega);have I1:Inv X pins σ H {s with heap:=h'}:=I.kept (t':=s.toks) kp;have I2:Inv X pins σ (HI H h'.objs.size (.tup ys)) {s with heap:=h'.push {cls:= .type "tuple",data:= .seq its.toArray}}:=
    I1.laid (t':=s.toks) (λb o e=>Ad _ e) (Ag _) (show ObjOk X.prog X.w _ _ _ (.tup ys) from⟨hz,its,r',IsTupP.new _ _⟩)
   exact⟨.ref h'.objs.size,_,I2,rfl,q _ (I1.hok.fresh (Ag _))⟩
 · obtain⟨its,r',pl,hz⟩:=I.tuple hq;exact call_tuple_same pl ⟨.ref p,H,I,rfl,q⟩
def Uv(K:Ao)(T:String)(x:V)(H:Hp):Prop:=match x with
 | .str _=>T="str"
 | .int _=>T="int"
 | .ref p=>(T="list"∧∃xs,SqL K H p xs)∨(T="tuple"∧∃o,K.lookup p=some o∧o.cls= .type "tuple"∧o.dict=none)∨
  (T="dict"∧((∃kvs,H p=some (.dK kvs))∨∃kvs,H p=some (.dT kvs)))∨(T="set"∧∃S n,H p=some (.set S n))
 | _=>False
theorem VN{T:String}{x:V}{v:Value}(I:Inv X pins σ H s)(r:RelV x v)(ty:Uv X.K T x H):
 s.TypeIs v T∧∀a,v= .ref a→∃ob,s.heap.get? a=some ob∧ob.dict=none:=by
 cases x with
 | str z=> obtain⟨t,rfl⟩:=r;cases(show T="str" from ty);exact⟨typeIs_str s z t,λ_ e=>nomatch e⟩
 | int i=> obtain⟨t,rfl⟩:=r;cases(show T="int" from ty);exact⟨typeIs_int s i t,λ_ e=>nomatch e⟩
 | ref p=>
  cases r;rcases ty with⟨rfl,xs,hq⟩ | ⟨rfl,o,hk,hc,hd⟩ | ⟨rfl,hk⟩ | ⟨rfl,S,n,hk⟩
  · obtain⟨its,_,pl,_⟩:=I.list hq;refine⟨pl.isList.typeIs,λa e=>?_⟩;cases e;obtain⟨o,n,e,c,hd,_⟩:=pl;exact⟨o,e,hd⟩
  · refine⟨⟨o,I.kIn p o hk,hc⟩,λa e=>?_⟩;cases e;exact⟨o,I.kIn _ o hk,hd⟩
  · have z:∃o,s.heap.get? p=some o∧o.ExactDict:=by
     rcases hk with⟨kvs,hk⟩ | ⟨kvs,hk⟩
     · obtain⟨_,_,_,_,o,_,_,e,ex,_⟩:=I.hok p _ hk;exact⟨o,e,ex⟩
     · obtain⟨_,_,_,_,o,_,_,e,ex,_⟩:=I.hok p _ hk;exact⟨o,e,ex⟩
    obtain⟨o,e,ex⟩:=z;refine⟨⟨o,e,ex.1⟩,λa e2=>?_⟩;cases e2;exact⟨o,e,ex.2.1⟩
  · obtain⟨o,_,_,_,e,ex,_⟩:=I.hok p _ hk;refine⟨⟨o,e,ex.1⟩,λa e2=>?_⟩;cases e2;exact⟨o,e,ex.2.1⟩
 | _=>exact C4 ty
def tBM(K:Ao)(T:String)(r:V→List V→Hp→VK→Prop)(to:TE)(t:TA):TE:=λσ H Q=>to σ H λx H1=>Uv K T x H1∧t σ H1 λxs H2=>r x xs H2 Q
variable{o:Expr}{es:List Expr}{to:TE}{t:TA}{name:Str}{apos cpos:Pos}{T id:String}{r:V→List V→Hp→VK→Prop}
theorem KN(pa:PlainAttrs T)(slot:Slot T name id)(hty:typeOf (.builtin id)=pure (.type "method_descriptor"))(hm:MtR X id r)(ho:PE X o to)(ha:PA X (e::es) t)
 (hbase:attributeBase o name X.env (eval o X.env)=eval o X.env:=by rfl)
 (hfew:((backTo cpos (AD (e::es) X.env)).all (λx=>!x.1) && (backToKw cpos (keywordEach [] X.env)).all (λx=>x.1.isSome)
  && decide ((e::es).length+([]:List Keyword).length+(if([]:List Keyword).isEmpty then 0 else 1)<30))=true:=by rfl)
 (hline:(apos.endLine==cpos.line)=true:=by rfl) (hs:AD (e::es) X.env=(false,eval e X.env)::AD es X.env:=by rfl) (hplain:(backTo cpos (AD es X.env)).any (·.1)=false:=by rfl):
 PE X (.Call (.Attribute o name apos) (e::es) [] cpos) (tBM X.K T r to t):=by
 intro pins s σ H Q I h;refine wpAny_Call_method_late hbase hfew hline rfl (HN (ho pins s σ H _ I h) λv s1 ⟨x,H1,I1,r1,ty,q1⟩=>?_);obtain⟨h1,h2⟩:=VN I1 r1 ty;refine⟨T,id,pa,slot,hty,h1,h2,?_⟩;have hA:=ha cpos pins s1 σ H1 _ I1 q1;rw[hs] at hA ⊢;refine FI (by show(false || (backTo cpos (AD es X.env)).any (·.1))=false;rw[hplain]<;>rfl) (Gf ?_);exact HN hA λus s2 ⟨vs,H2,I2,r2,q2⟩=>hm pins s2 σ H2 x vs v us Q I2 r1 r2 q2
end
def Oz(X:Cx)(id:String)(r:V→List V→Hp→VK→Prop):Prop:=
 ∀(pins:List (Addr×Obj))(s:Shared)(σ:St)(H:Hp)(x:V)(xs:List V)(v:Value)(us:List Value)(Q:VK),Inv X pins σ H s→RelV x v→Vals xs us→r x xs H Q→
  wpAny (model X.prog X.w) X.A (call (.builtin id) (v::us)) (EP X pins σ Q) X.xe s
theorem Vals.one:∀{x:V}{us:List Value},Vals [x] us→∃u,us=[u]∧RelV x u
 | _,_,.cons r .nil=>⟨_,rfl,r⟩
theorem Vals.eraseIdx:∀{xs:List V}{us:List Value}(i:Nat),Vals xs us→Vals (xs.eraseIdx i) (us.eraseIdx i)
 | _,_,_,.nil=> .nil
 | _,_,0,.cons _ t=>t
 | _,_,i+1,.cons r t=> .cons r (Vals.eraseIdx i t)
theorem Tj{α:Type}:∀(l:List α)(i:Nat),(l.eraseIdx i).length≤l.length
 | [],_=>Ag _
 | _::_,0=>CW _
 | _::r,i+1=>Nat.succ_le_succ (Tj r i)
section
variable{l:Addr}{ys zs:List V}
theorem Inv.lset{its its':List Value}{n:Nat}{f:Array Value→Array Value}{t':Nat}(I:Inv X pins σ H s)(hH:H l=some (.lst xs))
 (e:s.heap.get? l=some {cls:= .type "list",data:= .seq its.toArray n}) (hf:f its.toArray=its'.toArray) (hv:Vals ys its') (hz:ys.length≤Au):
 Inv X pins σ (HI H l (.lst ys)) {s with heap:=s.heap.update l (Bm f),toks:=t'}:=by
 have q:=PySem.IsL.update e f;rw[hf] at q;refine I.write (x:=l) (e:=l) (by rw[hH];exact trivial) (.inl rfl) (λb' u hb hu=>(AI s.heap (Bm f) (Bq hb)).trans hu) ⟨_,q⟩ ?_;exact⟨hz,its',_,hv,q⟩
theorem Inv.lnew{its:List Value}{t':Nat}(I:Inv X pins σ H s)(hv:Vals ys its)(hz:ys.length≤Au):
 Inv X pins σ (HI H s.heap.objs.size (.lst ys)) {s with heap:=s.heap.push {cls:= .type "list",data:= .seq its.toArray},toks:=t'}:=
 I.laid (λ_ _ q=>Ad _ q) (Ag _) ⟨hz,its,0,hv,Am _ rfl⟩
theorem Inv.fresh(I:Inv X pins σ H s):H s.heap.objs.size=none:=I.hok.fresh (Ag _)
theorem Inv.lstM(I:Inv X pins σ H s)(hH:H l=some (.lst xs)):xs.length≤Au∧∃(its:List Value)(n:Nat),Vals xs its∧xs.length=its.length∧s.heap.get? l=some {cls:= .type "list",data:= .seq its.toArray n}:=by obtain⟨z,its,n,r,e⟩:=I.hok l _ hH;exact⟨z,its,n,r,r.length,e⟩
theorem O_(h:n≤Au):D7 n=false:=by unfold D7;exact decide_eq_false (by omega)
end
def RQ:V→List V→Hp→VK→Prop:=λx vs H Q=>∃l xs y,x= .ref l∧vs=[y]∧H l=some (.lst xs)∧xs.length<Au∧Q .non (HI H l (.lst (xs++[y])))
theorem Lq:Oz X "list.append" RQ:=by intro pins s σ H x vs v us Q I rx rv h;obtain⟨l,xs,y,rfl,rfl,hH,hz,q⟩:=h;cases rx;obtain⟨u,rfl,ru⟩:=rv.one;obtain⟨z,its,n,r,hl,e⟩:=I.lstM hH;refine call_meets F.slot_list_append ⟨_,e,rfl⟩ F.entry_list_append (F.args_list_append_2 _ _) (PySem.list_append l its.toArray n u (by rw[Ax];omega)) ⟨e,?_⟩;refine⟨.non,_,I.lset (its':=its++[u]) hH e (by simp) (r.append (.cons ru .nil)) ?_,rfl,q⟩;rw[A5,DZ];omega
def Wz:V→List V→Hp→VK→Prop:=λx vs H Q=>∃l b xs zs,x= .ref l∧vs=[.ref b]∧H l=some (.lst xs)∧H b=some (.lst zs)∧xs.length+zs.length≤Au∧Q .non (HI H l (.lst (xs++zs)))
theorem XH:Oz X "list.extend" Wz:=by
 intro pins s σ H x vs v us Q I rx rv h;obtain⟨l,b,xs,zs,rfl,rfl,hH,hB,hz,q⟩:=h;cases rx;obtain⟨u,rfl,ru⟩:=rv.one;cases ru;obtain⟨z,its,n,r,hl,e⟩:=I.lstM hH;obtain⟨z2,its2,n2,r2,hl2,e2⟩:=I.lstM hB;have hsz:its.toArray.size+its2.toArray.size≤Au:=by rw[Ax,Ax];omega
 have hlong:¬(!its.toArray.isEmpty && D7 (its.toArray.size+its2.toArray.size))=true:=by rw[O_ hsz,DH];exact As
 refine call_meets F.slot_list_extend ⟨_,e,rfl⟩ F.entry_list_extend (F.args_list_extend_2 _ _)
  (AutoSeq1.list_extend_list_list_0 l its.toArray n b its2.toArray n2 hlong (by rw[Ax];omega) (by omega)) ⟨e,e2,?_⟩
 refine⟨.non,_,I.lset (its':=its++its2) hH e (by simp) (r.append r2) ?_,rfl,q⟩;rw[A5];omega
def VE:V→List V→Hp→VK→Prop:=λx vs H Q=>∃l xs i k y,x= .ref l∧vs=[.int i]∧H l=some (.lst xs)∧ -(2^63)≤i∧i<2^63∧seqIndex? i xs.length=some k∧xs[k]?=some y∧Q y (HI H l (.lst (xs.eraseIdx k)))
theorem Xp:Oz X "list.pop" VE:=by
 intro pins s σ H x vs v us Q I rx rv h;obtain⟨l,xs,i,k,y,rfl,rfl,hH,h1,h2,hk,hy,q⟩:=h;cases rx;obtain⟨u,rfl,ru⟩:=rv.one;obtain⟨t,rfl⟩:=ru;obtain⟨z,its,n,r,hl,e⟩:=I.lstM hH;obtain⟨w,hw,rw'⟩:=r.get hy;refine call_meets F.slot_list_pop ⟨_,e,rfl⟩ F.entry_list_pop (F.args_list_pop_2 _ _)
  (MeetsSeq.list_pop_at l its.toArray n i t k w (fitsIndex_both h1 h2) (by rw[Ax,←hl];exact hk) (by rw[←Cm];exact hw) (by rw[Ax];omega)) ⟨e,?_⟩
 refine⟨y,_,I.lset (its':=its.eraseIdx k) hH e ?_ (r.eraseIdx k) ?_,rw',q⟩
 · show its.toArray.eraseIdxIfInBounds k=(its.eraseIdx k).toArray;rw[List.eraseIdxIfInBounds_toArray]
 · have:=Tj xs k;omega
def Q4:R2:=λx y H Q=>∃l b xs zs,x= .ref l∧y= .ref b∧H l=some (.lst xs)∧H b=some (.lst zs)∧xs.length+zs.length≤Au∧∀p,H p=none→Q (.ref p) (HI H p (.lst (xs++zs)))
theorem OD:IL X (binaryOp .Add) Q4:=by
 intro pins s σ H x y v u Q I rx ry h;obtain⟨l,b,xs,zs,rfl,rfl,hH,hB,hz,q⟩:=h;cases rx;cases ry;obtain⟨z,its,n,r,hl,e⟩:=I.lstM hH;obtain⟨z2,its2,n2,r2,hl2,e2⟩:=I.lstM hB;refine PySem.P.add_list e e2 ?_ (by rw[Ax,Ax];omega);have ea:its.toArray++its2.toArray=(its++its2).toArray:=by simp
 rw[ea];exact⟨.ref _,_,I.lnew (t':=s.toks) (r.append r2) (by rw[A5];omega),rfl,q _ I.fresh⟩
theorem Yz{a c:Nat}(hac:a≤c)(hc:c≤n):sliceBounds (some (a:Int)) (some (c:Int)) none n=((a:Int),(c:Int),1):=by
 simp only[sliceBounds,Fe];have h1:¬((a:Int)<0):=by omega
 have h2:¬((c:Int)<0):=by omega
 simp only[h1,h2,if_false,show(1:Int)>0 by decide,if_true];congr 1
 · omega
 · congr 1;omega
set_option maxRecDepth 100000 in
theorem KI{l b sl:Addr}{items new:Array Value}{n n2:Nat}{vl vu:Value}{a c:Nat}{Q:Unit→Shared→Prop}
 (e:s.heap.get? l=some {cls:= .type "list",data:= .seq items n}) (e2:s.heap.get? b=some {cls:= .type "list",data:= .seq new n2}) (hne:l≠b)
 (hs:s.heap.IsSliceOf sl vl vu .none) (pl:IsPart vl (some (a:Int))) (pu:IsPart vu (some (c:Int))) (hac:a≤c) (hc:c≤items.size)
 (hsz:items.size+new.size≤Au) (h:Q () {s with heap:=s.heap.update l (Bm λxs=>xs.extract 0 a++new++xs.extract c xs.size)}):
 wpAny (model prog w) A (setItem (.ref l) (.ref sl) (.ref b)) Q E s:=by
 have hl:s.heap.IsList l items:=PySem.IsL.isList e;have hb:s.heap.IsList b new:=PySem.IsL.isList e2;obtain⟨os,hos,hcs,hds⟩:=id hs;have hTs:s.TypeIs (.ref sl) "slice":=⟨os,hos,hcs⟩;have hstep:¬((rawPart none==rawInt 0)=true):=As;have hsame:BI (.ref l) (.ref b)=false:=by unfold BI;exact beq_eq_false_iff_ne.mpr hne
 have hmax:(max (a:Int) (c:Int)).toNat=c:=by omega
 have hz':((λxs:Array Value=>xs.extract 0 a++new++xs.extract c xs.size) items).size≤Au+1:=by simp only[ET,Array.size_extract];omega
 unfold setItem
 try with_reducible refine AS ?_
 first | refine Aa (Ac ?_) | skip
 refine Aa (ES hl.typeIs (by decide) ?_);refine Aa (AT (name:=Cf "__setitem__") hl.typeIs slot_list_setitem
  (AW slot_list_setitem hl.typeIs entry_list_setitem ?_ (args_list_setitem _ _ _)))
 show wpAny _ _ (E3 (.ref sl)>>=_) _ _ s;refine Aa ?_;unfold E3;refine Aa (Ef hTs slice_no_index ?_);simp only[Option.isNone_none,if_true];refine Ac ?_;show wpAny _ _ (typeOf (.ref sl)>>=_) _ _ s;refine Aa (Co hTs ?_)
 first
  | rw[if_neg (by decide)]
  | refine E4 (by decide) ?_
 rw[listSliceParts_eq];refine Aa (Aa (AO hos hds (x:= .none) rfl (Aa (FT .none ?_))));rw[if_neg hstep];refine Aa (AO hos hds (x:=vl) rfl (Aa (FT pl ?_)));refine Aa (AO hos hds (x:=vu) rfl (Aa (FT pu (Ac ?_))))
 first
  | simp only[hsame,BR,if_false]
  | refine E4 hsame ?_
  | (dsimp only
     rw[if_neg (by rw[hsame];exact As)])
 refine Aa (m:=EZ (.ref b) "must assign iterable to extended slice") ?_;unfold EZ;refine Aa (Co hb.typeIs ?_)
 first
  | refine PySem.W.KFB.if_so (by decide) ?_
  | rw[if_pos (by decide)]
  | simp only[beq_self_eq_true,Bool.true_or,if_true]
 unfold DM;refine Aa (AQ e2 rfl (Ac ?_));refine Aa (Aa (AQ e rfl (Ac ?_)));refine Aa (Du ((sliceIndices_raw (some (a:Int)) (some (c:Int)) none items.size (by simp)).trans (congrArg (pure:Int×Int×Int→Sem (Int×Int×Int)) (Yz hac hc))) ?_);show wpAny _ _ (if((1:Int)==1)=true then _ else _) _ _ s
 rw[if_pos (by decide)];refine Aa (BJ ?_)
 first
  | simp only[O_ hsz,BR,if_false]
  | refine E4 (O_ hsz) ?_
 first | refine Aa (Ac ?_) | skip
 show wpAny _ _ (updateSeq l (λxs=>xs.extract 0 ((a:Int)).toNat++new++xs.extract (max (a:Int) (c:Int)).toNat xs.size)>>=_) _ _ s;rw[hmax,Ba];refine Aa (BB (hz:=AL (CZ _ _) hsz) (_hz':=hz') e rfl ?_);refine Aa (Cg ?_)
 first
  | exact Aa (Ac (Ac ⟨.none,rfl,Ac h⟩))
  | exact Ac ⟨.none,rfl,Ac h⟩
section
variable{κ:Type}[DecidableEq κ]
def Io(kvs:List (κ×V))(k:κ):Option V:=(kvs.find? λkv=>decide (kv.1=k)).map (·.2)
def Ii(kvs:List (κ×V))(k:κ)(v:V):List (κ×V):=
 if(kvs.any λkv=>decide (kv.1=k))=true then kvs.map (λkv=>if kv.1=k then(kv.1,v) else kv) else kvs++[(k,v)]
theorem K2{p:κ×V}{r:List (κ×V)}{k:κ}(e:p.1=k):Io (p::r) k=some p.2:=by simp[Io,Cy,e]
theorem K1{p:κ×V}{r:List (κ×V)}{k:κ}(e:¬p.1=k):Io (p::r) k=Io r k:=by simp[Io,Cy,e]
theorem NW(k:κ):∀kvs:List (κ×V),(kvs.any λkv=>decide (kv.1=k))=(Io kvs k).isSome
 | []=>rfl
 | p::r=>by
  rw[BO];by_cases e:p.1=k
  · simp only[K2 e,decide_eq_true e,Bool.true_or,Option.isSome_some]
  · rw[K1 e,decide_eq_false e,Bool.false_or];exact NW k r
theorem SK(k j:κ)(y:V):∀kvs:List (κ×V),Io (kvs.map λkv=>if kv.1=k then(kv.1,y) else kv) j=(Io kvs j).map λx=>if j=k then y else x
 | []=>rfl
 | p::r=>by
  have ih:=SK k j y r;rw[A0];by_cases h:p.1=k
  · rw[if_pos h];by_cases e:p.1=j
    · rw[K2 (p:=(p.1,y)) e,K2 e,Eg,if_pos (e.symm.trans h)]
    · rw[K1 (p:=(p.1,y)) e,K1 e,ih]
  · rw[if_neg h];by_cases e:p.1=j
    · rw[K2 (p:=p) e,K2 e,Eg,if_neg (λz=>h (e.trans z))]
    · rw[K1 (p:=p) e,K1 e,ih]
theorem T8(k j:κ)(y:V):∀kvs:List (κ×V),Io kvs k=none→Io (kvs++[(k,y)]) j=if j=k then some y else Io kvs j
 | [],_=>by
  by_cases e:k=j
  · rw[if_pos e.symm];exact K2 (p:=(k,y)) e
  · rw[if_neg (λz=>e z.symm)];exact K1 (p:=(k,y)) e
 | p::r,hn=>by
  rw[Ff];have hk:¬p.1=k:=λz=>by rw[K2 z] at hn;cases hn
  rw[K1 hk] at hn;have ih:=T8 k j y r hn;by_cases e:p.1=j
  · rw[K2 e,K2 e,if_neg (λz=>hk (e.trans z))]
  · rw[K1 e,K1 e,ih]
theorem Pq(kvs:List (κ×V))(k j:κ)(y:V):Io (Ii kvs k y) j=if j=k then some y else Io kvs j:=by
 unfold Ii;by_cases a:(kvs.any λkv=>decide (kv.1=k))=true
 · rw[if_pos a,SK];rw[NW] at a;by_cases e:j=k
   · obtain⟨x,hx⟩:=Fd.mp a;rw[if_pos e,e,hx,Eg,if_pos rfl]
   · rw[if_neg e];cases Io kvs j with
     | none=>rfl
     | some x=>rw[Eg,if_neg e]
 · rw[if_neg a];refine T8 k j y kvs ?_;rw[NW] at a;cases q:Io kvs k with
   | none=>rfl
   | some x=>rw[q] at a;exact(a rfl).elim
theorem MN(kvs:List (κ×V))(k:κ)(v:V):(Ii kvs k v).length≤kvs.length+1:=by
 unfold Ii
 split
 · rw[Ab];omega
 · rw[A5,AF,List.length_nil];omega
theorem RelO.isSome_eq{o:Option V}{u:Option Value}(r:RelO o u):o.isSome=u.isSome:=by
 cases o with
 | none=>cases u with
  | none=>rfl
  | some _=>exact(show False from r).elim
 | some _=>cases u with
  | none=>exact(show False from r).elim
  | some _=>rfl
theorem RelO.getD{o:Option V}{u:Option Value}{d:V}{d':Value}(r:RelO o u)(rd:RelV d d'):RelV (o.getD d) (u.getD d'):=by
 cases o with
 | none=>cases u with
  | none=>exact rd
  | some _=>exact(show False from r).elim
 | some _=>cases u with
  | none=>exact(show False from r).elim
  | some _=>exact r
theorem KV.val{kvs:List (κ×V)}{vs:List (κ×Value)}(r:KV kvs vs)(k:κ):RelO (Io kvs k) (valueAt vs k):=by
 unfold KV at r
 induction r with
 | nil=>exact True.intro
 | @cons p q ps qs h t ih=>
  obtain⟨h1,h2⟩:=h;by_cases e:p.1=k
  · have e':q.1=k:=h1.symm.trans e;have b:valueAt (q::qs) k=some q.2:=by simp[valueAt,Cy,e']
    rw[K2 e,b];exact h2
  · have e':¬q.1=k:=λz=>e (h1.trans z);have b:valueAt (q::qs) k=valueAt qs k:=by simp[valueAt,Cy,e']
    rw[K1 e,b];exact ih
theorem KV.any{kvs:List (κ×V)}{vs:List (κ×Value)}(r:KV kvs vs)(k:κ):(kvs.any λkv=>decide (kv.1=k))=vs.any λkv=>decide (kv.1=k):=by
 unfold KV at r
 induction r with
 | nil=>rfl
 | cons h t ih=>rw[BO,BO,ih,h.1]
theorem KV.repl{kvs:List (κ×V)}{vs:List (κ×Value)}(r:KV kvs vs)(k:κ){y:V}(ry:RelV y u):
 KV (kvs.map λkv=>if kv.1=k then(kv.1,y) else kv) (vs.map λkv=>if kv.1=k then(kv.1,u) else kv):=by
 unfold KV at r ⊢
 induction r with
 | nil=>exact .nil
 | @cons p q ps qs h t ih=>
  rw[A0,A0];refine .cons ?_ ih;obtain⟨h1,h2⟩:=h;by_cases e:p.1=k
  · rw[if_pos e,if_pos (h1.symm.trans e)];exact⟨h1,ry⟩
  · rw[if_neg e,if_neg (λz=>e (h1.trans z))];exact⟨h1,h2⟩
theorem KV.put{kvs:List (κ×V)}{vs:List (κ×Value)}(r:KV kvs vs)(k:κ){y:V}(ry:RelV y u):KV (Ii kvs k y) (stored vs k u):=by
 unfold Ii stored;rw[r.any k];by_cases e:(vs.any λkv=>decide (kv.1=k))=true
 · rw[if_pos e,if_pos e];exact r.repl k ry
 · rw[if_neg e,if_neg e];exact Paired.snoc r ⟨rfl,ry⟩
theorem KV.length{kvs:List (κ×V)}{vs:List (κ×Value)}(r:KV kvs vs):kvs.length=vs.length:=DS r
end
theorem LB{k:Ic}(r:RelV (kV k) u):(Jg P w).is k u=true:=by
 cases k with
 | inl i=>obtain⟨t,e⟩:=(show ∃t,u=Value.int i t from r);subst e;exact YO P w i t
 | inr x=>obtain⟨t,e⟩:=(show ∃t,u=Value.str x t from r);subst e;exact YQ P w x t
theorem Th:∀{ks:List Ic}{us:List Value},Vals (ks.map kV) us→ItemsAre (Jg P w) ks us
 | [],_,r=>by rw[D8] at r;cases r;exact .nil
 | k::ks,_,r=>by
  rw[A0] at r;cases r with
  | cons h t=>exact .cons (LB h) (Th t)
abbrev KT(H:Hp):List (List Ic×V)→List (List Ic×Addr×Value)→Prop:=Paired λp q=>p.1=q.1∧H q.2.1=some (.tup (p.1.map kV))∧RelV p.2 q.2.2
theorem KT.val{kvs:List (List Ic×V)}{xs:List (List Ic×Addr×Value)}(r:KT H kvs xs)(k:List Ic):RelO (Io kvs k) ((atKey xs k).map (·.2)):=by
 induction r with
 | nil=>exact True.intro
 | @cons p q ps qs h t ih=>
  obtain⟨h1,_,h2⟩:=h;by_cases e:p.1=k
  · have e':q.1=k:=h1.symm.trans e;have b:atKey (q::qs) k=some q.2:=by simp[atKey,Cy,e']
    rw[K2 e,b];exact h2
  · have e':¬q.1=k:=λz=>e (h1.trans z);have b:atKey (q::qs) k=atKey qs k:=by simp[atKey,Cy,e']
    rw[K1 e,b];exact ih
theorem KT.repl{kvs:List (List Ic×V)}{xs:List (List Ic×Addr×Value)}(r:KT H kvs xs)(k:List Ic){y:V}(ry:RelV y u):
 KT H (kvs.map λkv=>if kv.1=k then(kv.1,y) else kv) (xs.map (putAt k u)):=by
 induction r with
 | nil=>exact .nil
 | @cons p q ps qs h t ih=>
  rw[A0,A0];refine .cons ?_ ih;obtain⟨h1,h2,h3⟩:=h;unfold putAt;by_cases e:p.1=k
  · rw[if_pos e,if_pos (h1.symm.trans e)];exact⟨h1,h2,ry⟩
  · rw[if_neg e,if_neg (λz=>e (h1.trans z))];exact⟨h1,h2,h3⟩
theorem KT.put{kvs:List (List Ic×V)}{xs:List (List Ic×Addr×Value)}(r:KT H kvs xs)(k:List Ic){y:V}(hb:H b=some (.tup (k.map kV)))(ry:RelV y u):
 KT H (Ii kvs k y) (storedH xs k b u):=by
 have e:(kvs.any λkv=>decide (kv.1=k))=(atKey xs k).isSome:=by rw[NW,(r.val k).isSome_eq,EU]
 unfold Ii storedH;rw[e];by_cases q:(atKey xs k).isSome=true
 · rw[if_pos q,if_pos q];exact r.repl k ry
 · rw[if_neg q,if_neg q];exact Paired.snoc r ⟨rfl,hb,ry⟩
theorem KT.keeps{H':Hp}{kvs:List (List Ic×V)}{xs:List (List Ic×Addr×Value)}(r:KT H kvs xs)(ht:∀b ys,H b=some (.tup ys)→H' b=some (.tup ys)):KT H' kvs xs:=
 Paired.mapP r λ_ _ z=>⟨z.1,ht _ _ z.2.1,z.2.2⟩
theorem Q_{u:HO}(ok:HOk P w H h)(e:Rd H a u):ObjOk P w H h a u:=e.ok ok
theorem L_{kvs:List (Ic×V)}(ok:HOk P w H h)(e:Rd H a (.dK kvs)):kvs.length≤Au∧(a==Cb)=false∧∃vs,KV kvs vs∧h.DictOf (Jg P w) a vs:=
 show ObjOk P w H h a (.dK kvs) from Q_ ok e
theorem O2{kvs:List (Ic×V)}(ok:HOk P w H h)(e:H a=some (.dK kvs)):kvs.length≤Au∧(a==Cb)=false∧∃vs,KV kvs vs∧h.DictOf (Jg P w) a vs:=L_ ok (.inl e)
theorem My{ks:List Ic}(ok:HOk P w H h)(e:H a=some (.tup (ks.map kV))):(tupleKind (Jg P w)).is h ks a:=by obtain⟨_,its,r,o,h1,h2,_,n,h3⟩:=(show ObjOk P w H h a (.tup (ks.map kV)) from ok a _ e);exact⟨o,its.toArray,n,h1,h2,h3,by simpa using Th r⟩
theorem Ma{kvs:List (List Ic×V)}(ok:HOk P w H h)(e:Rd H a (.dT kvs)):kvs.length≤Au∧(a==Cb)=false∧
 ∃xs,KT H kvs xs∧h.DictOfH (tupleKind (Jg P w)) a xs:=by
 obtain⟨z,y,xs,r,o,es,ep,h1,h2,h3,h4,h5⟩:=(show ObjOk P w H h a (.dT kvs) from Q_ ok e);refine⟨z,y,xs,r,o,es,ep,h1,h2,h3,h4,λx hx=>?_,h5⟩;have all:∀{l:List (List Ic×V)}{m:List (List Ic×Addr×Value)},KT H l m→∀x∈m,(tupleKind (Jg P w)).is h x.1 x.2.1:=by
  intro l m q
  induction q with
  | nil=>intro x hx;exact nomatch hx
  | @cons p q ps qs hq t ih=>
   intro x hx;rcases Ak.mp hx with e | hx
   · subst e;exact My ok (by rw[←hq.1];exact hq.2.1)
   · exact ih x hx
 exact all r x hx
theorem UV{kvs:List (List Ic×V)}(ok:HOk P w H h)(e:H a=some (.dT kvs)):kvs.length≤Au∧(a==Cb)=false∧
 ∃xs,KT H kvs xs∧h.DictOfH (tupleKind (Jg P w)) a xs:=Ma ok (.inl e)
def DGet(H:Hp)(a:Addr)(y:V)(r:Option V):Prop:=
 (∃kvs k,Rd H a (.dK kvs)∧y=kV k∧r=Io kvs k)∨∃kvs k b,Rd H a (.dT kvs)∧y= .ref b∧H b=some (.tup (k.map kV))∧r=Io kvs k
def DPut(H:Hp)(a:Addr)(y v:V)(H':Hp):Prop:=
 (∃kvs k,H a=some (.dK kvs)∧y=kV k∧kvs.length<Au∧H'=HI H a (.dK (Ii kvs k v)))∨
 ∃kvs k b,H a=some (.dT kvs)∧y= .ref b∧H b=some (.tup (k.map kV))∧kvs.length<Au∧H'=HI H a (.dT (Ii kvs k v))
theorem DGet.k{kvs:List (Ic×V)}{k:Ic}(e:H a=some (.dK kvs)):DGet H a (kV k) (Io kvs k):= .inl ⟨kvs,k,.inl e,rfl,rfl⟩
theorem DPut.k{kvs:List (Ic×V)}{k:Ic}{v:V}(e:H a=some (.dK kvs))(hl:kvs.length<Au):DPut H a (kV k) v (HI H a (.dK (Ii kvs k v))):= .inl ⟨kvs,k,e,rfl,hl,rfl⟩
section
variable{y v:V}{r:Value}{o:Option V}
theorem Inv.big(I:Inv X pins σ H s):Cb<s.heap.objs.size:=by have h:AH<s.heap.objs.size:=(I.mod.glob.keeps I.bk).lt;exact BW (by decide) h
theorem WO{Q:Value→Shared→Prop}(hu:A.units+1<cLine)(I:Inv X pins σ H s)(g:DGet H a y (some v))(ry:RelV y u)(h:∀w' s',Inv X pins σ H s'→RelV v w'→Q w' s'):
 wpAny (model X.prog X.w) A (getItem (.ref a) u) Q E s:=by
 rcases g with⟨kvs,k,e,ey,l⟩ | ⟨kvs,k,b,e,ey,eb,l⟩
 · subst ey;obtain⟨z,hd,vs,rel,dd⟩:=L_ I.hok e;obtain⟨w',hw,rw'⟩:=RelO.some_of (v:=v) (o:=valueAt vs k) (by rw[l];exact rel.val k);exact wpAny_getItem_of (LB ry) dd.mapOf hw (h w' _ (I.tok _) rw')
 · subst ey;cases(show u=Value.ref b from ry);obtain⟨z,hd,xs,rel,dd⟩:=Ma I.hok e;obtain⟨w',hw,rw'⟩:=RelO.some_of (v:=v) (o:=(atKey xs k).map (·.2)) (by rw[l];exact rel.val k);obtain⟨p,hp,hp2⟩:=Option.map_eq_some_iff.mp hw;refine wpAny_getItem_heap (tupleKind_room_in1 hu) (My I.hok eb) dd hp ?_;rw[hp2];exact h w' _ (I.tok _) rw'
theorem Vv{Q:Value→Shared→Prop}(hu:A.units+1<cLine)(I:Inv X pins σ H s)(g:DGet H a y o)(ry:RelV y u)(h:∀s',Inv X pins σ H s'→Q (.bool (!o.isSome)) s'):
 wpAny (model X.prog X.w) A (By .NotIn u (.ref a)) Q E s:=by
 rcases g with⟨kvs,k,e,ey,l⟩ | ⟨kvs,k,b,e,ey,eb,l⟩
 · subst ey;obtain⟨z,hd,vs,rel,dd⟩:=L_ I.hok e;refine wpAny_notIn_of (LB ry) hd dd.mapOf ?_;rw[←(rel.val k).isSome_eq,←l];exact h _ (I.tok _)
 · subst ey;cases(show u=Value.ref b from ry);obtain⟨z,hd,xs,rel,dd⟩:=Ma I.hok e;refine wpAny_notIn_heap (tupleKind_room_in1 hu) (My I.hok eb) hd dd ?_;have q:=(rel.val k).isSome_eq;rw[EU] at q;rw[←q,←l];exact h _ (I.tok _)
theorem OK{h':Heap}{t':Nat}{ob:HO}(I:Inv X pins σ H s)(mu:Ny (H a))(hs:Bx a s.heap h')(he:∃q,h'.get? a=some q)(new:ObjOk X.prog X.w (HI H a ob) h' a ob):
 Inv X pins σ (HI H a ob) {s with heap:=h',toks:=t'}:=
 I.write (x:=a) (e:=a) mu (.inl rfl) (λb q hb z=>(hs.2 b hb).trans z) he new
theorem O9{H':Hp}{h':Heap}{kvs:List (Ic×V)}{vs:List (Ic×Value)}(z:kvs.length≤Au)(hd:(a==Cb)=false)(rel:KV kvs vs)(dd:h'.DictOf (Jg P w) a vs):
 ObjOk P w H' h' a (.dK kvs):=⟨z,hd,vs,rel,dd⟩
theorem WQ{H':Hp}{Q:Unit→Shared→Prop}(hu:A.units+1<cLine)(I:Inv X pins σ H s)(g:DPut H a y v H')(ry:RelV y u)(rv:RelV v r)(h:∀s',Inv X pins σ H' s'→Q () s'):
 wpAny (model X.prog X.w) A (setItem (.ref a) u r) Q E s:=by
 rcases g with⟨kvs,k,e,ey,l,eH⟩ | ⟨kvs,k,b,e,ey,eb,l,eH⟩
 · subst ey eH;obtain⟨z,hd,vs,rel,dd⟩:=O2 I.hok e;have hz:vs.length≤Au:=by rw[←rel.length];exact z
   have hl:(Ii kvs k v).length≤Au:=by have:=MN kvs k v;omega
   refine wpAny_setItem_pairs (hsz:=hz) (LB ry) dd λh' dd' hs=>h _ ?_;have he:∃q,h'.get? a=some q:=let⟨q,_,_,hq,_⟩:=dd';⟨q,hq⟩;exact OK I (by rw[e];exact True.intro) hs he (O9 hl hd (rel.put k rv) dd')
 · subst ey eH;cases(show u=Value.ref b from ry);obtain⟨z,hd,xs,rel,dd⟩:=UV I.hok e;have hz:xs.length≤Au:=by rw[←DS rel];exact z
   have hl:(Ii kvs k v).length≤Au:=by have:=MN kvs k v;omega
   refine wpAny_setItem_heap (hsz:=hz) (tupleKind_room_in1 hu) (My I.hok eb) dd λh' dd' hs=>h _ ?_;obtain⟨q,es,ep,hq,h2,h3,h4,_,h5⟩:=dd';refine OK I (by rw[e];exact True.intro) hs ⟨q,hq⟩ ⟨hl,hd,_,(rel.put k eb rv).keeps λc ys ec=>?_,q,es,ep,hq,h2,h3,h4,h5⟩;rw[Ij (Ki ec e (λz=>nomatch z))];exact ec
end
section
variable{kvs:List (Ic×V)}{k:Ic}
end
def Nx(i:Expr):Prop:=∀ov iv,subscripted i false ov iv=operate [ov,iv] (getItem ov iv)
theorem Wv{prog:Bv}{w:World}{A:BZ}{E:Value→Shared→Prop}{s:Shared}{env:Env}{value slice:Expr}{pos:Pos}{T id:String}{Q:Value→Shared→Prop}
 (hl:typeLookup (.type T) "__getitem__"=pure (some (.builtin id))) (hs:Nx slice)
 (h:wpAny (model prog w) A (eval value env) (λo s₁=>wpAny (model prog w) A (eval slice env) (λi s₂=>s₂.TypeIs o T∧wpAny (model prog w) A (getItem o i) Q E s₂) E s₁) E s):
 wpAny (model prog w) A (eval (.Subscript value slice pos) env) Q E s:=by
 refine Subscript_ (A4 h (λo s₁ h₁=>A4 h₁ (λi s₂ h₂=>?_) λ_ _ x=>x) λ_ _ x=>x);obtain⟨hT,h₂⟩:=h₂;unfold subscriptTail;refine Aa ?_;rw[getitemInPython_of_ne hT.not_modules];refine Aa (Ef hT hl ?_);have fin:wpAny (model prog w) A (subscripted slice false o i) (λr s₃=>wpAny (model prog w) A (letTemporaryGo value o r>>=λ_=>pure r) Q E s₃) E s₂:=by rw[hs o i];exact wpAny_operating (A4 h₂ (λr s₃ h₃=>Aa (wpAny_letTemporaryGo (Ac h₃))) λ_ _ x=>x)
 first
  | exact Ac (Aa fin)
  | exact Aa (Ac (Aa fin))
  | exact Aa fin
theorem YF{y:V}{o:Option V}(I:Inv X pins σ H s)(g:DGet H a y o):s.TypeIs (.ref a) "dict":=by
 rcases g with⟨kvs,k,e,_,_⟩ | ⟨kvs,k,b,e,_,_,_⟩
 · obtain⟨_,_,vs,_,dd⟩:=L_ I.hok e;exact dd.typeIs
 · obtain⟨_,_,xs,_,dd⟩:=Ma I.hok e;exact dd.typeIs
def Vj(td ty:TE):TE:=λσ H Q=>td σ H λx H1=>ty σ H1 λy H2=>∃a v,x= .ref a∧DGet H2 a y (some v)∧Q v H2
def Ww(ty td:TE):TE:=λσ H Q=>ty σ H λy H1=>td σ H1 λx H2=>∃a o,x= .ref a∧DGet H2 a y o∧Q (.bl (!o.isSome)) H2
def Vh(td ty tv:TE):TS:=λD σ H=>tv σ H λv H1=>td σ H1 λx H2=>ty σ H2 λy H3=>∃a H4,x= .ref a∧DPut H3 a y v H4∧D.nx σ H4
section
variable{o i value:Expr}{pos' tpos:Pos}{td ty tv:TE}
theorem NK(hu:X.A.units+1<cLine)(ho:PE X o td)(hi:PE X i ty)(hs:Nx i):PE X (.Subscript o i pos) (Vj td ty):=by intro pins s σ H Q I h;refine Wv PySem.F.slot_dict_getitem.lookup hs (HN (ho pins s σ H _ I h) λu s1 ⟨x,H1,I1,rx,q1⟩=>HN (hi pins s1 σ H1 _ I1 q1) λiv s2 ⟨y,H2,I2,ry,a,v,ex,g,q2⟩=>?_);subst ex;obtain rfl:u=Value.ref a:=rx;exact⟨YF I2 g,WO hu I2 g ry λw' s3 I3 rw'=>⟨v,H2,I3,rw',q2⟩⟩
theorem Xt(hu:X.A.units+1<cLine)(hi:PE X i ty)(ho:PE X o td):PC X .NotIn i o (Ww ty td):=by intro pins s σ H Q I h;refine HN (hi pins s σ H _ I h) λiv s1 ⟨y,H1,I1,ry,q1⟩=>HN (ho pins s1 σ H1 _ I1 q1) λu s2 ⟨x,H2,I2,rx,a,ov,ex,g,q2⟩=>?_;subst ex;obtain rfl:u=Value.ref a:=rx;exact Vv hu I2 g ry λs3 I3=>⟨.bl (!ov.isSome),H2,I3,rfl,q2⟩
theorem RO(hu:X.A.units+1<cLine)(ho:PE X o td)(hi:PE X i ty)(hv:PE X value tv)(hs:swapsWith value (some (.Subscript o i pos')) pos.line X.env=pure false):
 PS X (.Assign [.Subscript o i pos'] value pos) (Vh td ty tv):=by
 intro pins s σ H D I h;refine wpAny_Assign_Subscript (HN (hv pins s σ H _ I h) λr s1 ⟨v,H1,I1,rv,q1⟩=>HN (ho pins s1 σ H1 _ I1 q1) λu s2 ⟨x,H2,I2,rx,q2⟩=>HN (hi pins s2 σ H2 _ I2 q2) λiv s3 ⟨y,H3,I3,ry,a,H4,ex,g,q3⟩=>?_) hs;subst ex;obtain rfl:u=Value.ref a:=rx;exact WQ hu I3 g ry rv λs4 I4=>⟨σ,H4,I4,q3⟩
end
theorem OX(h:Heap)(hb:Cb<h.objs.size):ObjOk P w H (h.push {cls:= .type "dict",data:= .dict #[]}) h.objs.size (.dK []):=
 ⟨Br _,beq_eq_false_iff_ne.mpr (Bq (Aq hb)),[],.nil,Heap.DictOf.new h⟩
def VL:TE:=λ_ H Q=>∀p,H p=none→Q (.ref p) (HI H p (.dK []))
theorem WX:PE X (.Dict [] [] pos) VL:=λpins s σ H Q I h=> wpAny_Dict_empty ⟨.ref s.heap.objs.size,_,I.laid (a:=s.heap.objs.size) (o:= .dK []) (t':=s.toks) (λ_ _ q=>Ad _ q) (Ag _) (OX s.heap I.big),rfl,h _ (I.hok.fresh (Ag _))⟩
structure M1(X:Cx)(o:Expr)(m:Str)(apos:Pos)(e:Expr)(cpos:Pos):Prop where
 base:attributeBase o m X.env (eval o X.env)=eval o X.env
 few:((backTo cpos (AD [e] X.env)).all (λx=>!x.1) && (backToKw cpos (keywordEach [] X.env)).all (λx=>x.1.isSome)
  && decide (([e]:List Expr).length+([]:List Keyword).length+(if([]:List Keyword).isEmpty then 0 else 1)<30))=true
 line:(apos.endLine==cpos.line)=true
 trees:backTo cpos (AD [e] X.env)=[(false,eval e X.env)]
structure M2(X:Cx)(o:Expr)(m:Str)(apos:Pos)(e f:Expr)(cpos:Pos):Prop where
 base:attributeBase o m X.env (eval o X.env)=eval o X.env
 few:((backTo cpos (AD [e,f] X.env)).all (λx=>!x.1) && (backToKw cpos (keywordEach [] X.env)).all (λx=>x.1.isSome)
  && decide (([e,f]:List Expr).length+([]:List Keyword).length+(if([]:List Keyword).isEmpty then 0 else 1)<30))=true
 line:(apos.endLine==cpos.line)=true
 trees:backTo cpos (AD [e,f] X.env)=[(false,eval e X.env),(false,eval f X.env)]
def U5(H:Hp)(a:Addr):Prop:=(∃kvs,Rd H a (.dK kvs))∨∃kvs,Rd H a (.dT kvs)
theorem UK(I:Inv X pins σ H s)(d:U5 H a):
 s.TypeIs (.ref a) "dict"∧(∀b,Value.ref a= .ref b→∃ob,s.heap.get? b=some ob∧ob.dict=none)∧(a==Cb)=false:=by
 rcases d with⟨kvs,e⟩ | ⟨kvs,e⟩
 · obtain⟨_,hd,vs,_,dd⟩:=L_ I.hok e;refine⟨dd.typeIs,λb q=>?_,hd⟩;cases q;obtain⟨ob,_,_,h1,h2,_⟩:=dd;exact⟨ob,h1,h2.2.1⟩
 · obtain⟨_,hd,xs,_,dd⟩:=Ma I.hok e;refine⟨dd.typeIs,λb q=>?_,hd⟩;cases q;obtain⟨ob,_,_,h1,h2,_⟩:=dd;exact⟨ob,h1,h2.2.1⟩
section
variable{y d:V}{r:Value}{o:Option V}
theorem UD{Q:Value→Shared→Prop}(hu:A.units+1<cLine)(I:Inv X pins σ H s)(g:DGet H a y o)(ry:RelV y u)(rd:RelV d r)(h:∀w' s',Inv X pins σ H s'→RelV (o.getD d) w'→Q w' s'):
 wpAny (model X.prog X.w) A (call (.builtin "dict.get") [.ref a,u,r]) Q E s:=by
 rcases g with⟨kvs,k,e,ey,l⟩ | ⟨kvs,k,b,e,ey,eb,l⟩
 · subst ey;obtain⟨z,hd,vs,rel,dd⟩:=L_ I.hok e;refine call_meetsIn D_ dd.typeIs FJ (Fs _ _ _) (meets_dict_get_default (Jg X.prog X.w) a (LB ry) hd r) ⟨_,dd.mapOf,h _ _ (I.tok _) ?_⟩;rw[l];exact(rel.val k).getD rd
 · subst ey;cases(show u=Value.ref b from ry);obtain⟨z,hd,xs,rel,dd⟩:=Ma I.hok e;refine call_meetsIn D_ dd.typeIs FJ (Fs _ _ _) (meetsH_dict_get_default (tupleKind (Jg X.prog X.w)) a b hd r) ⟨tupleKind_room_in1 hu,k,xs,My I.hok eb,dd,h _ _ (I.tok _) ?_⟩;rw[l];exact(rel.val k).getD rd
end
def VJ(td ty tx:TE):TE:=λσ H Q=>td σ H λx H1=>∃a,x= .ref a∧U5 H1 a∧ty σ H1 λy H2=>tx σ H2 λz H3=>∃o,DGet H3 a y o∧Q (o.getD z) H3
section
variable{o f:Expr}{apos cpos:Pos}{td ty tx:TE}
theorem Sw(hu:X.A.units+1<cLine)(ho:PE X o td)(he:PE X e ty)(hf:PE X f tx)(m:M2 X o "get" apos e f cpos):PE X (.Call (.Attribute o "get" apos) [e,f] [] cpos) (VJ td ty tx):=by intro pins s σ H Q I h;refine wpAny_Call_method m.base m.few m.line PySem.F.plainAttrs_dict D_ PySem.F.type_dict_get (HN (ho pins s σ H _ I h) λu s1 ⟨x,H1,I1,rx,a,ex,d,q1⟩=>?_);subst ex;obtain rfl:u=Value.ref a:=rx;obtain⟨t1,t2,_⟩:=UK I1 d;refine⟨t1,t2,?_⟩;rw[m.trees];refine FI rfl (Gf (D5 (HN (he pins s1 σ H1 _ I1 q1) λiv s2 ⟨y,H2,I2,ry,q2⟩=> D5 (HN (hf pins s2 σ H2 _ I2 q2) λfv s3 ⟨z,H3,I3,rz,ov,g,q3⟩=>ER ?_))));exact UD hu I3 g ry rz λw' s4 I4 rw'=>⟨_,H3,I4,rw',q3⟩
end
section
variable{kvs:List (Ic×V)}
end
section
variable{y:V}
end
end L2
namespace Att
open PySem PySem.W PySem.Calls PyProof.Rows
theorem ZO{P:Params}:∀(ns:List Int)(vs:List Value),WellAll P h vs (ns.map WData.int)→IntsAre vs ns:=by
 intro ns
 induction ns with
 | nil=> intro vs w;rw[D8] at w;cases w;exact .nil
 | cons n ns ih=>
  intro vs w;rw[A0] at w;cases w with
  | cons a b=> cases a;exact .cons _ _ (ih _ b)
theorem X0{l:OpenLaw}(hn:l.most=some n){P:Params}{h:Heap}{args:List WData}{vals:List Value}
 (hpre:l.row.toRowW.claim.pre args=true) (hwl:WellAll P h vals args):
 ∃a vs ns,vals=[Value.ref a]∧args=[WData.list (ns.map WData.int)]∧h.get? a=some {cls:= .type "list",data:= .seq vs.toArray}∧IntsAre vs ns∧ns.length≤n:=by
 have hsh:WShape.hasAll [] args [.list .int]=true:=(pre_splitW hpre).1;have hc:l.pre.holds [] {args:=args}=true:=(pre_splitW hpre).2;obtain⟨d,r,rfl,h1,h2⟩:=hasAllW_cons hsh;obtain rfl:=hasAllW_nil h2;obtain⟨xs,rfl,h3⟩:=hasW_list h1;obtain⟨ns,rfl⟩:=items_int h3;have hlen:ns.length≤n:=by
  unfold OpenLaw.pre at hc;have h4:(WTm.not (.lt (.lit (.int (n:Int))) (.len (.arg 0)))).holds [] {args:=[.list (ns.map .int)]}=true:=by have h4:=(holds_andW hc).1;rw[hn] at h4;exact h4
  have h5:=condW_of h4 (w_not (w_lt w_lit (w_len_list (w_arg rfl))));rw[Ab] at h5;refine Nat.le_of_not_lt λq=>?_;have q':(n:Int)<((ns.length:Nat):Int):=by omega
  first
   | (rw[decide_eq_true q'] at h5;exact absurd h5 (by decide))
   | (simp at h5;omega)
 cases hwl with
 | cons w1 w2=>
  cases w2;cases w1 with
  | list ho hall=>exact⟨_,_,ns,rfl,rfl,ho,ZO ns _ hall,hlen⟩
theorem Xv(l:OpenLaw)(args:List WData):l.row.toRowW.claim.post args (.bool true) args=true:=
 postW_of (r:=l.row.toRowW) (X:=(true==true))
  (show WShape.has [] (.bool true) .bool=true by first | rfl | decide | simp[WShape.has,WShape.arms,WShape.armsAll])
  (show(WTm.eq .res (.lit (.bool true))).value [] {args:=args,res:=some (.bool true),after:=args}=some (.bool (true==true)) from w_eq_bool (w_res rfl) w_lit) rfl
theorem attach_call{l:OpenLaw}{n:Nat}{q:Bv}{loose:List Str}{XP:(Str→Option Value)→Heap→Prop}{YP:World→Heap→Prop}{d:DefRec}
 (hn:l.most=some n) (hdf:d.params.defaults=[])
 (call:∀(w:World)(s₀ s₁:Shared)(mg mb:Str→Option Value)(fa:Addr)(o:Obj)(pm cd doc:Value)(a:Addr)(vs:List Value)(ns:List Int),
  Ground q loose [] XP w s₀ mg mb s₁.heap→YP w s₁.heap→
  s₁.heap.get? fa=some o→o.data= .func (docDef d.name d.params d.body d.scope pm cd doc)→s₁.heap.CodeRec cd d.name→mg d.name=some (.ref fa)→
  s₁.heap.get? a=some {cls:= .type "list",data:= .seq vs.toArray}→IntsAre vs ns→ns.length≤n→s₁.gens=#[]→
  codeAny (model l.prog w) callerA (.call (.ref fa) ⟨[.ref a],[]⟩) (λr s'=>r= .ok (.ret (.bool true))∧OldK s₁.heap s'.heap∧s'.os=s₁.os∧AllBare s'.gens) s₁):
 WalkO q loose XP YP l.row.toRowW d [] (λf vs=>PySem.call f vs):=by
 intro w s₀ s₁ mg mb G Y fa o pm cd doc dV kV ho hd hcd hD hmg hg args vals as hpre hlay hrd hwl hlo;obtain rfl:dV= .none:=Dflts.none hD hdf;obtain rfl:kV= .none:=Dflts.noKw hD;obtain⟨a,vs,ns,rfl,rfl,hobj,hints,hlen⟩:=X0 hn hpre hwl;refine enter_call (Ce (call w s₀ s₁ mg mb fa o pm cd doc a vs ns G Y ho (fd_plain hd) hcd hmg hobj hints hlen hg) λr s' hq=>?_);obtain⟨rfl,h2,h3,h4⟩:=hq;exact⟨.inl ⟨.bool true,.bool true,[],rfl,λ_=>rfl,.bool true,Xv l _,λ_=>⟨List.Pairwise.nil,λ_ hm=>(nomatch hm)⟩⟩,h2,h3,h4⟩
section
variable{K:Frag}
end
end Att
namespace L2
theorem T9:∀{vs:List Value}{ns:List Int},IntsAre vs ns→Vals (ns.map V.int) vs
 | _,_,.nil=> .nil
 | _,_,.cons n t h=> .cons ⟨t,rfl⟩ (T9 h)
def LV(H:Hp):Prop:=∀b,H b=none∨∃o xs,H b=some (.frz o (.lst xs))
theorem Xm{P:Bv}{w:World}{K:Ao}{mg mb:Str→Option Value}{CX:K8}{k:Nat}{fa a:Addr}{fd:BD}{x:Str}{sp:Sp}{s₁:Shared}{vs:List Value}{ns:List Int}
 (KX:K.In s₁.heap) (hns:s₁.heap.Ns AH mg) (hb:s₁.heap.Ns builtinsNs mb) (hbb:∀x:Str,x≠"__name__"→mb x=AV x) (hlim:s₁.heap.NoLimit) (hg:s₁.gens=#[])
 (ha:s₁.heap.get? a=some {cls:= .type "list",data:= .seq vs.toArray}) (hi:IntsAre vs ns) (hl:ns.length≤Au) (hr:Room k callerA)
 (F:∀base:Heap,K.In base→base.Ns AH mg→FnOk P w K mg base CX k fa fd [x] sp) (hbind:∀(s:Shared)(u:Value),BindsTo s fd ⟨[u],[]⟩ [(x,u)])
 (hsp:∀H:Hp,LV H→SqL K H a (ns.map V.int)→sp [.ref a] H (λv _=>v= .bl true) λ_ _ _=>False)
 (hCX:∀H e s',CX [] H s₁ (λ_ _ _=>False) e s'→False):
 codeAny (model P w) callerA (.call (.ref fa) ⟨[.ref a],[]⟩) (λr s'=>r= .ok (.ret (.bool true))∧OldK s₁.heap s'.heap∧s'.os=s₁.os∧AllBare s'.gens) s₁:=by
 have rv:=T9 hi;have lenV:=hi.length;have core:∀H:Hp,LV H→SqL K H a (ns.map V.int)→HOk P w H s₁.heap→(∀b,H b≠none→b=a)→(H a≠none→K.lookup a=none)→
  codeAny (model P w) callerA (.call (.ref fa) ⟨[.ref a],[]⟩) (λr s'=>r= .ok (.ret (.bool true))∧OldK s₁.heap s'.heap∧s'.os=s₁.os∧AllBare s'.gens) s₁:=by
  intro H hO hS hok hA hK;have base_of:∀{b:Addr}{o:Obj},s₁.heap.get? b=some o→H b=none→(J2 s₁.heap H).get? b=some o:=λe n=>Xk e n;have noA:∀{b:Addr}{o:Obj}{es:Array DictEntry}{ep:Nat},s₁.heap.get? b=some o→o.data= .dict es ep→H b=none:=λ{b o es ep}e d=>by
   cases q:H b with
   | none=>rfl
   | some u=> have e':b=a:=hA b (by rw[q];simp);subst e';rw[ha] at e;cases e;have d':Data.seq vs.toArray _=Data.dict es ep:=d;cases d'
  have nsK:∀{b:Addr}{m:Str→Option Value},s₁.heap.Ns b m→(J2 s₁.heap H).Ns b m:=λ{b m} ⟨o,es,ep,e,d,r⟩=>⟨o,es,ep,base_of e (noA e d),d,r⟩;have hKb:K.In (J2 s₁.heap H):=λb o e=>base_of (KX b o e) (by
   cases q:H b with
   | none=>rfl
   | some u=> have e':b=a:=hA b (by rw[q];simp);subst e';rw[hK (by rw[q];simp)] at e;cases e)
  have hM:Mod K mg (J2 s₁.heap H):=⟨hKb,nsK hns,⟨mb,nsK hb,hbb⟩,let⟨mc,h1,h2⟩:=hlim;⟨mc,nsK h1,h2⟩⟩;have e0:Env0 P w K mg (J2 s₁.heap H) callerA [] s₁ H:=⟨rfl,hM,λb o e=>V5 e,Nat.le_of_eq (XU _ _),trivial,λb hb=>absurd (show b∈([]:List Addr) from hb) (by simp),hok,.of_eq hg⟩;refine Ce ((F _ hKb (nsK hns)).run callerA [] s₁ H ⟨[.ref a],[]⟩ [.ref a] [.ref a] _ _ hr e0 (hbind s₁ (.ref a)) (.cons rfl .nil) (hsp H hO hS)) λr s' h=>?_;cases r with
  | error e=>exact(hCX H e s' h).elim
  | ok fl=>
   cases fl with
   | next=>exact C4 h
   | brk=>exact C4 h
   | cont=>exact C4 h
   | ret u=>
    obtain⟨v,H',os,bare,un,hok',r',q⟩:=h;have q':v= .bl true:=q;subst q';obtain rfl:u=Value.bool true:=r';refine⟨rfl,OldK.of_keep λb o e=>?_,os,bare⟩;cases q:H b with
    | none=>exact un.keep b o e q (by intro z;exact absurd (show b∈([]:List Addr) from z) (by simp)) (by simp)
    | some u=>
     rcases hO b with z | ⟨ob,xs,z⟩
     · rw[q] at z;cases z
     · have z2:=un.frzs b ob _ z;obtain⟨e1,_⟩:=hok b _ z;obtain⟨e2,_⟩:=hok' b _ z2;rw[e] at e1;cases e1;exact e2
 cases hk:K.lookup a with
 | some o=> have e:=KX a o hk;rw[ha] at e;cases e;refine core (λ_=>none) (λ_=> .inl rfl) (.inr ⟨_,vs.toArray,_,hk,rfl,rfl,rfl,by rw[Ax,lenV];exact hl,by simpa using rv⟩) (λb u z=>by have z':(none:Option HO)=some u:=z;cases z') (λb z=>absurd rfl z) λz=>absurd rfl z
 | none=>
  refine core (λb=>if b=a then some (.frz {cls:= .type "list",data:= .seq vs.toArray} (.lst (ns.map V.int))) else none) (λb=>?_) (.inl (.inr ⟨{cls:= .type "list",data:= .seq vs.toArray},if_pos rfl⟩)) (λb u z=>?_) (λb z=>?_) λ_=>hk
  · by_cases hb:b=a
    · exact .inr ⟨_,_,if_pos hb⟩
    · exact .inl (if_neg hb)
  · by_cases hb:b=a
    · have z':=(if_pos hb).symm.trans z;cases z';subst hb;exact⟨ha,by rw[Ab];exact hl,vs,_,rv,ha⟩
    · have z':=(if_neg hb).symm.trans z;cases z'
  · by_cases hb:b=a
    · exact hb
    · exact absurd (if_neg hb) z
abbrev KOf{K:Ao}{h:Heap}(_:K.In h):Ao:=K
theorem walk_of{l:F0}{n k:Nat}{q:Bv}{loose:List Str}{XP:(Str→Option Value)→Heap→Prop}{YP:World→Heap→Prop}{d:DefRec}{K:Params→Ao}{CX:World→K8}{sp:World→Sp}{x:Str}
 (hn:l.most=some n) (hn2:n≤Au) (hdf:d.params.defaults=[]) (hr:Room k callerA)
 (hY:∀(w:World)(h:Heap),YP w h→(K w.params).In h)
 (F:∀(w:World)(mg:Str→Option Value)(fa:Addr)(h:Heap),(K w.params).In h→h.Ns AH mg→mg d.name=some (.ref fa)→
  ∃fd:BD,(∀(s:Shared)(u:Value),BindsTo s fd ⟨[u],[]⟩ [(x,u)])∧
   ∀base:Heap,(K w.params).In base→base.Ns AH mg→FnOk l.prog w (K w.params) mg base (CX w) k fa fd [x] (sp w))
 (hsp:∀(w:World)(H:Hp)(a:Addr)(ns:List Int),ns.length≤n→LV H→SqL (K w.params) H a (ns.map V.int)→sp w [.ref a] H (λv _=>v= .bl true) λ_ _ _=>False)
 (hCX:∀(w:World)(H:Hp)(s:Shared)(e:Value)(s':Shared),CX w [] H s (λ_ _ _=>False) e s'→False):
 PySem.W.WalkO q loose XP YP l.row.toRowW d [] (λf vs=>PySem.call f vs):=by
 refine Att.attach_call hn hdf λw s₀ s₁ mg mb fa o pm cd doc a vs ns G Y ho hd hcd hmg hobj hints hlen hg=>?_;have KX:=hY w _ Y;obtain⟨fd,hb,hF⟩:=F w mg fa _ KX G.T.g hmg;exact Xm KX G.T.g G.T.b G.T.builtins G.T.nolimit hg hobj hints (AL hlen hn2) hr hF hb (λH hO hS=>hsp w H a ns hlen hO hS) λH e s'=>hCX w H s₁ e s'
def JZ(s:Stmt):Arguments:=match s with
 | .FunctionDef _ a _ _ _ _ _ _ _ _=>a
 | _=>{posonlyargs:=[],args:=[],vararg:=none,kwonlyargs:=[],kw_defaults:=[],kwarg:=none,defaults:=[]}
def JL(s:Stmt):List Stmt:=match s with
 | .FunctionDef _ _ b _ _ _ _ _ _ _=>b
 | _=>[]
def HX(s:Stmt):Scope:=match s with
 | .FunctionDef _ _ _ _ _ _ sc _ _ _=>sc
 | _=>{kind:= .function,names:=[],isGenerator:=false,isCoroutine:=false}
abbrev Ir:K8:=λ_ _ _ _ _ _=>False
abbrev E0:XK:=λ_ _ _=>False
theorem NG:M0 Ir X E0:=λ_ _ _ _ _ _ _ h=>h.elim
structure Fun(K:Ao)(x qual:Str)(st:Stmt)(f:Addr)(fd:BD):Prop where
 ex:∃(oc:Value)(od:Option Addr)(kV doc pm:Value)(an:Option Addr)(cdv ct:Value)(osl:Array (Option Value)),
  fd=C8 x qual (JZ st) (JL st) (HX st) .none kV doc pm an cdv ct∧K.lookup f=some ⟨oc,od,.func fd,osl⟩∧DG K cdv qual=true
 kp:CI K (.ref f)=true
section
variable{mg:Str→Option Value}{base:Heap}
theorem Fun.ok{qual:Str}{st:Stmt}{f:Addr}{fd:BD}{N ps:List Str}{k:Nat}{sp:Sp}(F:Fun K x qual st f fd)(S:FnScope N ps (HX st))(len:∀vs H Q E,sp vs H Q E→vs.length=ps.length)
 (hbody:∀(cdv:Value)(A:BZ)(outer:List Env)(s:Shared)(H:Hp)(vs:List V)(Q:VK)(E:XK),Room k (A.deeper (envOfC qual (HX st) s.heap.objs.size f cdv))→sp vs H Q E→
  ∃t,PSs (JT Ir P w K mg base N qual (HX st) f cdv A outer s H E).nox (JL st) t∧t {nx:=λ_ H'=>Q .non H',rt:=Q} (KO N vs) H):FnOk P w K mg base Ir (k+1) f fd ps sp:=by
 obtain⟨oc,od,kV,doc,pm,an,cdv,ct,osl,rfl,lk,hcd⟩:=F.ex;refine QT lk hcd S len λA outer s H vs Q E hr hsp=>?_;obtain⟨t,h,q⟩:=hbody cdv A outer s H vs Q E hr hsp;exact⟨t,h.nox,q⟩
theorem Fun.binds{qual:Str}{st:Stmt}{f:Addr}{fd:BD}{ps:List Str}(F:Fun K x qual st f fd)
 (h:∀(kV doc pm:Value)(an:Option Addr)(cdv ct:Value)(us:List Value),us.length=ps.length→bindArgs (C8 x qual (JZ st) (JL st) (HX st) .none kV doc pm an cdv ct) ⟨us,[]⟩=pure (ps.zip us)):Binds K fd ps []:=by
 obtain⟨oc,od,kV,doc,pm,an,cdv,ct,osl,rfl,lk,hcd⟩:=F.ex;exact .all (h kV doc pm an cdv ct)
theorem fun_mk{qual:Str}{st:Stmt}{f:Addr}{oc:Value}{od an:Option Addr}{osl:Array (Option Value)}{kV doc pm cdv ct:Value}(l:K.lookup f=some ⟨oc,od,.func (C8 x qual (JZ st) (JL st) (HX st) .none kV doc pm an cdv ct),osl⟩)
 (c:DG K cdv qual=true) (k:CI K (.ref f)=true):Fun K x qual st f (C8 x qual (JZ st) (JL st) (HX st) .none kV doc pm an cdv ct):=⟨⟨oc,od,kV,doc,pm,an,cdv,ct,osl,rfl,l,c⟩,k⟩
end
theorem KL{k:Nat}(hr:Room k A):A.units+1<cLine:=BS (Gu (by decide:1≤64) _) hr.units
theorem IQ(h:n≤1000):n<Au:=BS h (by decide)
theorem pv(i:Nat){pos:Pos}(hN:X.N[i]?=some x:=by rfl)(hv:Nu X.env.scope x:=by first | exact Or.inl rfl | exact Or.inr (Or.inl rfl) | exact Or.inr (Or.inr rfl))(hd:(x==("__debug__":Str))=false:=by decide)
 (hcd:(x==("__classdict__":Str))=false:=by decide):PE X (.Name x pos) (MT i):=V_ hN hv hd hcd
theorem HR{A B:Prop}(h:B):if false=true then A else B:=by rw[if_neg As];exact h
theorem HP{A B:Prop}(h:A):if true=true then A else B:=by rw[if_pos rfl];exact h
theorem Il{c A B:Prop}[Decidable c](h1:c→A)(h2:¬c→B):if c then A else B:=by
 by_cases h:c
 · rw[if_pos h];exact h1 h
 · rw[if_neg h];exact h2 h
theorem QV{c A B:Prop}[Decidable c](hc:c)(h:B):if(!decide c)=true then A else B:=by rw[decide_eq_true hc];exact HR h
def Same(H H':Hp):Prop:=∀b o,H b=some o→H' b=some o
theorem Same.refl(H:Hp):Same H H:=λ_ _ h=>h
theorem Same.trans{H1 H2:Hp}(a:Same H H1)(b:Same H1 H2):Same H H2:=λc o h=>b c o (a c o h)
theorem Same.free{H':Hp}(e:Same H H'){l:Addr}(h:H' l=Option.none):H l=Option.none:=by
 cases q:H l with
 | none=>rfl
 | some o=> rw[e l o q] at h;cases h
theorem Same.seq{H':Hp}(e:Same H H')(h:SqL K H a xs):SqL K H' a xs:=by
 rcases h with(h | ⟨o,h⟩) | h
 · exact .inl (.inl (e _ _ h))
 · exact .inl (.inr ⟨o,e _ _ h⟩)
 · exact .inr h
section
variable{κ:Type}[DecidableEq κ]
theorem Sb:∀{l:List κ}{k:κ},l.Nodup→¬k∈l→(l++[k]).Nodup
 | [],k,_,_=>by simp
 | a::r,k,h,hk=>by
  obtain⟨h1,h2⟩:=Dy.mp h;show(a::(r++[k])).Nodup;refine List.nodup_cons.mpr ⟨λm=>?_,Sb h2 λm=>hk (List.mem_cons.mpr (Or.inr m))⟩;rcases Aw.mp m with q | q
  · exact h1 q
  · exact hk (List.mem_cons.mpr (Or.inl (Ae.mp q).symm))
end
def Iu(X:Cx)(N':List Str)(scope:Scope)(cl:List (Str×Addr))(C:Addr)(s₀:Shared)(H₀:Hp)(ex:List Addr):Cx:=
 {prog:=X.prog,w:=X.w,K:=X.K,mg:=X.mg,base:=X.base,A:=X.A,N:=N',s₀:=s₀,H₀:=H₀,env:=compEnvC scope cl C X.env,outer:=X.stack,stack:=X.stack,ex:=ex,fn:=λx=>scope.names.lookup x==some .cell,calm:=X.calm,pn:=[],xe:=λ_ _=>False}
abbrev IT:=List (Option Nat)
def Jo(js:IT)(σ:St):St:=js.map λo=>o.bind λj=>(σ[j]?).join
theorem Vu{env:Env}(has:∀x,(env.kindOf x=some .cell∨env.kindOf x=some .free)→∃c,env.cells.lookup x=some c):
 ∀(names:List (Str×NameKind))(acc:List (Str×Addr)),(∀p∈names,p.2= .free→env.kindOf p.1=some .cell∨env.kindOf p.1=some .free)→(∀x c,acc.lookup x=some c→env.cells.lookup x=some c)→
  ∃cl,(forIn names acc (λ(p:Str×NameKind)(cs:List (Str×Addr))=>(do
   if p.2==NameKind.free then
    let c ←cellOf env p.1
    pure (ForInStep.yield ((p.1,c)::cs))
   else pure (ForInStep.yield cs):Sem (ForInStep (List (Str×Addr))))))=pure cl∧(∀x c,cl.lookup x=some c→env.cells.lookup x=some c)∧
   (∀x,(acc.lookup x).isSome=true→(cl.lookup x).isSome=true)∧∀p∈names,p.2= .free→(cl.lookup p.1).isSome=true:=by
 intro names
 induction names with
 | nil=>intro acc _ ha;exact⟨acc,rfl,ha,λ_ h=>h,λ_ h=>nomatch h⟩
 | cons p r ih=>
  intro acc hn ha;obtain⟨n,k⟩:=p;rw[F6];by_cases hk:k= .free
  · subst hk;obtain⟨c,hc⟩:=has n (hn (n,.free) AA rfl);have e:cellOf env n=(pure c:Sem Addr):=by
     unfold cellOf;rw[hc]
    obtain⟨cl,h1,h2,h3,h4⟩:=ih ((n,c)::acc) (λq hq=>hn q (AB _ hq)) (λx c' hx=>by
     rw[Cp] at hx;cases hb:x==n with
     | true=> rw[hb] at hx;cases hx;rw[show x=n from eq_of_beq hb];exact hc
     | false=> rw[hb] at hx;exact ha x c' hx)
    refine⟨cl,?_,h2,λx hx=>h3 x ?_,λq hq hf=>?_⟩
    · simp only[beq_self_eq_true,if_true,e];exact h1
    · rw[Cp];cases hb:x==n with
      | true=>rfl
      | false=>exact hx
    · rcases Ak.mp hq with rfl | hq
      · exact h3 _ (by simp[Cp])
      · exact h4 q hq hf
  · have hb:(k==NameKind.free)=false:=by simpa using hk
    obtain⟨cl,h1,h2,h3,h4⟩:=ih acc (λq hq=>hn q (AB _ hq)) ha;refine⟨cl,?_,h2,h3,λq hq hf=>?_⟩
    · simp only[hb,BR,if_false];exact h1
    · rcases Ak.mp hq with rfl | hq
      · exact absurd hf hk
      · exact h4 q hq hf
theorem M7{env:Env}{scope:Scope}(has:∀x,(env.kindOf x=some .cell∨env.kindOf x=some .free)→∃c,env.cells.lookup x=some c)
 (hn:∀p∈scope.names,p.2= .free→env.kindOf p.1=some .cell∨env.kindOf p.1=some .free):
 ∃cl,closureFor scope env=pure cl∧(∀x c,cl.lookup x=some c→env.cells.lookup x=some c)∧∀p∈scope.names,p.2= .free→(cl.lookup p.1).isSome=true:=by
 obtain⟨cl,h1,h2,_,h4⟩:=Vu has scope.names [] hn (λ_ _ h=>nomatch h);refine⟨cl,?_,h2,h4⟩;unfold closureFor;show(do let cs ←forIn scope.names [] _;pure cs)=_
 refine Eq.trans ?_ h1;simp only[bind_pure]
section
variable{R:Result→Shared→Prop}
theorem YE{elt target iter:Expr}{ifs:List Expr}{scope:Scope}{pos:Pos}{it acc:Value}{env:Env}(I:Nat→Shared→Prop)
 (turn:∀n s,I n s→wpAny (model prog w) A (pyNext it) (λr s₁=>match r with
  | none=>R (.ok .next) s₁
  | some v=>wpAny (model prog w) A (BH target it v) (λ_ s₁'=>wpAny (model prog w) A (assign target env v) (λ_ s₂=>
   wpAny (model prog w) A (forIn ifs true λc r=>if r=true then do let ok ←isTrue c env (eval c env);pure (ForInStep.yield ok) else pure (ForInStep.yield r)) (λok s₃=>
    if ok=true then wpAny (model prog w) A (eval elt env) (λx s₄=> wpAny (model prog w) A (call (.builtin "list.append") [acc,x]) (λ_ s₅=>∃m,m<n∧I m s₅) (λ_ _=>False) s₄) (λ_ _=>False) s₃
    else ∃m,m<n∧I m s₃) (λ_ _=>False) s₂) (λ_ _=>False) s₁') (λ_ _=>False) s₁) (λ_ _=>False) s)
 (n:Nat) (h:I n s):
 codeAny (model prog w) A (.compLoop (.ListComp elt [⟨target,iter,ifs,0⟩] scope pos) 0 it acc env) R s:=by
 refine D9 rfl I (λn s hI=>?_) n h;show wpAny _ A ((compTurn (.ListComp elt [⟨target,iter,ifs,0⟩] scope pos) 0 it acc env).onRaise (λx=>do noteFrame x env;theTreesLotGoes x)) _ _ s
 refine DN ?_;rw[compTurn_list];refine Aa (Bp (Aa (A4 (turn n s hI) (λr s₁ h₁=>?_) λ_ _ h'=>h'.elim)));cases r with
 | none=>exact Ac h₁
 | some v=>
  refine Aa (A4 h₁ (λ_ s₁' h₁'=>?_) λ_ _ h'=>h'.elim);refine Aa (A4 h₁' (λ_ s₂ h₂=>Aa (A4 h₂ (λok s₃ h₃=>?_) λ_ _ h'=>h'.elim)) λ_ _ h'=>h'.elim);cases ok with
  | false=>exact Ac ⟨rfl,h₃⟩
  | true=> exact Aa (Aa (A4 h₃ (λx s₄ h₄=>Aa (A4 h₄ (λ_ s₅ h₅=>Ac (Ac ⟨rfl,h₅⟩)) λ_ _ h'=>h'.elim)) λ_ _ h'=>h'.elim))
end
def Iw(X:Cx)(ifs:List Expr)(t:TT):Prop:=
 ∀(pins:List (Addr×Obj))(s:Shared)(σ:St)(H:Hp)(Q:Bool→Hp→Prop),Inv X pins σ H s→t σ H Q→
  wpAny (model X.prog X.w) X.A (forIn ifs true λc r=>if r=true then do let ok ←isTrue c X.env (eval c X.env);pure (ForInStep.yield ok) else pure (ForInStep.yield r)) (TP X pins σ Q) X.xe s
def JD:TT:=λ_ H Q=>Q true H
theorem Jy:Iw X [] JD:=λ_ _ _ H _ I h=>wpAny_tests_nil ⟨H,I,h⟩
theorem Kt{c:Expr}{t:TT}(h:PT X c t):Iw X [c] t:=λpins s σ H Q I hw=>wpAny_tests_one (h pins s σ H Q I hw)
def Kl(J:It)(p:Addr)(js:IT)(g:TG)(tc:TT)(te:TE)(σ:St)(H:Hp)(Q:VK):Prop:=
 ∃W:Nat→Nat→St→List V→Hp→Prop,(∃m,W 0 m (Jo js σ) [] (HI H p (.lst [])))∧∀i m σ' ys H,W i m σ' ys H→H p=some (.lst ys)∧
  ((J.stop i H∧Q (.ref p) H)∨(J.go i H∧ys.length<Au∧∀x H',J.yld i H x H'→g x σ' H' λσ2 H2=>tc σ2 H2 λb H3=>
    if b=true then te σ2 H3 λy H4=>H4 p=some (.lst ys)∧∃m',m'<m∧W (i+1) m' σ2 (ys++[y]) (HI H4 p (.lst (ys++[y])))
    else ∃m',m'<m∧W (i+1) m' σ2 ys H3))
def Uw(wi:TI)(js:IT)(g:TG)(tc:TT)(te:TE):TE:=λσ H Q=>wi σ H λJ H1=>∀p,H1 p=none→Kl J p js g tc te σ H1 Q
structure CapOk(X:Cx)(N':List Str)(js:IT)(scope:Scope):Prop where
 len:js.length=N'.length
 kind:scope.kind= .function
 cells:∀p∈scope.names,p.2= .cell→scope.names.lookup p.1=some .cell
 names:∀p∈scope.names,p.2= .local→scope.names.lookup p.1=some .local
 free:∀p∈scope.names,p.2= .free→X.env.kindOf p.1=some .cell∨X.env.kindOf p.1=some .free
 cap:∀(i j:Nat),js[i]?=some (some j)→∃x,N'[i]?=some x∧X.N[j]?=some x∧scope.names.lookup x=some .free
theorem P5{names:List (Str×NameKind)}{k:NameKind}(h:names.lookup x=some k):(x,k)∈names:=by
 induction names with
 | nil=>cases h
 | cons p r ih=>
  obtain⟨n,k'⟩:=p;rw[Cp] at h;cases hb:x==n with
  | true=> rw[hb] at h;cases h;rw[show x=n from eq_of_beq hb];exact AA
  | false=> rw[hb] at h;exact AB _ (ih h)
theorem Up{env:Env}{k:NameKind}(h:(relabel scope env).names.lookup x=some k):∃k0,scope.names.lookup x=some k0∧(k=k0∨(k0= .free∧k= .cell)):=by
 have go:∀(names:List (Str×NameKind)),(names.map λ(p:Str×NameKind)=>if(p.2==NameKind.free && env.scope.kind== .function && env.kindOf p.1==some .cell) then(p.1,NameKind.cell) else(p.1,p.2)).lookup x=some k→
  ∃k0,names.lookup x=some k0∧(k=k0∨(k0= .free∧k= .cell)):=by
  intro names
  induction names with
  | nil=>intro h;cases h
  | cons p r ih=>
   obtain⟨n,k'⟩:=p;intro h;rw[A0] at h;by_cases hc:(k'==NameKind.free && env.scope.kind== .function && env.kindOf n==some .cell)=true
   · rw[if_pos hc] at h;rw[Cp] at h ⊢;cases hb:x==n with
     | true=>
      rw[hb] at h;cases h;have:k'= .free:=by cases k'<;>first | rfl | (simp at hc)
      exact⟨k',rfl,.inr ⟨this,rfl⟩⟩
     | false=> rw[hb] at h;exact ih h
   · rw[if_neg hc] at h;rw[Cp] at h ⊢;cases hb:x==n with
     | true=> rw[hb] at h;cases h;exact⟨k',rfl,.inl rfl⟩
     | false=> rw[hb] at h;exact ih h
 exact go scope.names h
theorem Z9{env:Env}(h:scope.names.lookup x=some .free):(relabel scope env).names.lookup x=some .cell∨(relabel scope env).names.lookup x=some .free:=by
 have go:∀(names:List (Str×NameKind)),names.lookup x=some .free→(names.map λ(p:Str×NameKind)=>if(p.2==NameKind.free && env.scope.kind== .function && env.kindOf p.1==some .cell) then(p.1,NameKind.cell) else(p.1,p.2)).lookup x=some .cell∨
  (names.map λ(p:Str×NameKind)=>if(p.2==NameKind.free && env.scope.kind== .function && env.kindOf p.1==some .cell) then(p.1,NameKind.cell) else(p.1,p.2)).lookup x=some .free:=by
  intro names
  induction names with
  | nil=>intro h;cases h
  | cons p r ih=>
   obtain⟨n,k'⟩:=p;intro h;rw[A0];rw[Cp] at h;by_cases hc:(k'==NameKind.free && env.scope.kind== .function && env.kindOf n==some .cell)=true
   · rw[if_pos hc,Cp];cases hb:x==n with
     | true=>exact .inl rfl
     | false=> rw[hb] at h;exact ih h
   · rw[if_neg hc,Cp];cases hb:x==n with
     | true=> rw[hb] at h;exact .inr h
     | false=> rw[hb] at h;exact ih h
 exact go scope.names h
theorem Oo:∀(names:List (Str×NameKind))(n:Nat)(acc:List (Str×Addr)),B_ n names acc=B_ n names []++acc
 | [],_,_=>rfl
 | (x,k)::r,n,acc=>by
  unfold B_
  split
  · rw[Oo r _ ((x,n)::acc),Oo r _ [(x,n)],Ci];rfl
  · exact Oo r n acc
theorem PL{c:Addr}:∀(names:List (Str×NameKind))(n:Nat)(acc:List (Str×Addr)),(x,c)∈B_ n names acc→(x,NameKind.cell)∈names∨(x,c)∈acc
 | [],_,_,h=> .inr h
 | (y,k)::r,n,acc,h=>by
  unfold B_ at h
  split at h
  · rename_i hk;rcases PL r _ _ h with z | z
    · exact .inl (AB _ z)
    · rcases Ak.mp z with z | z
      · cases z;rw[show k= .cell from eq_of_beq hk];exact .inl AA
      · exact .inr z
  · rcases PL r _ _ h with z | z
    · exact .inl (AB _ z)
    · exact .inr z
structure OwnCells(scope:Scope)(cl0 cl:List (Str×Addr))(lo:Nat)(h₁:Heap):Prop where
 own:∀x c,cl.lookup x=some c→(scope.names.lookup x=some .cell→lo<c∧h₁.IsCell c none)∧(scope.names.lookup x≠some .cell→cl0.lookup x=some c)
 has:∀x,scope.names.lookup x=some .cell∨(cl0.lookup x).isSome=true→(cl.lookup x).isSome=true
 inj:∀x y c,scope.names.lookup x=some .cell→scope.names.lookup y=some .cell→cl.lookup x=some c→cl.lookup y=some c→x=y
theorem Os{M:Model}{A:BZ}{E:Value→Shared→Prop}{s:Shared}{globals:Addr}{cl0:List (Str×Addr)}{qual:Str}{env:Env}{Q:Env→Shared→Prop}(ok:∀p∈scope.names,p.2= .cell→scope.names.lookup p.1=some .cell)
 (hQ:∀(cl:List (Str×Addr))(h₁:Heap),(∃m,h₁.Ns s.heap.objs.size m)→(∀b u,s.heap.get? b=some u→h₁.get? b=some u)→OwnCells scope cl0 cl s.heap.objs.size h₁→
  Q (newEnv scope s.heap.objs.size globals cl qual none .none (some env) builtinsNs) {s with heap:=h₁,toks:=s.toks+([]:List (Str×Value)).length}):
 wpAny M A (newFunctionEnv scope globals cl0 [] qual none .none (some env)) Q E s:=by
 simp only[newFunctionEnv,Option.isSome_some,if_true];refine Aa (wpAny_alloc ?_);refine Aa (wpAny_layCells _ (λname kind cells=>by cases hkc:kind==NameKind.cell<;>simp[hkc]) _ _ _ _ ?_);have ck:=cellsFrom_ok scope.names (s.heap.push {cls:= .type "dict",data:= .dict #[]}) (s.heap.objs.size+1) [] ⟨λ_ _ hm=>(nomatch hm),List.Pairwise.nil⟩ (by rw[Bj];exact Ag _);rw[Bj] at ck;rw[show({s with heap:=s.heap.push {cls:= .type "dict",data:= .dict #[]}}:Shared).heap.objs.size=s.heap.objs.size+1 from Bj ..]
 rw[FU];refine Aa (Ac (Ac ?_));rw[Oo];refine hQ _ _ ⟨_,(Heap.Ns.new s.heap (.type "dict")).keeps (pushCells_keeps _ _)⟩ (λb o e=>pushCells_keeps _ _ b o (Ad _ e)) ?_;have lk:∀x,(B_ (s.heap.objs.size+1) scope.names []++cl0).lookup x=((B_ (s.heap.objs.size+1) scope.names []).lookup x).or (cl0.lookup x):=λx=>List.lookup_append;have cn:∀x c,(B_ (s.heap.objs.size+1) scope.names []).lookup x=some c→scope.names.lookup x=some .cell:=λx c e=>by
  rcases PL _ _ _ (mem_of_lookup e) with z | z
  · exact ok _ z rfl
  · cases z
 refine⟨λx c e=>⟨λhx=>?_,λhx=>?_⟩,λx hx=>?_,λx y c hx hy e1 e2=>?_⟩
 · rw[lk] at e;have q:=CM scope.names (s.heap.objs.size+1) [] (.inl hx);cases z:(B_ (s.heap.objs.size+1) scope.names []).lookup x with
   | none=>rw[z] at q;cases q
   | some c'=> rw[z] at e;cases e;have:=ck.empty _ _ (mem_of_lookup z);exact⟨this.2,this.1⟩
 · rw[lk] at e;cases z:(B_ (s.heap.objs.size+1) scope.names []).lookup x with
   | none=>rw[z] at e;exact e
   | some c'=>exact absurd (cn x c' z) hx
 · rw[lk];rcases hx with hx | hx
   · have q:=CM scope.names (s.heap.objs.size+1) [] (.inl hx);cases z:(B_ (s.heap.objs.size+1) scope.names []).lookup x with
     | none=>rw[z] at q;cases q
     | some c'=>rfl
   · cases z:(B_ (s.heap.objs.size+1) scope.names []).lookup x with
     | none=>exact hx
     | some c'=>rfl
 · rw[lk] at e1 e2;have go:∀x,scope.names.lookup x=some .cell→((B_ (s.heap.objs.size+1) scope.names []).lookup x).or (cl0.lookup x)=some c→(x,c)∈B_ (s.heap.objs.size+1) scope.names []:=λx hx e=>by
    have q:=CM scope.names (s.heap.objs.size+1) [] (.inl hx);cases z:(B_ (s.heap.objs.size+1) scope.names []).lookup x with
    | none=>rw[z] at q;cases q
    | some c'=>rw[z] at e;cases e;exact mem_of_lookup z
   exact name_of_addr ck.apart (go x hx e1) (go y hy e2)
theorem NS{N':List Str}{js:IT}{cl0 cl:List (Str×Addr)}{fp:List Addr}{h₁:Heap}{t':Nat}(ok:CapOk X N' js scope)(I:Inv X pins σ H s)
 (h2':∀x c,cl0.lookup x=some c→X.env.cells.lookup x=some c) (h3':∀p∈scope.names,p.2= .free→(cl0.lookup p.1).isSome=true)
 (hf:∀b∈fp,HS X pins H b) (hlt:∀b∈fp,b<s.heap.objs.size)
 (k:∀b u,s.heap.get? b=some u→h₁.get? b=some u) (hn:∃m,h₁.Ns s.heap.objs.size m) (oc:OwnCells scope cl0 cl s.heap.objs.size h₁):
 Inv (Iu X N' scope cl s.heap.objs.size s H fp) [] (Jo js σ) H {s with heap:=h₁,toks:=t'}:=by
 have fresh:H s.heap.objs.size=none:=I.hok.fresh (Ag _);have h2:∀x c,cl.lookup x=some c→(scope.names.lookup x=some .cell∧s.heap.objs.size<c∧h₁.IsCell c none)∨X.env.cells.lookup x=some c:=λx c e=>by
  by_cases hx:scope.names.lookup x=some .cell
  · exact .inl ⟨hx,(oc.own x c e).1 hx⟩
  · exact .inr (h2' x c ((oc.own x c e).2 hx))
 have h3:∀p∈scope.names,p.2= .free→(cl.lookup p.1).isSome=true:=λp hp e=>oc.has _ (.inr (h3' p hp e));have kind_of:∀x,((relabel scope X.env).names.lookup x=some .cell∨(relabel scope X.env).names.lookup x=some .free)→scope.names.lookup x=some .cell∨scope.names.lookup x=some .free:=λx hx=>by
  rcases hx with hx | hx
  · obtain⟨k0,e,z⟩:=Up hx;rcases z with z | ⟨z,_⟩
    · subst z;exact .inl e
    · subst z;exact .inr e
  · obtain⟨k0,e,z⟩:=Up hx;rcases z with z | ⟨z,z'⟩
    · subst z;exact .inr e
    · cases z'
 have clt:∀x c,X.env.cells.lookup x=some c→c<s.heap.objs.size:=λx c e=>let⟨v,hv⟩:=I.cell x c e;hv.lt;have okc:(Iu X N' scope cl s.heap.objs.size s H fp).Ok:=by
  refine⟨I.ok.mod,ok.kind,I.ok.glob,I.ok.blt,Ag _,λx y c e1 e2=>?_,λx hx=>?_,λx c hx e=>?_,I.ok.hd,I.ok.frames,.inl rfl,λb hb=>⟨Aq (hlt b hb),λx c e=>?_⟩,I.bs,AL I.ok.bsz I.sz,λb o e hb=>?_,λb hb hb'=>?_,I.stack,I.stkFree⟩
  · rcases h2 x c e1 with⟨k1,l1,_⟩ | l1
    · rcases h2 y c e2 with⟨k2,l2,_⟩ | l2
      · exact oc.inj x y c k1 k2 e1 e2
      · exact absurd l1 (Nat.lt_asymm (clt y c l2))
    · rcases h2 y c e2 with⟨k2,l2,_⟩ | l2
      · exact absurd l2 (Nat.lt_asymm (clt x c l1))
      · exact I.ok.inj x y c l1 l2
  · have z:(cl.lookup x).isSome=true:=by
     rcases kind_of x hx with e | e
     · exact oc.has x (.inl e)
     · exact h3 _ (P5 e) rfl
    cases q:cl.lookup x with
    | none=>rw[q] at z;cases z
    | some c=>exact⟨c,q⟩
  · exact AZ ((oc.own x c e).1 (eq_of_beq hx)).1
  · rcases h2 x c e with⟨_,l,_⟩ | l
    · exact λz=>Nat.lt_asymm (hlt b hb) (z ▸ l)
    · exact(hf b hb).2.2.2.2.1 x c l
  · rcases(hf b hb).2.2.2.1 with z | z
    · exact I.ok.noex b o e z
    · exact absurd (AE (Ai e) (AL I.ok.bsz z)) (C3 _)
  · rcases Ak.mp (I.stkSub b hb') with z | z
    · exact(hf b hb).2.1 z
    · exact(hf b hb).2.2.1 z
 obtain⟨m,hn⟩:=hn;refine⟨okc,rfl,I.bare,Un.kept k,⟨m,hn,λi x v e1 e2 e3=>?_⟩,λx c e=>?_,fresh,λx c e=>?_,(λp hp=>nomatch hp),I.hok.kept k,by show(Jo js σ).length=N'.length;unfold Jo;rw[Ab];exact ok.len⟩
 · have e2:(Jo js σ)[i]?=some (some v):=e2;unfold Jo at e2;rw[Af] at e2;cases q:js[i]? with
   | none=>rw[q] at e2;cases e2
   | some o=>
    rw[q] at e2;cases o with
    | none=>cases e2
    | some j=>
     obtain⟨x',n1,n2,n3⟩:=ok.cap i j q;have e1:N'[i]?=some x:=e1;rw[n1] at e1;cases e1;have e2:(σ[j]?).join=some v:=Az e2;have e2':σ[j]?=some (some v):=by
      cases q2:σ[j]? with
      | none=>rw[q2] at e2;cases e2
      | some o2=>rw[q2] at e2;exact congrArg some e2
     obtain⟨mo,hno,hlo⟩:=I.loc;have kx:=ok.free _ (P5 n3) rfl;have vis:Nu X.env.scope x:=by
      rcases kx with z | z
      · exact .inr (.inl z)
      · exact .inr (.inr z)
     obtain⟨u,r,l⟩:=hlo j x v n2 e2' vis;refine⟨u,r,.inr ⟨Z9 n3,?_⟩⟩;rcases l with⟨z,_⟩ | ⟨_,c,hc,hcell⟩
     · rcases kx with y | y<;>(rw[z] at y;cases y)
     · have z:=h3 _ (P5 n3) rfl;cases q3:cl.lookup x with
       | none=>rw[q3] at z;cases z
       | some c'=> have:=h2' x c' ((oc.own x c' q3).2 (by rw[n3];decide));rw[hc] at this;cases this;exact⟨c,q3,hcell.keeps k⟩
 · rcases h2 x c e with⟨_,_,l⟩ | l
   · exact⟨_,l⟩
   · obtain⟨v,hv⟩:=I.cell x c l;exact⟨v,hv.keeps k⟩
 · rcases h2 x c e with⟨_,l,_⟩ | l
   · exact I.hok.fresh (AZ l)
   · exact I.freeC x c l
section
variable{tg iter elt:Expr}{ifs:List Expr}{wi:TI}{js:IT}{g:TG}{tc:TT}{te:TE}{N':List Str}
theorem SW{pins:List (Addr×Obj)}{σ:St}{H:Hp}{s:Shared}{E:Value→Shared→Prop}{Q:VK}{J:It}{it:Addr}{fp:List Addr}{tn:Nat→Heap→Prop}{cl:List (Str×Addr)}
 (hc:X.calm=true) (ok:CapOk X N' js scope)
 (h2:∀x c,cl.lookup x=some c→X.env.cells.lookup x=some c) (h3:∀p∈scope.names,p.2= .free→(cl.lookup p.1).isSome=true)
 (hg:∀cl C s₀ H₀ ex,PG (Iu X N' scope cl C s₀ H₀ ex) tg g) (ht:∀cl C s₀ H₀ ex,Iw (Iu X N' scope cl C s₀ H₀ ex) ifs tc) (he:∀cl C s₀ H₀ ex,PE (Iu X N' scope cl C s₀ H₀ ex) elt te)
 (I:Inv X pins σ H s) (T:Turn X.prog X.w X.K tg J fp it tn) (st:tn 0 s.heap) (hf:∀b∈fp,HS X pins H b)
 (hw:∀p,H p=none→Kl J p js g tc te σ H Q):
 wpAny (model X.prog X.w) X.A (newList []) (λacc s₃=>wpAny (model X.prog X.w) X.A (newFunctionEnv scope X.env.globals cl [] X.env.qual none .none (some X.env)) (λcenv s₄=>
  codeAny (model X.prog X.w) X.A (.compStart (.ListComp elt [⟨tg,iter,ifs,0⟩] scope pos) 0 (.ref it) acc {cenv with scope:=relabel scope X.env})
   (λr s'=>r= .ok .next∧(∃m,s'.heap.Ns cenv.locals m)∧∃v H',RelV v acc∧Inv X pins σ H' s'∧HS X pins H' cenv.locals∧Q v H') s₄) E s₃) E s:=by
 have objs:=T.obj _ _ st;refine AN ?_ (by show 0≤Au;decide);obtain⟨W,⟨m0,w0⟩,turn⟩:=hw s.heap.objs.size (I.hok.fresh (Ag _));generalize hp:s.heap.objs.size=p at*;have kp:∀b u,s.heap.get? b=some u→(s.heap.push {cls:= .type "list",dict:=none,data:= .seq ([]:List Value).toArray}).get? b=some u:=λb u e=>Ad _ e;have I3:Inv X pins σ (HI H p (.lst [])) {s with heap:=s.heap.push {cls:= .type "list",dict:=none,data:= .seq ([]:List Value).toArray}}:=by refine I.laid (t':=s.toks) kp (by rw[hp];exact Ag _) ⟨Br _,[],0,.nil,?_⟩;have:=Am s.heap (o:={cls:= .type "list",dict:=none,data:= .seq ([]:List Value).toArray}) rfl;rw[hp] at this;exact this
 have fne:∀b∈fp,b≠p:=λb hb=>by obtain⟨o,e,_⟩:=objs b hb;have:=Ai e;rw[←hp];exact Aq this
 have hf3:∀b∈fp,HS X pins (HI H p (.lst [])) b:=λb hb=>⟨by rw[Ij (fne b hb)];exact(hf b hb).1,(hf b hb).2⟩;have st3:tn 0 (s.heap.push {cls:= .type "list",dict:=none,data:= .seq ([]:List Value).toArray}):=T.keep _ _ _ st λb _ o e=>kp b o e;have lt3:∀b∈fp,b<(s.heap.push {cls:= .type "list",dict:=none,data:= .seq ([]:List Value).toArray}).objs.size:=λb hb=>by obtain⟨o,e,_⟩:=objs b hb;exact Ai (kp b o e)
 generalize hs3:({s with heap:=s.heap.push {cls:= .type "list",dict:=none,data:= .seq ([]:List Value).toArray}}:Shared)=s3 at*
 have eh:s.heap.push {cls:= .type "list",dict:=none,data:= .seq ([]:List Value).toArray}=s3.heap:=by rw[←hs3]
 rw[eh] at st3 lt3;refine Os ok.cells λcl h₁ hns₁ k4 oc=>?_;have I4:=NS (cl:=cl) (h₁:=h₁) (t':=s3.toks+([]:List (Str×Value)).length) ok I3 h2 h3 hf3 lt3 k4 hns₁ oc;have st4:tn 0 h₁:=T.keep _ _ _ st3 λb _ o e=>k4 b o e;generalize hX:Iu X N' scope cl s3.heap.objs.size s3 (HI H p (.lst [])) fp=X' at I4;have hg':PG X' tg g:=by rw[←hX];exact hg _ _ _ _ _
 have ht':Iw X' ifs tc:=by rw[←hX];exact ht _ _ _ _ _
 have he':PE X' elt te:=by rw[←hX];exact he _ _ _ _ _
 have eP:X'.prog=X.prog:=by rw[←hX];rfl
 have ew:X'.w=X.w:=by rw[←hX];rfl
 have eK:X'.K=X.K:=by rw[←hX];rfl
 have ec:X'.calm=true:=by rw[←hX];exact hc
 have eA:X'.A=X.A:=by rw[←hX];rfl
 have ex:X'.xe=λ_ _=>False:=by rw[←hX];rfl
 have eE:X'.env=compEnvC scope cl s3.heap.objs.size X.env:=by rw[←hX];rfl
 have eEx:X'.ex=fp:=by rw[←hX];rfl
 have eN:X'.pn=[]:=by rw[←hX];rfl
 have stat:∀{H':Hp},(∀b∈fp,H' b=none)→∀b∈fp,HS X' [] H' b:=λ{H'}hn b hb=>by have okc:=I4.ok;refine⟨hn b hb,(okc.exf b (by rw[eEx];exact hb)).1,okc.exfs b (by rw[eEx];exact hb),.inl (by rw[eEx];exact hb),(okc.exf b (by rw[eEx];exact hb)).2,λq hq=>?_⟩;rw[eN] at hq;cases hq
 have loop:∀s₄:Shared,s₄={s3 with heap:=h₁,toks:=s3.toks+([]:List (Str×Value)).length}→
  codeAny (model X.prog X.w) X.A (.compLoop (.ListComp elt [⟨tg,iter,ifs,0⟩] scope pos) 0 (.ref it) (.ref p) (compEnvC scope cl s3.heap.objs.size X.env))
   (λr s'=>r= .ok .next∧(∃m,s'.heap.Ns s3.heap.objs.size m)∧∃v H',RelV v (.ref p)∧Inv X pins σ H' s'∧HS X pins H' s3.heap.objs.size∧Q v H') s₄:=by
  rintro s₄ rfl;refine YE (λn s'=>∃i σ' ys H',Inv X' [] σ' H' s'∧tn i s'.heap∧(∀b∈fp,H' b=none)∧W i n σ' ys H') ?_ m0 ⟨0,_,[],_,I4,st4,λb hb=>(hf3 b hb).1,w0⟩;rintro n s5 ⟨i,σ5,ys,H5,I5,st5,fr5,w5⟩;obtain⟨hp5,tu⟩:=turn i n σ5 ys H5 w5;rcases tu with⟨stop,qn⟩ | ⟨go,hz,step⟩
  · have D:=T.done X' eP ew eK ec i [] s5 σ5 H5 (λ_ _=>False) I5 (stat fr5) st5 stop;rw[eA] at D;refine HN D λr s6 ⟨hr,I6⟩=>?_;subst hr;refine⟨rfl,?_,.ref p,H5,rfl,?_,?_,qn⟩
    · obtain⟨m,hm,_⟩:=I6.loc;rw[eE] at hm;exact⟨m,hm⟩
    · have b6:=I6.base;have ho:=I6.os;have hk:=I6.hok;have hb:=I6.bare;subst hX;exact I3.call' (ch:=fp) ho b6 hk hb λb hb'=>⟨(hf b hb').2.2.2.1,(hf b hb').2.1,(hf b hb').2.2.2.2.1,(hf b hb').2.2.2.2.2⟩
    · have fr:=I6.free;rw[eE] at fr;exact I3.fpOk (Ag _) fr
  · have D:=T.item X' eP ew eK ec i [] s5 σ5 H5 (λ_ _=>False) I5 (stat fr5) st5 go;rw[eA] at D;refine HN D λr s6 ⟨u,hr,h6⟩=>?_;subst hr;refine HN h6 λ_ s7 ⟨x,H7,I7,r7,y7,st7,fr7⟩=>?_;have I7':=I7.pinned (stat fr7) (T.obj _ _ st7);have G:=hg' _ s7 σ5 H7 x u _ I7' r7 (step x H7 y7);rw[eP,ew,eA,ex,eE] at G;refine HN G λ_ s8 ⟨σ8,H8,I8,q8⟩=>?_;have Tt:=ht' _ s8 σ8 H8 _ I8 q8;rw[eP,ew,eA,ex,eE] at Tt;refine HN Tt λb s9 ⟨H9,I9,q9⟩=>?_;have again:∀{s':Shared}{ys':List V}{H':Hp},Inv X' ([]++Js fp s7.heap) σ8 H' s'→(∃m',m'<n∧W (i+1) m' σ8 ys' H')→
     ∃m,m<n∧∃i σ' ys H',Inv X' [] σ' H' s'∧tn i s'.heap∧(∀b∈fp,H' b=none)∧W i m σ' ys H':=λ{s' ys' H'}I' ⟨m',hm,w'⟩=>by
     refine⟨m',hm,i+1,σ8,ys',H',I'.unpinned,T.keep _ _ _ st7 λb hb o e=>(I'.pin (b,o) (An _ (An _ (JK hb e)))).1,λb hb=>?_,w'⟩;obtain⟨o,e,d⟩:=T.obj _ _ st7 b hb;exact(I'.pin (b,o) (An _ (An _ (JK hb e)))).2.1
    cases b with
    | false=>exact again I9 q9
    | true=> have Ee:=he' _ s9 σ8 H9 _ I9 q9;rw[eP,ew,eA,ex,eE] at Ee;show wpAny _ _ _ _ _ _;refine HN Ee λxv s10 ⟨y,H10,I10,r10,hp10,q10⟩=>?_;have Ap:=Lq (X:=X') _ s10 σ8 H10 (.ref p) [y] (.ref p) [xv] (λ_ H'=>H'=HI H10 p (.lst (ys++[y]))) I10 rfl (.cons r10 .nil) ⟨p,ys,y,rfl,rfl,hp10,hz,rfl⟩;rw[eP,ew,eA,ex] at Ap;refine HN Ap λ_ s11 ⟨_,H11,I11,_,e11⟩=>?_;subst e11;exact again I11 q10
 exact FK (loop _ rfl) (T.self _ 0 _ _ _ st4 (loop _ rfl))
theorem Jq(hc:X.calm=true)(ok:CapOk X N' js scope)(hi:PI X tg iter wi)
 (hg:∀cl C s₀ H₀ ex,PG (Iu X N' scope cl C s₀ H₀ ex) tg g) (ht:∀cl C s₀ H₀ ex,Iw (Iu X N' scope cl C s₀ H₀ ex) ifs tc) (he:∀cl C s₀ H₀ ex,PE (Iu X N' scope cl C s₀ H₀ ex) elt te)
 (hs:∀x,A_ iter X.env x=pure x:=by intro _;rfl):PE X (.ListComp elt [⟨tg,iter,ifs,0⟩] scope pos) (Uw wi js g tc te):=by
 intro pins s σ H Q I h;obtain⟨cl,c1,c2,c3⟩:=M7 (scope:=scope) I.ok.has ok.free;rw[eval_ListComp];refine C9 (use:=none) rfl hs c1 ok.kind ok.names (HN (hi pins s σ H _ I h) λv s1 h1=>HN h1 λitv s2 h2=>?_);obtain⟨it,fp,tn,J,H2,e,I2,T,st2,f2,hw⟩:=h2;subst e;refine A4 (SW (iter:=iter) (pos:=pos) hc ok c2 c3 hg ht he I2 T st2 f2 hw) (λacc s3 h3=>A4 h3 (λcenv s4 h4=>?_) λ_ _ z=>z) λ_ _ z=>z;refine Ce h4 λr s5 h5=>?_;obtain⟨rfl,⟨m,hm⟩,v,H5,rv,I5,f5,q5⟩:=h5;refine⟨m,hm,λh' sb=>?_⟩;obtain⟨f0,f1,_,f3,f4,f6⟩:=f5;exact⟨v,H5,I5.turned (t':=s5.toks) (λb o hb e=>(sb.2 b hb).trans e) f0 f1 f3 f4 f6,rv,q5⟩
theorem MK{px:Pos}{spos:Pos}(hN:X.N.Nodup)(hi':X.N[i]?=some x)(hx:LW X.env.scope x)(hc:X.calm=true)(ok:CapOk X N' js scope)(hi:PI X tg iter wi)
 (hg:∀cl C s₀ H₀ ex,PG (Iu X N' scope cl C s₀ H₀ ex) tg g) (ht:∀cl C s₀ H₀ ex,Iw (Iu X N' scope cl C s₀ H₀ ex) ifs tc) (he:∀cl C s₀ H₀ ex,PE (Iu X N' scope cl C s₀ H₀ ex) elt te)
 (hsw:swapsWith (.ListComp elt [⟨tg,iter,ifs,0⟩] scope pos) (some (.Name x px)) spos.line X.env=pure true:=by rfl)
 (hs:∀x,A_ iter X.env x=pure x:=by intro _;rfl) (hf:X.fn x=true∨X.env.scope.names.lookup x=some .local:=by first | exact .inl rfl | exact .inr rfl | assumption):
 PS X (.Assign [.Name x px] (.ListComp elt [⟨tg,iter,ifs,0⟩] scope pos) spos) (K4 (Uw wi js g tc te) (JN i)):=by
 intro pins s σ H D I h;obtain⟨cl,c1,c2,c3⟩:=M7 (scope:=scope) I.ok.has ok.free;rw[exec_Assign_Name_used _ _ _ _ hsw];refine Aa (Bp (Aa ?_));show wpAny _ X.A (do let _ ←comprehension (.ListComp elt [⟨tg,iter,ifs,0⟩] scope pos) scope X.env _ (newList []) false (eval iter X.env) (some (assign (.Name x px) X.env))) _ _ s
 refine Aa (A4 (C9 (use:=some (assign (.Name x px) X.env)) (Q:=λ_ s'=>SP X pins D .next s') rfl hs c1 ok.kind ok.names
  (HN (hi pins s σ H _ I h) λv s1 h1=>HN h1 λitv s2 h2=>?_)) (λ_ s' hq=>Ac (Ac hq)) λ_ _ e=>e)
 obtain⟨it,fp,tn,J,H2,e,I2,T,st2,f2,hw⟩:=h2;subst e;refine A4 (SW (Q:=λx H1=>JN i x σ H1 D.nx) (iter:=iter) (pos:=pos) hc ok c2 c3 hg ht he I2 T st2 f2 hw) (λacc s3 h3=>A4 h3 (λcenv s4 h4=>?_) λ_ _ z=>z) λ_ _ z=>z;refine Ce h4 λr s5 h5=>?_;obtain⟨rfl,⟨m,hm⟩,v,H5,rv,I5,f5,q5⟩:=h5;obtain⟨f0,f1,f2',f3,f4,f6⟩:=f5;show wpAny _ X.A (assign (.Name x px) X.env acc) _ _ _;refine EQ (PB I5 hN hi' hx rv (λs6 I6 ch=>?_) hf);obtain⟨a,sb,ha⟩:=ch;have na:cenv.locals≠a:=by
  rcases ha with z | z
  · rw[z];exact f1
  · exact λy=>f4 x a z y.symm
 refine⟨m,hm.sameBut sb na,λh' sb'=>⟨_,H5,I6.turned (t':=s6.toks) (λb o hb e=>(sb'.2 b hb).trans e) f0 f1 f3 f4 f6,q5⟩⟩
end
end L2
set_option exponentiation.threshold 2000
namespace L2
def QY(i j:Int):Prop:=0≤j∧j≤1000∧i.natAbs<2^1000
def Vo(i j:Int):Prop:=0<j∧j<2^1000
theorem KC:IL X (binaryOp .Pow) (rI QY λi j=> .int (i^j.toNat)):=Na λi j _ _ _ _ _ hc q=>by
 obtain⟨h0,h1,h2⟩:=hc;refine pow_int h0 ?_ q;have hb:Eo i≤1000:=intBits_le h2;have e1:((Eo i:Nat):Int)*j≤1000*1000:=by have a1:((Eo i:Nat):Int)*j≤1000*j:=Int.mul_le_mul_of_nonneg_right (by omega) h0;have a2:1000*j≤1000*1000:=Cn h1 (by decide);exact Fg a1 a2
 exact Fg e1 (by decide)
theorem Sv:IL X (binaryOp .FloorDiv) (rI Vo λi j=> .int (i / j)):=Na λi j _ _ _ _ _ hc q=>by
 obtain⟨h0,h1⟩:=hc;refine floordiv_int (by omega) ?_ (.inl (PyProof.noPylong_of_log2 ?_))
 · rw[Int.fdiv_eq_ediv_of_nonneg _ (by omega)];exact q
 · have h2:j.natAbs<2^1000:=by
    have e:((j.natAbs:Nat):Int)=j:=by omega
    have h3:((j.natAbs:Nat):Int)<((2^1000:Nat):Int):=by rw[e,Int.natCast_pow];exact h1
    exact Int.ofNat_lt.mp h3
   have h4:j.natAbs≠0:=by omega
   have h5:=(Nat.log2_lt h4).mpr h2;omega
inductive PD where
 | non | bl (b:Bool) | int (i:Int) | str (x:Str) | lst (ds:List PD) | tup (ds:List PD)
mutual
def HJ(K:Ao)(H:Hp):PD→V→Prop
 | .non,v=>v= .non
 | .bl b,v=>v= .bl b
 | .int i,v=>v= .int i
 | .str x,v=>v= .str x
 | .lst ds,v=>∃a xs,v= .ref a∧SqL K H a xs∧Reps K H ds xs
 | .tup ds,v=>∃a xs,v= .ref a∧SqT K H a xs∧Reps K H ds xs
def Reps(K:Ao)(H:Hp):List PD→List V→Prop
 | [],xs=>xs=[]
 | d::ds,xs=>∃x r,xs=x::r∧HJ K H d x∧Reps K H ds r
end
mutual
def Ip:PD→PD→Bool
 | .non,.non=>true
 | .bl a,.bl b=>a==b
 | .bl a,.int b=>(if a then 1 else 0)==b
 | .int a,.bl b=>a==(if b then 1 else 0)
 | .int a,.int b=>a==b
 | .str a,.str b=>a==b
 | .lst xs,.lst ys=>JY xs ys
 | .tup xs,.tup ys=>JY xs ys
 | _,_=>false
def JY:List PD→List PD→Bool
 | [],[]=>true
 | x::xs,y::ys=>Ip x y && JY xs ys
 | _,_=>false
end
mutual
def Je:PD→Nat
 | .lst ds=>Ja ds+1
 | .tup ds=>Ja ds+1
 | _=>0
def Ja:List PD→Nat
 | []=>0
 | d::ds=>max (Je d) (Ja ds)
end
mutual
theorem Of:∀d:PD,Ip d d=true
 | .non=>rfl
 | .bl b=>by simp[Ip]
 | .int i=>by simp[Ip]
 | .str x=>by simp[Ip]
 | .lst ds=>by rw[Ip];exact MP ds
 | .tup ds=>by rw[Ip];exact MP ds
theorem MP:∀ds:List PD,JY ds ds=true
 | []=>by rw[JY]
 | d::ds=>by rw[JY,Of d,MP ds];rfl
end
theorem Reps.length:∀{ds:List PD}{xs:List V},Reps K H ds xs→xs.length=ds.length
 | [],xs,h=>by rw[Reps] at h;rw[h];rfl
 | d::ds,xs,h=>by rw[Reps] at h;obtain⟨x,r,rfl,_,h⟩:=h;rw[AF,AF,Reps.length h]
theorem Ls:∀{xs ys:List PD},xs.length≠ys.length→JY xs ys=false
 | [],[],h=>absurd rfl h
 | [],_::_,_=>by rw[JY];all_goals simp
 | _::_,[],_=>by rw[JY];all_goals simp
 | x::xs,y::ys,h=>by rw[JY,Ls (xs:=xs) (ys:=ys) (by simpa using h)];simp
def L5(xs ys:List PD)(j:Nat):Bool:=match xs[j]?,ys[j]? with
 | some a,some b=>Ip a b
 | _,_=>false
theorem LN:∀(xs ys:List PD),xs.length=ys.length→(Bc xs.length).all (L5 xs ys)=JY xs ys
 | [],[],_=>by rw[JY];rfl
 | x::xs,y::ys,h=>by rw[JY,AF,DO,CF,DA];rw[←LN xs ys (by simpa using h)];rfl
theorem SqT.notL{K:Ao}{ys:List V}(I:Inv X pins σ H s)(h:SqT X.K H a xs)(h':SqL X.K H a ys):False:=by obtain⟨its,_,p,_⟩:=I.tuple h;obtain⟨its',_,p',_⟩:=I.list h';exact SeqAt.ne_of_list_tuple p'.isList (show s.heap.IsTuple a its.toArray from p) rfl
mutual
theorem OU(I:Inv X pins σ H s):∀(d e:PD)(v:V),HJ X.K H d v→HJ X.K H e v→d=e
 | .non,e,v,h,h'=>by rw[HJ] at h;subst h;cases e<;>rw[HJ] at h'<;>first | rfl | (obtain⟨_,_,z,_⟩:=h';cases z;done) | (cases h';done)
 | .bl b,e,v,h,h'=>by rw[HJ] at h;subst h;cases e<;>rw[HJ] at h'<;>first | (obtain⟨_,_,z,_⟩:=h';cases z;done) | (cases h';done) | (cases h';rfl)
 | .int i,e,v,h,h'=>by rw[HJ] at h;subst h;cases e<;>rw[HJ] at h'<;>first | (obtain⟨_,_,z,_⟩:=h';cases z;done) | (cases h';done) | (cases h';rfl)
 | .str x,e,v,h,h'=>by rw[HJ] at h;subst h;cases e<;>rw[HJ] at h'<;>first | (obtain⟨_,_,z,_⟩:=h';cases z;done) | (cases h';done) | (cases h';rfl)
 | .lst ds,e,v,h,h'=>by
  rw[HJ] at h;obtain⟨a,xs,rfl,q,r⟩:=h;cases e with
  | lst es=> rw[HJ] at h';obtain⟨a',ys,z,q',r'⟩:=h';cases z;have:=I.list_inj q q';subst this;rw[Pc I ds es xs r r']
  | tup es=> rw[HJ] at h';obtain⟨a',ys,z,q',r'⟩:=h';cases z;exact(SqT.notL (K:=X.K) I q' q).elim
  | _=>rw[HJ] at h';cases h'
 | .tup ds,e,v,h,h'=>by
  rw[HJ] at h;obtain⟨a,xs,rfl,q,r⟩:=h;cases e with
  | tup es=> rw[HJ] at h';obtain⟨a',ys,z,q',r'⟩:=h';cases z;have:=I.tuple_inj q q';subst this;rw[Pc I ds es xs r r']
  | lst es=> rw[HJ] at h';obtain⟨a',ys,z,q',r'⟩:=h';cases z;exact(SqT.notL (K:=X.K) I q q').elim
  | _=>rw[HJ] at h';cases h'
theorem Pc(I:Inv X pins σ H s):∀(ds es:List PD)(vs:List V),Reps X.K H ds vs→Reps X.K H es vs→ds=es
 | [],es,vs,h,h'=>by
  rw[Reps] at h;subst h;cases es with
  | nil=>rfl
  | cons e es=>rw[Reps] at h';obtain⟨_,_,z,_⟩:=h';cases z
 | d::ds,es,vs,h,h'=>by
  rw[Reps] at h;obtain⟨x,r,rfl,h1,h2⟩:=h;cases es with
  | nil=>rw[Reps] at h';cases h'
  | cons e es=> rw[Reps] at h';obtain⟨x',r',z,h1',h2'⟩:=h';cases z;rw[OU I d e x h1 h1',Pc I ds es r h2 h2']
end
mutual
theorem Wm(I:Inv X pins σ H s):∀(A:BZ)(d e:PD)(v w:V)(u y:Value),HJ X.K H d v→HJ X.K H e w→RelV v u→RelV w y→A.units+Je d<cLine→SeqAt.EqAt A s u y (Ip d e)
 | A,.non,e,v,w,u,y,h,h',r,r',z=>by
  rw[HJ] at h;subst h;cases r;cases e with
  | non=>rw[HJ] at h';subst h';cases r';rw[Ip];exact Ed _
  | bl b=>rw[HJ] at h';subst h';cases r';exact Gc b
  | int b=>rw[HJ] at h';subst h';obtain⟨t,rfl⟩:=r';exact Gk b t
  | str b=>rw[HJ] at h';subst h';obtain⟨t,rfl⟩:=r';exact Gm b t
  | lst es=>rw[HJ] at h';obtain⟨a,xs,rfl,q,_⟩:=h';cases r';obtain⟨its,_,p,_⟩:=I.list q;exact SeqAt.EqAt.none_list p.isList (by omega)
  | tup es=>rw[HJ] at h';obtain⟨a,xs,rfl,q,_⟩:=h';cases r';obtain⟨its,_,p,_⟩:=I.tuple q;exact SeqAt.EqAt.none_tuple p (by omega)
 | A,.bl c,e,v,w,u,y,h,h',r,r',z=>by
  rw[HJ] at h;subst h;cases r;cases e with
  | non=>rw[HJ] at h';subst h';cases r';exact Gd c
  | bl b=>rw[HJ] at h';subst h';cases r';exact Ge c b
  | int b=>rw[HJ] at h';subst h';obtain⟨t,rfl⟩:=r';exact Gn c b t
  | str b=>rw[HJ] at h';subst h';obtain⟨t,rfl⟩:=r';exact Go c b t
  | lst es=>rw[HJ] at h';obtain⟨a,xs,rfl,q,_⟩:=h';cases r';obtain⟨its,_,p,_⟩:=I.list q;exact SeqAt.EqAt.bool_list c p.isList (by omega)
  | tup es=>rw[HJ] at h';obtain⟨a,xs,rfl,q,_⟩:=h';cases r';obtain⟨its,_,p,_⟩:=I.tuple q;exact SeqAt.EqAt.bool_tuple c p (by omega)
 | A,.int c,e,v,w,u,y,h,h',r,r',z=>by
  rw[HJ] at h;subst h;obtain⟨tc,rfl⟩:=r;cases e with
  | non=>rw[HJ] at h';subst h';cases r';exact Gp c tc
  | bl b=>rw[HJ] at h';subst h';cases r';exact Gq c tc b
  | int b=>rw[HJ] at h';subst h';obtain⟨t,rfl⟩:=r';exact SeqAt.EqAt.int_int c tc b t
  | str b=>rw[HJ] at h';subst h';obtain⟨t,rfl⟩:=r';exact E1 c tc b t
  | lst es=>rw[HJ] at h';obtain⟨a,xs,rfl,q,_⟩:=h';cases r';obtain⟨its,_,p,_⟩:=I.list q;exact SeqAt.EqAt.int_list c tc p.isList (by omega)
  | tup es=>rw[HJ] at h';obtain⟨a,xs,rfl,q,_⟩:=h';cases r';obtain⟨its,_,p,_⟩:=I.tuple q;exact SeqAt.EqAt.int_tuple c tc p (by omega)
 | A,.str c,e,v,w,u,y,h,h',r,r',z=>by
  rw[HJ] at h;subst h;obtain⟨tc,rfl⟩:=r;cases e with
  | non=>rw[HJ] at h';subst h';cases r';exact Gr c tc
  | bl b=>rw[HJ] at h';subst h';cases r';exact Gs c tc b
  | int b=>rw[HJ] at h';subst h';obtain⟨t,rfl⟩:=r';exact E2 c tc b t
  | str b=>rw[HJ] at h';subst h';obtain⟨t,rfl⟩:=r';exact SeqAt.EqAt.str_str c tc b t
  | lst es=>rw[HJ] at h';obtain⟨a,xs,rfl,q,_⟩:=h';cases r';obtain⟨its,_,p,_⟩:=I.list q;exact SeqAt.EqAt.str_list c tc p.isList (by omega)
  | tup es=>rw[HJ] at h';obtain⟨a,xs,rfl,q,_⟩:=h';cases r';obtain⟨its,_,p,_⟩:=I.tuple q;exact SeqAt.EqAt.str_tuple c tc p (by omega)
 | A,.lst ds,e,v,w,u,y,h,h',r,r',z=>by
  have h0:=h;rw[HJ] at h;obtain⟨a,xs,rfl,q,qs⟩:=h;cases r;obtain⟨its,rv,p,_⟩:=I.list q;cases e with
  | non=>rw[HJ] at h';subst h';cases r';exact SeqAt.EqAt.list_none p.isList (by omega)
  | bl b=>rw[HJ] at h';subst h';cases r';exact SeqAt.EqAt.list_bool b p.isList (by omega)
  | int b=>rw[HJ] at h';subst h';obtain⟨t,rfl⟩:=r';exact SeqAt.EqAt.list_int b t p.isList (by omega)
  | str b=>rw[HJ] at h';subst h';obtain⟨t,rfl⟩:=r';exact SeqAt.EqAt.list_str b t p.isList (by omega)
  | tup es=>rw[HJ] at h';obtain⟨b,ys,rfl,q',_⟩:=h';cases r';obtain⟨its',_,p',_⟩:=I.tuple q';exact SeqAt.EqAt.list_tuple p.isList p' (by omega)
  | lst es=>
   have h0':=h';rw[HJ] at h';obtain⟨b,ys,rfl,q',qs'⟩:=h';cases r';obtain⟨its',rv',p',_⟩:=I.list q';by_cases hab:a=b
   · subst hab;rw[OU I _ _ _ h0 h0',Of];exact Ed _
   · refine SeqAt.EqAt.of_refs hab ?_;rw[Ip];rw[Je] at z;have l1:=qs.length;have l2:=qs'.length;have l3:=rv.length;have l4:=rv'.length;by_cases hl:ds.length=es.length
     · rw[←LN ds es hl];have:=SeqAt.RcAt.lists (e:=L5 ds es) p.isList p'.isList (by simp;omega) (by omega) (λj h1 h2=>?_) (A:=A)
       · simp only[Ax] at this;rw[show ds.length=its.length by omega];exact this
       · have:=LL I A.in1 ds es xs ys its its' qs qs' rv rv' (by rw[C_];omega) j (by simpa using h1) (by simpa using h2);simpa using this
     · rw[Ls hl];exact DB p.isList p'.isList (by simp;omega) (by omega)
 | A,.tup ds,e,v,w,u,y,h,h',r,r',z=>by
  have h0:=h;rw[HJ] at h;obtain⟨a,xs,rfl,q,qs⟩:=h;cases r;obtain⟨its,rv,p,_⟩:=I.tuple q;cases e with
  | non=>rw[HJ] at h';subst h';cases r';exact SeqAt.EqAt.tuple_none p (by omega)
  | bl b=>rw[HJ] at h';subst h';cases r';exact SeqAt.EqAt.tuple_bool b p (by omega)
  | int b=>rw[HJ] at h';subst h';obtain⟨t,rfl⟩:=r';exact SeqAt.EqAt.tuple_int b t p (by omega)
  | str b=>rw[HJ] at h';subst h';obtain⟨t,rfl⟩:=r';exact SeqAt.EqAt.tuple_str b t p (by omega)
  | lst es=>rw[HJ] at h';obtain⟨b,ys,rfl,q',_⟩:=h';cases r';obtain⟨its',_,p',_⟩:=I.list q';exact SeqAt.EqAt.tuple_list p p'.isList (by omega)
  | tup es=>
   have h0':=h';rw[HJ] at h';obtain⟨b,ys,rfl,q',qs'⟩:=h';cases r';obtain⟨its',rv',p',_⟩:=I.tuple q';by_cases hab:a=b
   · subst hab;rw[OU I _ _ _ h0 h0',Of];exact Ed _
   · refine SeqAt.EqAt.of_refs hab ?_;rw[Ip];rw[Je] at z;have l1:=qs.length;have l2:=qs'.length;have l3:=rv.length;have l4:=rv'.length;have:=SeqAt.RcAt.tuples (e:=L5 ds es) p p' (by omega) (λj h1 h2=>?_) (A:=A)
     · simp only[Ax] at this;by_cases hl:ds.length=es.length
       · rw[←LN ds es hl];rw[show min its.length its'.length=ds.length by omega,show(its.length==its'.length)=true by simp;omega,EH] at this;exact this
       · rw[Ls hl];rw[show(its.length==its'.length)=false by simp;omega,DH] at this;exact this
     · have:=LL I A.in1 ds es xs ys its its' qs qs' rv rv' (by rw[C_];omega) j (by simpa using h1) (by simpa using h2);simpa using this
theorem LL(I:Inv X pins σ H s):∀(A:BZ)(ds es:List PD)(vs ws:List V)(us ys:List Value),Reps X.K H ds vs→Reps X.K H es ws→Vals vs us→Vals ws ys→A.units+Ja ds<cLine→
 ∀(j:Nat)(h1:j<us.length)(h2:j<ys.length),SeqAt.EqAt A s us[j] ys[j] (L5 ds es j)
 | A,[],es,vs,ws,us,ys,h,h',r,r',z=>by rw[Reps] at h;subst h;cases r;intro j h1;exact absurd h1 (Nat.not_lt_zero _)
 | A,d::ds,es,vs,ws,us,ys,h,h',r,r',z=>by
  rw[Reps] at h;obtain⟨x,vr,rfl,g1,g2⟩:=h;cases es with
  | nil=> rw[Reps] at h';subst h';cases r';intro j h1 h2;exact absurd h2 (Nat.not_lt_zero _)
  | cons e es=>
   rw[Reps] at h';obtain⟨x',vr',rfl,g1',g2'⟩:=h';cases r with
   | cons ra rb=>
    cases r' with
    | cons ra' rb'=>
     rw[Ja] at z;intro j h1 h2;cases j with
     | zero=>exact Wm I A d e x x' _ _ g1 g1' ra ra' (by omega)
     | succ j=>exact LL I A ds es vr vr' _ _ g2 g2' rb rb' (by omega) j (by simpa using h1) (by simpa using h2)
end
section
variable{R:Result→Shared→Prop}{J:Addr}{fo wo:List Addr}{len:Nat}{At:Nat→Value→Prop}{Sx:Nat→Heap→Prop}
theorem XF(kw:List (Str×Value))(Z:Walks prog w A.in1 J fo wo len At Sx)(bt:Nat→Nat→Bool)(cm:CmpOf prog w A.in1 .Gt At bt)(B:Addr)(nB:B ∉ fo):
 ∀(k j:Nat)(s:Shared)(best:Value)(c:Nat),len - (j+1)=k→j+1≤len→Sx (j+1) s.heap→At (argBest bt j) best→
 s.heap.get? B=some {cls:= .type "list",dict:=none,data:= .seq #[best,best] c,slots:=#[]}→
 (∀v g t',At (argBest bt (len - 1)) v→(∀b o,b ∉ wo→b≠B→s.heap.get? b=some o→g.get? b=some o)→R (.ok (.ret v)) {s with heap:=g,toks:=t'})→
 codeAny (model prog w) A (.builtin "max.loop" ⟨[.ref J,.none,.ref B],kw⟩) R s:=by
 have nW:B ∉ wo:=λz=>nB (Z.sub _ z);have nm:(toString "max"++toString ".loop":String)="max.loop":=by decide
 intro k
 induction k with
 | zero=>
  intro j s best c e0 e1 sx ab eB fin;have last:j+1=len:=by omega
  refine Bf Fh ?_;rw[AK CJ _];show wpAny _ _ (seqItems? (.ref B)>>=_) _ _ _;refine Aa (AQ eB rfl ?_);show wpAny _ _ (tryCatch (pyNext (.ref J)) _>>=_) _ _ _;refine Aa (Ch (Z.done s _ _ (last ▸ sx) λg t' kp=>?_));have eB':=kp B _ nW eB;show wpAny _ _ (updateSeq B (λ_=>#[])>>=_) _ _ _;refine Aa ?_;refine BB eB' rfl (Aa (Cg (Ac ?_)));exact fin best _ t' (by rw[←last];exact ab) λb o h1 h2 e=>(AI _ _ (Bq h2)).trans (kp b o h1 e)
 | succ k ih=>
  intro j s best c e0 e1 sx ab eB fin;have more:j+1<len:=by omega
  refine Bf Fh ?_;rw[AK CJ _];show wpAny _ _ (seqItems? (.ref B)>>=_) _ _ _;refine Aa (AQ eB rfl ?_);show wpAny _ _ (tryCatch (pyNext (.ref J)) _>>=_) _ _ _;refine Aa (Ch (Z.item (j+1) s _ _ more sx λv g t' av sx' kp=>?_));have eB':=kp B _ nW eB;show wpAny _ _ (tryCatch (holding [v,v] (richCompare .Gt v best>>=_)) _>>=_) _ _ _;refine Aa (Ch (AS (Aa (cm (j+1) (argBest bt j) v best _ _ _ av ab ?_))));refine Aa (AS (Bu ?_));refine Aa (Cg (Ac ?_));cases hb:bt (j+1) (argBest bt j) with
  | true=>
   simp only[if_true];refine Aa ?_;refine BB eB' rfl (Aa (Cg ?_));rw[nm];refine Ac ⟨Bd CJ _,ih (j+1) _ v _ (by omega) more (Z.frame _ _ _ sx' λb h1 o e=>?_) (by simp only[argBest,hb,if_true];exact av) (AM _ eB' rfl)
    λv' g' t'' av' kp'=>?_⟩
   · exact(AI _ _ (λz:B=b=>nB (by rw[z];exact h1))).trans e
   · exact fin v' g' t'' av' λb o h1 h2 e=>kp' b o h1 h2 ((AI _ _ (Bq h2)).trans (kp b o h1 e))
  | false=> simp only[BR,if_false];refine Aa (Cg ?_);rw[nm];refine Ac ⟨Bd CJ _,ih (j+1) _ best c (by omega) more sx' (by simp only[argBest,hb,BR,if_false];exact ab) eB' λv' g' t'' av' kp'=>?_⟩;exact fin v' g' t'' av' λb o h1 h2 e=>kp' b o h1 h2 (kp b o h1 e)
theorem Y8(d:Value)(Z:Walks prog w A.in1 J fo wo len At Sx)(bt:Nat→Nat→Bool)(cm:CmpOf prog w A.in1 .Gt At bt)(B:Addr)(nB:B ∉ fo){c:Nat}(sx:Sx 0 s.heap)
 (eB:s.heap.get? B=some {cls:= .type "list",dict:=none,data:= .seq #[] c,slots:=#[]})
 (fin:∀v g t',(len=0→v=d)→(0<len→At (argBest bt (len - 1)) v)→(∀b o,b ∉ wo→b≠B→s.heap.get? b=some o→g.get? b=some o)→R (.ok (.ret v)) {s with heap:=g,toks:=t'}):
 codeAny (model prog w) A (.builtin "max.loop" ⟨[.ref J,.none,.ref B],[("default",d)]⟩) R s:=by
 have nW:B ∉ wo:=λz=>nB (Z.sub _ z);have nm:(toString "max"++toString ".loop":String)="max.loop":=by decide
 refine Bf Fh ?_;rw[AK CJ _];show wpAny _ _ (seqItems? (.ref B)>>=_) _ _ _;refine Aa (AQ eB rfl ?_);show wpAny _ _ (tryCatch (pyNext (.ref J)) _>>=_) _ _ _;by_cases hl:len=0
 · refine Aa (Ch (Z.done s _ _ (hl ▸ sx) λg t' kp=>?_));refine Aa (BJ (Ac ?_));exact fin d g t' (λ_=>rfl) (λz=>by omega) λb o h1 _ e=>kp b o h1 e
 · refine Aa (Ch (Z.item 0 s _ _ (by omega) sx λv g t' av sx' kp=>?_));have eB':=kp B _ nW eB;show wpAny _ _ (updateSeq B (λ_=>#[v,v])>>=_) _ _ _;refine Aa ?_;refine BB eB' rfl ?_;rw[nm];refine Ac ⟨Bd CJ _,XF [("default",d)] Z bt cm B nB _ 0 _ v _ rfl (by omega) (Z.frame _ _ _ sx' λb h1 o e=>?_) av (AM _ eB' rfl) λv' g' t'' av' kp'=>?_⟩
   · exact(AI _ _ (λz:B=b=>nB (by rw[z];exact h1))).trans e
   · exact fin v' g' t'' (λz=>by omega) (λ_=>av') λb o h1 h2 e=>kp' b o h1 h2 ((AI _ _ (Bq h2)).trans (kp b o h1 e))
theorem Y7(a d:Value):argsOk "max" ⟨[a],[("default",d)]⟩:=by unfold argsOk;kernel_rfl
theorem YM{E:Value→Shared→Prop}{its:Array Value}{d:Value}{Q:Value→Shared→Prop}(hh:A.handled=none)(hl:s.heap.IsList a its)(bt:Nat→Nat→Bool)
 (cm:CmpOf prog w A.in1 .Gt (λi v=>its[i]?=some v) bt)
 (fin:∀v g t',(its.size=0→v=d)→(0<its.size→its[argBest bt (its.size - 1)]?=some v)→(∀b o,s.heap.get? b=some o→g.get? b=some o)→Q v {s with heap:=g,toks:=t'}):
 wpAny (model prog w) A (call (.builtin "max") [.ref a] [("default",d)]) Q E s:=by
 have nm:(toString "max"++toString ".loop":String)="max.loop":=by decide
 refine Eb (Dm F.plain_max F.entry_max ?_);have body:wpAny (model prog w) A.in1 (Builtin.«max» ⟨[.ref a],[("default",d)]⟩) (λfin s'=>match fin with
  | .done f=>(match(Except.ok f:Result) with | .ok (.ret v)=>Q v s' | .ok _=>False | .error e=>E e s')
  | .again c'=>c'.quiet=true∧codeAny (model prog w) A c' (λr s'=>match r with | .ok (.ret v)=>Q v s' | .ok _=>False | .error e=>E e s') s') E s:=by
  show wpAny _ A.in1 (CN "max" ["key","default"] 0 ⟨[],[("default",d)]⟩>>=_) _ _ s;refine Aa (Du (show CN "max" ["key","default"] 0 ⟨[],[("default",d)]⟩=pure [none,some d] from rfl) ?_);refine Aa (Ac ?_);refine Aa (CS hl ?_);refine Aa (AN ?_);rw[nm];obtain⟨o,ho,_⟩:=id hl;have lt:=Ai ho;have sz:(s.heap.push {cls:= .type "list_iterator",data:= .fields #[.ref a,.int 0 0]}).objs.size=s.heap.objs.size+1:=Bj _ _;have kp:∀b o',s.heap.get? b=some o'→((s.heap.push {cls:= .type "list_iterator",data:= .fields #[.ref a,.int 0 0]}).push {cls:= .type "list",dict:=none,data:= .seq ([]:List Value).toArray}).get? b=some o':=
   λb o' e=>Ad _ (Ad _ e)
  refine Ac ⟨Bd CJ _,Y8 d (E_ (A:=A.in1) hh s.heap.objs.size a (Aq lt) its) bt cm _ ?_
   ⟨⟨_,Ad _ (Am _ rfl),rfl,rfl⟩,hl.at λo' e=>kp a o' e⟩ (Am _ rfl) λv g t' h1 h2 h3=>?_⟩
  · show(s.heap.push _).objs.size ∉ [s.heap.objs.size,a];rw[sz];intro z;rcases Ak.mp z with z | z
    · exact Nat.succ_ne_self _ z
    · have z':=Ae.mp z;rw[←z'] at lt;exact absurd lt (Nat.not_lt.mpr (CW _))
  · refine fin v g t' h1 h2 λb o' e=>h3 b o' ?_ ?_ (kp b o' e)
    · intro z;exact absurd (Ae.mp z) (Aq (Ai e))
    · have:=Ai e;show b≠(s.heap.push _).objs.size;rw[sz];exact Aq (Dh this)
 simp only[checkBuiltinCall,F.kind_max];cases hsig:Gv "max" with
 | none=>exact Ac body
 | some sig=>
  have ha':Bind.checkArgs "max" sig ⟨[.ref a],[("default",d)]⟩=pure ():=by have:=Y7 (.ref a) d;simpa only[argsOk,hsig] using this
  simp only[ha'];exact Ac body
end
section
variable{R:Result→Shared→Prop}{J:Addr}{fo wo:List Addr}{len:Nat}{At:Nat→Value→Prop}{Sx:Nat→Heap→Prop}
theorem XG(kw:List (Str×Value))(Z:Walks prog w A.in1 J fo wo len At Sx)(bt:Nat→Nat→Bool)(cm:CmpOf prog w A.in1 .Lt At bt)(B:Addr)(nB:B ∉ fo):
 ∀(k j:Nat)(s:Shared)(best:Value)(c:Nat),len - (j+1)=k→j+1≤len→Sx (j+1) s.heap→At (argBest bt j) best→
 s.heap.get? B=some {cls:= .type "list",dict:=none,data:= .seq #[best,best] c,slots:=#[]}→
 (∀v g t',At (argBest bt (len - 1)) v→(∀b o,b ∉ wo→b≠B→s.heap.get? b=some o→g.get? b=some o)→R (.ok (.ret v)) {s with heap:=g,toks:=t'})→
 codeAny (model prog w) A (.builtin "min.loop" ⟨[.ref J,.none,.ref B],kw⟩) R s:=by
 have nW:B ∉ wo:=λz=>nB (Z.sub _ z);have nm:(toString "min"++toString ".loop":String)="min.loop":=by decide
 intro k
 induction k with
 | zero=>
  intro j s best c e0 e1 sx ab eB fin;have last:j+1=len:=by omega
  refine Bf Fi ?_;rw[AK CK _];show wpAny _ _ (seqItems? (.ref B)>>=_) _ _ _;refine Aa (AQ eB rfl ?_);show wpAny _ _ (tryCatch (pyNext (.ref J)) _>>=_) _ _ _;refine Aa (Ch (Z.done s _ _ (last ▸ sx) λg t' kp=>?_));have eB':=kp B _ nW eB;show wpAny _ _ (updateSeq B (λ_=>#[])>>=_) _ _ _;refine Aa ?_;refine BB eB' rfl (Aa (Cg (Ac ?_)));exact fin best _ t' (by rw[←last];exact ab) λb o h1 h2 e=>(AI _ _ (Bq h2)).trans (kp b o h1 e)
 | succ k ih=>
  intro j s best c e0 e1 sx ab eB fin;have more:j+1<len:=by omega
  refine Bf Fi ?_;rw[AK CK _];show wpAny _ _ (seqItems? (.ref B)>>=_) _ _ _;refine Aa (AQ eB rfl ?_);show wpAny _ _ (tryCatch (pyNext (.ref J)) _>>=_) _ _ _;refine Aa (Ch (Z.item (j+1) s _ _ more sx λv g t' av sx' kp=>?_));have eB':=kp B _ nW eB;show wpAny _ _ (tryCatch (holding [v,v] (richCompare .Lt v best>>=_)) _>>=_) _ _ _;refine Aa (Ch (AS (Aa (cm (j+1) (argBest bt j) v best _ _ _ av ab ?_))));refine Aa (AS (Bu ?_));refine Aa (Cg (Ac ?_));cases hb:bt (j+1) (argBest bt j) with
  | true=>
   simp only[if_true];refine Aa ?_;refine BB eB' rfl (Aa (Cg ?_));rw[nm];refine Ac ⟨Bd CK _,ih (j+1) _ v _ (by omega) more (Z.frame _ _ _ sx' λb h1 o e=>?_) (by simp only[argBest,hb,if_true];exact av) (AM _ eB' rfl)
    λv' g' t'' av' kp'=>?_⟩
   · exact(AI _ _ (λz:B=b=>nB (by rw[z];exact h1))).trans e
   · exact fin v' g' t'' av' λb o h1 h2 e=>kp' b o h1 h2 ((AI _ _ (Bq h2)).trans (kp b o h1 e))
  | false=> simp only[BR,if_false];refine Aa (Cg ?_);rw[nm];refine Ac ⟨Bd CK _,ih (j+1) _ best c (by omega) more sx' (by simp only[argBest,hb,BR,if_false];exact ab) eB' λv' g' t'' av' kp'=>?_⟩;exact fin v' g' t'' av' λb o h1 h2 e=>kp' b o h1 h2 (kp b o h1 e)
theorem YB(d:Value)(Z:Walks prog w A.in1 J fo wo len At Sx)(bt:Nat→Nat→Bool)(cm:CmpOf prog w A.in1 .Lt At bt)(B:Addr)(nB:B ∉ fo){c:Nat}(sx:Sx 0 s.heap)
 (eB:s.heap.get? B=some {cls:= .type "list",dict:=none,data:= .seq #[] c,slots:=#[]})
 (fin:∀v g t',(len=0→v=d)→(0<len→At (argBest bt (len - 1)) v)→(∀b o,b ∉ wo→b≠B→s.heap.get? b=some o→g.get? b=some o)→R (.ok (.ret v)) {s with heap:=g,toks:=t'}):
 codeAny (model prog w) A (.builtin "min.loop" ⟨[.ref J,.none,.ref B],[("default",d)]⟩) R s:=by
 have nW:B ∉ wo:=λz=>nB (Z.sub _ z);have nm:(toString "min"++toString ".loop":String)="min.loop":=by decide
 refine Bf Fi ?_;rw[AK CK _];show wpAny _ _ (seqItems? (.ref B)>>=_) _ _ _;refine Aa (AQ eB rfl ?_);show wpAny _ _ (tryCatch (pyNext (.ref J)) _>>=_) _ _ _;by_cases hl:len=0
 · refine Aa (Ch (Z.done s _ _ (hl ▸ sx) λg t' kp=>?_));refine Aa (BJ (Ac ?_));exact fin d g t' (λ_=>rfl) (λz=>by omega) λb o h1 _ e=>kp b o h1 e
 · refine Aa (Ch (Z.item 0 s _ _ (by omega) sx λv g t' av sx' kp=>?_));have eB':=kp B _ nW eB;show wpAny _ _ (updateSeq B (λ_=>#[v,v])>>=_) _ _ _;refine Aa ?_;refine BB eB' rfl ?_;rw[nm];refine Ac ⟨Bd CK _,XG [("default",d)] Z bt cm B nB _ 0 _ v _ rfl (by omega) (Z.frame _ _ _ sx' λb h1 o e=>?_) av (AM _ eB' rfl) λv' g' t'' av' kp'=>?_⟩
   · exact(AI _ _ (λz:B=b=>nB (by rw[z];exact h1))).trans e
   · exact fin v' g' t'' (λz=>by omega) (λ_=>av') λb o h1 h2 e=>kp' b o h1 h2 ((AI _ _ (Bq h2)).trans (kp b o h1 e))
theorem YA(a d:Value):argsOk "min" ⟨[a],[("default",d)]⟩:=by unfold argsOk;kernel_rfl
theorem YN{E:Value→Shared→Prop}{its:Array Value}{d:Value}{Q:Value→Shared→Prop}(hh:A.handled=none)(hl:s.heap.IsList a its)(bt:Nat→Nat→Bool)
 (cm:CmpOf prog w A.in1 .Lt (λi v=>its[i]?=some v) bt)
 (fin:∀v g t',(its.size=0→v=d)→(0<its.size→its[argBest bt (its.size - 1)]?=some v)→(∀b o,s.heap.get? b=some o→g.get? b=some o)→Q v {s with heap:=g,toks:=t'}):
 wpAny (model prog w) A (call (.builtin "min") [.ref a] [("default",d)]) Q E s:=by
 have nm:(toString "min"++toString ".loop":String)="min.loop":=by decide
 refine Eb (Dm F.plain_min F.entry_min ?_);have body:wpAny (model prog w) A.in1 (Builtin.«min» ⟨[.ref a],[("default",d)]⟩) (λfin s'=>match fin with
  | .done f=>(match(Except.ok f:Result) with | .ok (.ret v)=>Q v s' | .ok _=>False | .error e=>E e s')
  | .again c'=>c'.quiet=true∧codeAny (model prog w) A c' (λr s'=>match r with | .ok (.ret v)=>Q v s' | .ok _=>False | .error e=>E e s') s') E s:=by
  show wpAny _ A.in1 (CN "min" ["key","default"] 0 ⟨[],[("default",d)]⟩>>=_) _ _ s;refine Aa (Du (show CN "min" ["key","default"] 0 ⟨[],[("default",d)]⟩=pure [none,some d] from rfl) ?_);refine Aa (Ac ?_);refine Aa (CS hl ?_);refine Aa (AN ?_);rw[nm];obtain⟨o,ho,_⟩:=id hl;have lt:=Ai ho;have sz:(s.heap.push {cls:= .type "list_iterator",data:= .fields #[.ref a,.int 0 0]}).objs.size=s.heap.objs.size+1:=Bj _ _;have kp:∀b o',s.heap.get? b=some o'→((s.heap.push {cls:= .type "list_iterator",data:= .fields #[.ref a,.int 0 0]}).push {cls:= .type "list",dict:=none,data:= .seq ([]:List Value).toArray}).get? b=some o':=
   λb o' e=>Ad _ (Ad _ e)
  refine Ac ⟨Bd CK _,YB d (E_ (A:=A.in1) hh s.heap.objs.size a (Aq lt) its) bt cm _ ?_
   ⟨⟨_,Ad _ (Am _ rfl),rfl,rfl⟩,hl.at λo' e=>kp a o' e⟩ (Am _ rfl) λv g t' h1 h2 h3=>?_⟩
  · show(s.heap.push _).objs.size ∉ [s.heap.objs.size,a];rw[sz];intro z;rcases Ak.mp z with z | z
    · exact Nat.succ_ne_self _ z
    · have z':=Ae.mp z;rw[←z'] at lt;exact absurd lt (Nat.not_lt.mpr (CW _))
  · refine fin v g t' h1 h2 λb o' e=>h3 b o' ?_ ?_ (kp b o' e)
    · intro z;exact absurd (Ae.mp z) (Aq (Ai e))
    · have:=Ai e;show b≠(s.heap.push _).objs.size;rw[sz];exact Aq (Dh this)
 simp only[checkBuiltinCall,F.kind_min];cases hsig:Gv "min" with
 | none=>exact Ac body
 | some sig=>
  have ha':Bind.checkArgs "min" sig ⟨[.ref a],[("default",d)]⟩=pure ():=by have:=YA (.ref a) d;simpa only[argsOk,hsig] using this
  simp only[ha'];exact Ac body
end
def Mf(lt:Int→Int→Bool):Int→List Int→Int
 | b,[]=>b
 | b,x::r=>Mf lt (if lt x b then x else b) r
theorem Ut(lt:Int→Int→Bool)(ns:List Int)(d0:Int):∀k,k<ns.length→
 ns.getD (argBest (λi j=>lt (ns.getD i d0) (ns.getD j d0)) k) d0=Mf lt (ns.getD 0 d0) ((ns.drop 1).take k)∧argBest (λi j=>lt (ns.getD i d0) (ns.getD j d0)) k<ns.length:=by
 have snoc:∀(l:List Int)(b x:Int),Mf lt b (l++[x])=if lt x (Mf lt b l) then x else Mf lt b l:=by
  intro l
  induction l with
  | nil=>intro b x;rfl
  | cons y r ih=>intro b x;exact ih _ x
 intro k
 induction k with
 | zero=>intro h;exact⟨rfl,h⟩
 | succ k ih=>
  intro h;obtain⟨i1,i2⟩:=ih (by omega);have e:(ns.drop 1).take (k+1)=(ns.drop 1).take k++[ns.getD (k+1) d0]:=by
   rw[List.take_succ,E5,Av (by omega)];have:(1+k)=k+1:=by omega
   simp[this,AX,Av h]
  rw[e,snoc,←i1];show ns.getD (if lt (ns.getD (k+1) d0) (ns.getD (argBest _ k) d0)=true then k+1 else argBest _ k) d0=_∧(if lt (ns.getD (k+1) d0) (ns.getD (argBest _ k) d0)=true then k+1 else argBest _ k)<_
  by_cases hb:lt (ns.getD (k+1) d0) (ns.getD (argBest (λi j=>lt (ns.getD i d0) (ns.getD j d0)) k) d0)=true
  · rw[if_pos hb,if_pos hb];exact⟨rfl,h⟩
  · rw[if_neg hb,if_neg hb];exact⟨rfl,i2⟩
def NC(lt:Int→Int→Bool)(ns:List Int)(d:V):V:=match ns with
 | []=>d
 | x::r=> .int (Mf lt x r)
theorem Mp{ns:List Int}{its:List Value}(r:Vals (ns.map V.int) its){v:Value}(h:its.toArray[i]?=some v):∃t,v=Value.int (ns.getD i 0) t:=by
 have hi:its[i]?=some v:=by simpa using h
 have hl:i<its.length:=(Al.mp hi).1;have ll:=r.length;rw[Ab] at ll;have e:(ns.map V.int)[i]?=some (.int (ns.getD i 0)):=by rw[Af,Av (by omega),AX,Av (by omega)];rfl
 obtain⟨u,h1,h2⟩:=Vals.get r e;rw[hi] at h1;cases h1;exact h2
def OA(X:Cx)(f:Value)(ks:List Str)(r:List V→List V→Hp→VK→Prop):Prop:=
 ∀(pins:List (Addr×Obj))(s:Shared)(σ:St)(H:Hp)(xs zs:List V)(us ws:List Value)(Q:VK),Inv X pins σ H s→Vals xs us→Vals zs ws→r xs zs H Q→wpAny (model X.prog X.w) X.A (call f us (ks.zip ws)) (EP X pins σ Q) X.xe s
def Qs(r:List V→List V→Hp→VK→Prop)(t tk:TA):TE:=λσ H Q=>t σ H λvs H1=>tk σ H1 λzs H2=>r vs zs H2 Q
theorem TL{id:String}{ks:List Str}{r:List V→List V→Hp→VK→Prop}{es:List Expr}{kws:List Keyword}{t tk:TA}{p pos:Pos}(hc:OA X (.builtin id) ks r)(hg:Gl X x)(hm:X.mg x=none)(hv:AV x=some (.builtin id))(ha:PA X (e::es) t)(hkw:PK X kws tk)
 (hks:(backToKw pos (keywordEach kws X.env)).filterMap (·.1)=ks:=by rfl) (hn:x≠"__name__":=by decide) (hdb:(x==("__debug__":Str))=false:=by decide)
 (he:backTo pos (AD (e::es) X.env)=(false,eval e X.env)::backTo pos (AD es X.env):=by rfl) (hpl:(backTo pos (AD (e::es) X.env)).any (·.1)=false:=by rfl)
 (hall:(backToKw pos (keywordEach kws X.env)).all (·.1.isSome)=true:=by rfl) (hkn:(backToKw pos (keywordEach kws X.env)).any (·.1.isNone)=false:=by rfl):
 PE X (.Call (.Name x p) (e::es) kws pos) (Qs r t tk):=by
 intro pins s σ H Q I h;refine BQ (Ky I hg hm hv ?_ hn hdb);refine callWith_kw (HN (ha pos pins s σ H _ I h) λus s1 ⟨vs,H1,I1,r1,q1⟩=>?_) he hpl hall hkn;refine HN (hkw pos pins s1 σ H1 _ I1 q1) λws s2 ⟨zs,H2,I2,r2,q2⟩=>?_;rw[hks];exact hc pins s2 σ H2 vs zs us ws Q I2 r1 r2 q2
theorem WG(hc:X.calm=true):OA X (.builtin "max") ["default"] (λxs zs H Q=>∃a ns d,xs=[.ref a]∧zs=[d]∧SqL X.K H a (ns.map V.int)∧Q (NC (λi j=>decide (j<i)) ns d) H):=by
 intro pins s σ H xs zs us ws Q I r1 r2 h;obtain⟨a,ns,d,rfl,rfl,hq,q⟩:=h;obtain⟨u,rfl,ru⟩:=J6 r1;obtain⟨z,rfl,rz⟩:=J6 r2;cases ru;obtain⟨its,rv,p,_⟩:=I.list hq;have ll:=rv.length;rw[Ab] at ll;refine YM (I.ok.hd hc) p.isList (λi j=>decide (ns.getD j 0<ns.getD i 0)) (λi j vi vj s' Q' E' hi hj q'=>?_) λv g t' h1 h2 h3=>?_
 · obtain⟨t1,rfl⟩:=Mp rv hi;obtain⟨t2,rfl⟩:=Mp rv hj;exact gt_int q'
 · refine⟨_,H,I.kept h3,?_,q⟩;cases ns with
   | nil=>
    have e:its.toArray.size=0:=by simp;simpa using ll.symm
    rw[h1 e];exact rz
   | cons x rr=>
    simp only[AF] at ll;have e:0<its.toArray.size:=by simp;omega
    have hv:=h2 e;obtain⟨t,rfl⟩:=Mp rv hv;have ee:its.toArray.size - 1=rr.length:=by simp;omega
    rw[ee];have:=(Ut (λi j=>decide (j<i)) (x::rr) 0 rr.length (by simp)).1;have e2:((x::rr).drop 1).take rr.length=rr:=by simp
    rw[e2] at this;refine⟨t,?_⟩;rw[this];rfl
theorem WI(hc:X.calm=true):OA X (.builtin "min") ["default"] (λxs zs H Q=>∃a ns d,xs=[.ref a]∧zs=[d]∧SqL X.K H a (ns.map V.int)∧Q (NC (λi j=>decide (i<j)) ns d) H):=by
 intro pins s σ H xs zs us ws Q I r1 r2 h;obtain⟨a,ns,d,rfl,rfl,hq,q⟩:=h;obtain⟨u,rfl,ru⟩:=J6 r1;obtain⟨z,rfl,rz⟩:=J6 r2;cases ru;obtain⟨its,rv,p,_⟩:=I.list hq;have ll:=rv.length;rw[Ab] at ll;refine YN (I.ok.hd hc) p.isList (λi j=>decide (ns.getD i 0<ns.getD j 0)) (λi j vi vj s' Q' E' hi hj q'=>?_) λv g t' h1 h2 h3=>?_
 · obtain⟨t1,rfl⟩:=Mp rv hi;obtain⟨t2,rfl⟩:=Mp rv hj;exact lt_int q'
 · refine⟨_,H,I.kept h3,?_,q⟩;cases ns with
   | nil=>
    have e:its.toArray.size=0:=by simp;simpa using ll.symm
    rw[h1 e];exact rz
   | cons x rr=>
    simp only[AF] at ll;have e:0<its.toArray.size:=by simp;omega
    have hv:=h2 e;obtain⟨t,rfl⟩:=Mp rv hv;have ee:its.toArray.size - 1=rr.length:=by simp;omega
    rw[ee];have:=(Ut (λi j=>decide (i<j)) (x::rr) 0 rr.length (by simp)).1;have e2:((x::rr).drop 1).take rr.length=rr:=by simp
    rw[e2] at this;refine⟨t,?_⟩;rw[this];rfl
theorem Xb(I:Inv X pins σ H s)(A:BZ)(d e:PD)(v w:V)(u y:Value)(h:HJ X.K H d v)(h':HJ X.K H e w)(r:RelV v u)(r':RelV w y)(z:A.units+Je d<cLine):SeqAt.RcAt A s u y (Ip d e):=by
 cases d with
 | non=>
  rw[HJ] at h;subst h;cases r;cases e with
  | non=> rw[HJ] at h';subst h';cases r';rw[Ip];exact SeqAt.RcAt.none_none
  | bl b=> rw[HJ] at h';subst h';cases r';exact SeqAt.RcAt.none_bool b
  | int b=> rw[HJ] at h';subst h';obtain⟨t,rfl⟩:=r';exact SeqAt.RcAt.none_int b t
  | str b=> rw[HJ] at h';subst h';obtain⟨t,rfl⟩:=r';exact SeqAt.RcAt.none_str b t
  | lst es=> rw[HJ] at h';obtain⟨b,ys,rfl,q',qs'⟩:=h';cases r';obtain⟨its',rv',p',_⟩:=I.list q';exact SeqAt.RcAt.none_list p'.isList (by omega)
  | tup es=> rw[HJ] at h';obtain⟨b,ys,rfl,q',qs'⟩:=h';cases r';obtain⟨its',rv',p',_⟩:=I.tuple q';exact SeqAt.RcAt.none_tuple p' (by omega)
 | bl c=>
  rw[HJ] at h;subst h;cases r;cases e with
  | non=> rw[HJ] at h';subst h';cases r';exact SeqAt.RcAt.bool_none c
  | bl b=> rw[HJ] at h';subst h';cases r';exact SeqAt.RcAt.bool_bool c b
  | int b=> rw[HJ] at h';subst h';obtain⟨t,rfl⟩:=r';exact SeqAt.RcAt.bool_int c b t
  | str b=> rw[HJ] at h';subst h';obtain⟨t,rfl⟩:=r';exact SeqAt.RcAt.bool_str c b t
  | lst es=> rw[HJ] at h';obtain⟨b,ys,rfl,q',qs'⟩:=h';cases r';obtain⟨its',rv',p',_⟩:=I.list q';exact SeqAt.RcAt.bool_list c p'.isList (by omega)
  | tup es=> rw[HJ] at h';obtain⟨b,ys,rfl,q',qs'⟩:=h';cases r';obtain⟨its',rv',p',_⟩:=I.tuple q';exact SeqAt.RcAt.bool_tuple c p' (by omega)
 | int c=>
  rw[HJ] at h;subst h;obtain⟨tc,rfl⟩:=r;cases e with
  | non=> rw[HJ] at h';subst h';cases r';exact SeqAt.RcAt.int_none c tc
  | bl b=> rw[HJ] at h';subst h';cases r';exact SeqAt.RcAt.int_bool c tc b
  | int b=> rw[HJ] at h';subst h';obtain⟨t,rfl⟩:=r';exact SeqAt.RcAt.int_int c tc b t
  | str b=> rw[HJ] at h';subst h';obtain⟨t,rfl⟩:=r';exact SeqAt.RcAt.int_str c tc b t
  | lst es=> rw[HJ] at h';obtain⟨b,ys,rfl,q',qs'⟩:=h';cases r';obtain⟨its',rv',p',_⟩:=I.list q';exact SeqAt.RcAt.int_list c tc p'.isList (by omega)
  | tup es=> rw[HJ] at h';obtain⟨b,ys,rfl,q',qs'⟩:=h';cases r';obtain⟨its',rv',p',_⟩:=I.tuple q';exact SeqAt.RcAt.int_tuple c tc p' (by omega)
 | str c=>
  rw[HJ] at h;subst h;obtain⟨tc,rfl⟩:=r;cases e with
  | non=> rw[HJ] at h';subst h';cases r';exact SeqAt.RcAt.str_none c tc
  | bl b=> rw[HJ] at h';subst h';cases r';exact SeqAt.RcAt.str_bool c tc b
  | int b=> rw[HJ] at h';subst h';obtain⟨t,rfl⟩:=r';exact SeqAt.RcAt.str_int c tc b t
  | str b=> rw[HJ] at h';subst h';obtain⟨t,rfl⟩:=r';exact SeqAt.RcAt.str_str c tc b t
  | lst es=> rw[HJ] at h';obtain⟨b,ys,rfl,q',qs'⟩:=h';cases r';obtain⟨its',rv',p',_⟩:=I.list q';exact SeqAt.RcAt.str_list c tc p'.isList (by omega)
  | tup es=> rw[HJ] at h';obtain⟨b,ys,rfl,q',qs'⟩:=h';cases r';obtain⟨its',rv',p',_⟩:=I.tuple q';exact SeqAt.RcAt.str_tuple c tc p' (by omega)
 | lst ds=>
  rw[HJ] at h;obtain⟨a,xs,rfl,q,qs⟩:=h;cases r;obtain⟨its,rv,p,_⟩:=I.list q;cases e with
  | non=> rw[HJ] at h';subst h';cases r';exact SeqAt.RcAt.list_none p.isList (by omega)
  | bl b=> rw[HJ] at h';subst h';cases r';exact SeqAt.RcAt.list_bool b p.isList (by omega)
  | int b=> rw[HJ] at h';subst h';obtain⟨t,rfl⟩:=r';exact SeqAt.RcAt.list_int b t p.isList (by omega)
  | str b=> rw[HJ] at h';subst h';obtain⟨t,rfl⟩:=r';exact SeqAt.RcAt.list_str b t p.isList (by omega)
  | lst es=>
   rw[HJ] at h';obtain⟨b,ys,rfl,q',qs'⟩:=h';cases r';obtain⟨its',rv',p',_⟩:=I.list q';rw[Ip];rw[Je] at z;have l1:=qs.length;have l2:=qs'.length;have l3:=rv.length;have l4:=rv'.length;by_cases hl:ds.length=es.length
   · rw[←LN ds es hl];have:=SeqAt.RcAt.lists (e:=L5 ds es) p.isList p'.isList (by simp;omega) (by omega) (λj h1 h2=>?_) (A:=A)
     · simp only[Ax] at this;rw[show ds.length=its.length by omega];exact this
     · have:=LL I A.in1 ds es xs ys its its' qs qs' rv rv' (by rw[C_];omega) j (by simpa using h1) (by simpa using h2);simpa using this
   · rw[Ls hl];exact DB p.isList p'.isList (by simp;omega) (by omega)
  | tup es=> rw[HJ] at h';obtain⟨b,ys,rfl,q',qs'⟩:=h';cases r';obtain⟨its',rv',p',_⟩:=I.tuple q';exact SeqAt.RcAt.list_tuple p.isList p' (by omega)
 | tup ds=>
  rw[HJ] at h;obtain⟨a,xs,rfl,q,qs⟩:=h;cases r;obtain⟨its,rv,p,_⟩:=I.tuple q;cases e with
  | non=> rw[HJ] at h';subst h';cases r';exact SeqAt.RcAt.tuple_none p (by omega)
  | bl b=> rw[HJ] at h';subst h';cases r';exact SeqAt.RcAt.tuple_bool b p (by omega)
  | int b=> rw[HJ] at h';subst h';obtain⟨t,rfl⟩:=r';exact SeqAt.RcAt.tuple_int b t p (by omega)
  | str b=> rw[HJ] at h';subst h';obtain⟨t,rfl⟩:=r';exact SeqAt.RcAt.tuple_str b t p (by omega)
  | lst es=> rw[HJ] at h';obtain⟨b,ys,rfl,q',qs'⟩:=h';cases r';obtain⟨its',rv',p',_⟩:=I.list q';exact SeqAt.RcAt.tuple_list p p'.isList (by omega)
  | tup es=>
   rw[HJ] at h';obtain⟨b,ys,rfl,q',qs'⟩:=h';cases r';obtain⟨its',rv',p',_⟩:=I.tuple q';rw[Ip];rw[Je] at z;have l1:=qs.length;have l2:=qs'.length;have l3:=rv.length;have l4:=rv'.length;have:=SeqAt.RcAt.tuples (e:=L5 ds es) p p' (by omega) (λj h1 h2=>?_) (A:=A)
   · simp only[Ax] at this;by_cases hl:ds.length=es.length
     · rw[←LN ds es hl];rw[show min its.length its'.length=ds.length by omega,show(its.length==its'.length)=true by simp;omega,EH] at this;exact this
     · rw[Ls hl];rw[show(its.length==its'.length)=false by simp;omega,DH] at this;exact this
   · have:=LL I A.in1 ds es xs ys its its' qs qs' rv rv' (by rw[C_];omega) j (by simpa using h1) (by simpa using h2);simpa using this
theorem Yf(I:Inv X pins σ H s)(A:BZ)(d e:PD)(v w:V)(u y:Value)(h:HJ X.K H d v)(h':HJ X.K H e w)(r:RelV v u)(r':RelV w y)(z:A.units+Je d<cLine):SeqAt.RcNeAt A s u y (!Ip d e):=by
 cases d with
 | non=>
  rw[HJ] at h;subst h;cases r;cases e with
  | non=> rw[HJ] at h';subst h';cases r';rw[Ip];exact SeqAt.RcNeAt.none_none
  | bl b=> rw[HJ] at h';subst h';cases r';exact SeqAt.RcNeAt.none_bool b
  | int b=> rw[HJ] at h';subst h';obtain⟨t,rfl⟩:=r';exact SeqAt.RcNeAt.none_int b t
  | str b=> rw[HJ] at h';subst h';obtain⟨t,rfl⟩:=r';exact SeqAt.RcNeAt.none_str b t
  | lst es=> rw[HJ] at h';obtain⟨b,ys,rfl,q',qs'⟩:=h';cases r';obtain⟨its',rv',p',_⟩:=I.list q';exact SeqAt.RcNeAt.none_list p'.isList (by omega)
  | tup es=> rw[HJ] at h';obtain⟨b,ys,rfl,q',qs'⟩:=h';cases r';obtain⟨its',rv',p',_⟩:=I.tuple q';exact SeqAt.RcNeAt.none_tuple p' (by omega)
 | bl c=>
  rw[HJ] at h;subst h;cases r;cases e with
  | non=> rw[HJ] at h';subst h';cases r';exact SeqAt.RcNeAt.bool_none c
  | bl b=> rw[HJ] at h';subst h';cases r';exact SeqAt.RcNeAt.bool_bool c b
  | int b=> rw[HJ] at h';subst h';obtain⟨t,rfl⟩:=r';exact SeqAt.RcNeAt.bool_int c b t
  | str b=> rw[HJ] at h';subst h';obtain⟨t,rfl⟩:=r';exact SeqAt.RcNeAt.bool_str c b t
  | lst es=> rw[HJ] at h';obtain⟨b,ys,rfl,q',qs'⟩:=h';cases r';obtain⟨its',rv',p',_⟩:=I.list q';exact SeqAt.RcNeAt.bool_list c p'.isList (by omega)
  | tup es=> rw[HJ] at h';obtain⟨b,ys,rfl,q',qs'⟩:=h';cases r';obtain⟨its',rv',p',_⟩:=I.tuple q';exact SeqAt.RcNeAt.bool_tuple c p' (by omega)
 | int c=>
  rw[HJ] at h;subst h;obtain⟨tc,rfl⟩:=r;cases e with
  | non=> rw[HJ] at h';subst h';cases r';exact SeqAt.RcNeAt.int_none c tc
  | bl b=> rw[HJ] at h';subst h';cases r';exact SeqAt.RcNeAt.int_bool c tc b
  | int b=> rw[HJ] at h';subst h';obtain⟨t,rfl⟩:=r';exact SeqAt.RcNeAt.int_int c tc b t
  | str b=> rw[HJ] at h';subst h';obtain⟨t,rfl⟩:=r';exact SeqAt.RcNeAt.int_str c tc b t
  | lst es=> rw[HJ] at h';obtain⟨b,ys,rfl,q',qs'⟩:=h';cases r';obtain⟨its',rv',p',_⟩:=I.list q';exact SeqAt.RcNeAt.int_list c tc p'.isList (by omega)
  | tup es=> rw[HJ] at h';obtain⟨b,ys,rfl,q',qs'⟩:=h';cases r';obtain⟨its',rv',p',_⟩:=I.tuple q';exact SeqAt.RcNeAt.int_tuple c tc p' (by omega)
 | str c=>
  rw[HJ] at h;subst h;obtain⟨tc,rfl⟩:=r;cases e with
  | non=> rw[HJ] at h';subst h';cases r';exact SeqAt.RcNeAt.str_none c tc
  | bl b=> rw[HJ] at h';subst h';cases r';exact SeqAt.RcNeAt.str_bool c tc b
  | int b=> rw[HJ] at h';subst h';obtain⟨t,rfl⟩:=r';exact SeqAt.RcNeAt.str_int c tc b t
  | str b=> rw[HJ] at h';subst h';obtain⟨t,rfl⟩:=r';exact SeqAt.RcNeAt.str_str c tc b t
  | lst es=> rw[HJ] at h';obtain⟨b,ys,rfl,q',qs'⟩:=h';cases r';obtain⟨its',rv',p',_⟩:=I.list q';exact SeqAt.RcNeAt.str_list c tc p'.isList (by omega)
  | tup es=> rw[HJ] at h';obtain⟨b,ys,rfl,q',qs'⟩:=h';cases r';obtain⟨its',rv',p',_⟩:=I.tuple q';exact SeqAt.RcNeAt.str_tuple c tc p' (by omega)
 | lst ds=>
  rw[HJ] at h;obtain⟨a,xs,rfl,q,qs⟩:=h;cases r;obtain⟨its,rv,p,_⟩:=I.list q;cases e with
  | non=> rw[HJ] at h';subst h';cases r';exact SeqAt.RcNeAt.list_none p.isList (by omega)
  | bl b=> rw[HJ] at h';subst h';cases r';exact SeqAt.RcNeAt.list_bool b p.isList (by omega)
  | int b=> rw[HJ] at h';subst h';obtain⟨t,rfl⟩:=r';exact SeqAt.RcNeAt.list_int b t p.isList (by omega)
  | str b=> rw[HJ] at h';subst h';obtain⟨t,rfl⟩:=r';exact SeqAt.RcNeAt.list_str b t p.isList (by omega)
  | lst es=>
   rw[HJ] at h';obtain⟨b,ys,rfl,q',qs'⟩:=h';cases r';obtain⟨its',rv',p',_⟩:=I.list q';rw[Ip];rw[Je] at z;have l1:=qs.length;have l2:=qs'.length;have l3:=rv.length;have l4:=rv'.length;by_cases hl:ds.length=es.length
   · rw[←LN ds es hl];have:=SeqAt.RcNeAt.lists (e:=L5 ds es) p.isList p'.isList (by simp;omega) (by omega) (λj h1 h2=>?_) (A:=A)
     · simp only[Ax] at this;rw[show ds.length=its.length by omega];exact this
     · have:=LL I A.in1 ds es xs ys its its' qs qs' rv rv' (by rw[C_];omega) j (by simpa using h1) (by simpa using h2);simpa using this
   · rw[Ls hl];exact EI p.isList p'.isList (by simp;omega) (by omega)
  | tup es=> rw[HJ] at h';obtain⟨b,ys,rfl,q',qs'⟩:=h';cases r';obtain⟨its',rv',p',_⟩:=I.tuple q';exact SeqAt.RcNeAt.list_tuple p.isList p' (by omega)
 | tup ds=>
  rw[HJ] at h;obtain⟨a,xs,rfl,q,qs⟩:=h;cases r;obtain⟨its,rv,p,_⟩:=I.tuple q;cases e with
  | non=> rw[HJ] at h';subst h';cases r';exact SeqAt.RcNeAt.tuple_none p (by omega)
  | bl b=> rw[HJ] at h';subst h';cases r';exact SeqAt.RcNeAt.tuple_bool b p (by omega)
  | int b=> rw[HJ] at h';subst h';obtain⟨t,rfl⟩:=r';exact SeqAt.RcNeAt.tuple_int b t p (by omega)
  | str b=> rw[HJ] at h';subst h';obtain⟨t,rfl⟩:=r';exact SeqAt.RcNeAt.tuple_str b t p (by omega)
  | lst es=> rw[HJ] at h';obtain⟨b,ys,rfl,q',qs'⟩:=h';cases r';obtain⟨its',rv',p',_⟩:=I.list q';exact SeqAt.RcNeAt.tuple_list p p'.isList (by omega)
  | tup es=>
   rw[HJ] at h';obtain⟨b,ys,rfl,q',qs'⟩:=h';cases r';obtain⟨its',rv',p',_⟩:=I.tuple q';rw[Ip];rw[Je] at z;have l1:=qs.length;have l2:=qs'.length;have l3:=rv.length;have l4:=rv'.length;have:=SeqAt.RcNeAt.tuples (e:=L5 ds es) p p' (by omega) (λj h1 h2=>?_) (A:=A)
   · simp only[Ax] at this;by_cases hl:ds.length=es.length
     · rw[←LN ds es hl];rw[show min its.length its'.length=ds.length by omega,show(its.length==its'.length)=true by simp;omega,EH] at this;exact this
     · rw[Ls hl];rw[show(its.length==its'.length)=false by simp;omega,DH] at this;exact this
   · have:=LL I A.in1 ds es xs ys its its' qs qs' rv rv' (by rw[C_];omega) j (by simpa using h1) (by simpa using h2);simpa using this
def Lk(X:Cx):Prop:=X.A.units+60<cLine
def Q3(K:Ao):R2:=λx y H Q=>∃d e,HJ K H d x∧HJ K H e y∧Je d<60∧Q (.bl (Ip d e)) H
def MY(K:Ao):R2:=λx y H Q=>∃d e,HJ K H d x∧HJ K H e y∧Je d<60∧Q (.bl (!Ip d e)) H
theorem VW(hr:Lk X):IL X (By .Eq) (Q3 X.K):=by intro pins s σ H x y v u Q I rx ry h;obtain⟨d,e,h1,h2,h3,q⟩:=h;unfold Lk at hr;exact Xb I X.A d e x y v u h1 h2 rx ry (by omega) X.prog X.w _ _ ⟨.bl _,H,I,rfl,q⟩
theorem OE(hr:Lk X):IL X (By .NotEq) (MY X.K):=by intro pins s σ H x y v u Q I rx ry h;obtain⟨d,e,h1,h2,h3,q⟩:=h;unfold Lk at hr;exact Yf I X.A d e x y v u h1 h2 rx ry (by omega) X.prog X.w _ _ ⟨.bl _,H,I,rfl,q⟩
theorem Ly{k:Nat}(hr:Room k A):A.units+60<cLine:=BS (Gu (by decide:60≤64) _) hr.units
theorem KE{n:String}:J5 X (.builtin "isinstance") (λxs H Q=>∃x t c b,xs=[x,.ty c]∧TyOf X.K H x (.type t)∧PySem.W.kitOne X.K (.type t) (.type c)=some b∧Q (.bl b) H):=by intro pins s σ H xs us Q I r h;obtain⟨x,t,c,b,rfl,ty,e,q⟩:=h;obtain⟨u,w',rfl,ru,rw'⟩:=LZ r;cases rw';exact X4 I ru ty e λtk=>⟨.bl b,H,I.tok tk,rfl,q⟩
section
variable{p:Addr}{g:TG}{tc:TT}{te:TE}{Q:VK}
abbrev LF(p:Addr)(g:TG)(tc:TT)(te:TE)(ys:List V)(x:V)(σ:St)(H:Hp)(N:St→List V→Hp→Prop):Prop:=
 g x σ H λσ2 H2=>tc σ2 H2 λb H3=>if b=true then te σ2 H3 λy H4=>H4 p=some (.lst ys)∧N σ2 (ys++[y]) (HI H4 p (.lst (ys++[y]))) else N σ2 ys H3
theorem Mc{n:Nat}{J:It}{js:IT}(Pv:Nat→St→List V→Hp→Prop)(h0:Pv 0 (Jo js σ) [] (HI H p (.lst [])))
 (hl:∀i σ ys H,i≤n→Pv i σ ys H→H p=some (.lst ys)∧ys.length<Au)
 (hgo:∀i σ ys H,i<n→Pv i σ ys H→J.go i H) (hst:∀σ ys H,Pv n σ ys H→J.stop n H)
 (hs:∀(i:Nat)x σ ys H H'(N:St→List V→Hp→Prop),i<n→J.yld i H x H'→Pv i σ ys H→(∀σ' ys' H',Pv (i+1) σ' ys' H'→N σ' ys' H')→LF p g tc te ys x σ H' N)
 (hd:∀σ ys H,Pv n σ ys H→Q (.ref p) H):
 Kl J p js g tc te σ H Q:=by
 refine⟨λi m σ ys H=>m=n - i∧i≤n∧Pv i σ ys H,⟨n,by simp,Br _,h0⟩,?_⟩;rintro i m σ ys H ⟨rfl,hi,pv⟩;obtain⟨q1,q2⟩:=hl i σ ys H hi pv;refine⟨q1,?_⟩;by_cases lt:i<n
 · exact .inr ⟨hgo i σ ys H lt pv,q2,λx H' y=>hs i x σ ys H H' (λσ2 ys2 H2=>∃m',m'<n - i∧m'=n - (i+1)∧i+1≤n∧Pv (i+1) σ2 ys2 H2) lt y pv λσ' ys' H' p'=>⟨n - (i+1),by omega,rfl,lt,p'⟩⟩
 · have e:i=n:=by omega
   subst e;exact .inl ⟨hst σ ys H pv,hd σ ys H pv⟩
theorem JR{js:IT}(Pv:Nat→St→List V→Hp→Prop)(h0:Pv 0 (Jo js σ) [] (HI H p (.lst [])))
 (hl:∀i σ ys H,i≤xs.length→Pv i σ ys H→SqL K H a xs∧H p=some (.lst ys)∧ys.length<Au)
 (hs:∀(i:Nat)x σ ys H(N:St→List V→Hp→Prop),xs[i]?=some x→Pv i σ ys H→(∀σ' ys' H',Pv (i+1) σ' ys' H'→N σ' ys' H')→LF p g tc te ys x σ H N)
 (hd:∀σ ys H,Pv xs.length σ ys H→Q (.ref p) H):Kl (Kv K a) p js g tc te σ H Q:=
 Mc (n:=xs.length) (J:=Kv K a) (js:=js) (σ:=σ) (H:=H) (p:=p) (Q:=Q) (g:=g) (tc:=tc) (te:=te) Pv h0 (λi σ ys H hi pv=>(hl i σ ys H hi pv).2)
  (λi σ ys H hi pv=>⟨xs,xs[i],(hl i σ ys H (AZ hi) pv).1,by simp[hi]⟩) (λσ ys H pv=>⟨xs,(hl _ σ ys H (Ag _) pv).1,Ag _⟩)
  (λi x σ ys H H' N hi y pv hN=>by obtain⟨e,y⟩:=y;subst e;exact hs i x σ ys _ N (y xs (hl i σ ys _ (AZ hi) pv).1) pv hN) hd
theorem NJ{js:IT}(Pv:Nat→St→List V→Hp→Prop)(h0:Pv 0 (Jo js σ) [] (HI H p (.lst [])))
 (hl:∀i σ ys H,i≤xs.length→Pv i σ ys H→SqT K H a xs∧H p=some (.lst ys)∧ys.length<Au)
 (hs:∀(i:Nat)x σ ys H(N:St→List V→Hp→Prop),xs[i]?=some x→Pv i σ ys H→(∀σ' ys' H',Pv (i+1) σ' ys' H'→N σ' ys' H')→LF p g tc te ys x σ H N)
 (hd:∀σ ys H,Pv xs.length σ ys H→Q (.ref p) H):Kl (KJ K a) p js g tc te σ H Q:=
 Mc (n:=xs.length) (J:=KJ K a) (js:=js) (σ:=σ) (H:=H) (p:=p) (Q:=Q) (g:=g) (tc:=tc) (te:=te) Pv h0 (λi σ ys H hi pv=>(hl i σ ys H hi pv).2)
  (λi σ ys H hi pv=>⟨xs,xs[i],(hl i σ ys H (AZ hi) pv).1,by simp[hi]⟩) (λσ ys H pv=>⟨xs,(hl _ σ ys H (Ag _) pv).1,Ag _⟩)
  (λi x σ ys H H' N hi y pv hN=>by obtain⟨e,y⟩:=y;subst e;exact hs i x σ ys _ N (y xs (hl i σ ys _ (AZ hi) pv).1) pv hN) hd
theorem SX{js:IT}{lo:Int}{n:Nat}(Pv:Nat→St→List V→Hp→Prop)(h0:Pv 0 (Jo js σ) [] (HI H p (.lst [])))
 (hl:∀i σ ys H,i≤n→Pv i σ ys H→H p=some (.lst ys)∧ys.length<Au)
 (hs:∀(i:Nat)σ ys H(N:St→List V→Hp→Prop),i<n→Pv i σ ys H→(∀σ' ys' H',Pv (i+1) σ' ys' H'→N σ' ys' H')→LF p g tc te ys (.int (lo+i)) σ H N)
 (hd:∀σ ys H,Pv n σ ys H→Q (.ref p) H):Kl (Lf lo n) p js g tc te σ H Q:=
 Mc (n:=n) (J:=Lf lo n) (js:=js) (σ:=σ) (H:=H) (p:=p) (Q:=Q) (g:=g) (tc:=tc) (te:=te) Pv h0 hl
  (λi σ ys H hi pv=>hi) (λσ ys H pv=>Ag n)
  (λi x σ ys H H' N hi y pv hN=>by obtain⟨e,y⟩:=y;subst e y;exact hs i σ ys _ N hi pv hN) hd
end
def SO(outer:Scope)(N N':List Str)(js:IT)(scope:Scope):Bool:=
 decide (js.length=N'.length) && (scope.kind== .function) && scope.names.all (λp=>(p.2 != .cell || scope.names.lookup p.1==some .cell) && (p.2 != .local || scope.names.lookup p.1==some .local) && (p.2 != .free || (outer.names.lookup p.1==some .cell || outer.names.lookup p.1==some .free)))
  && (Bc js.length).all λi=>match js[i]? with
   | some (some j)=>(match N'[i]? with | some x=>N[j]?==some x && scope.names.lookup x==some .free | none=>false)
   | _=>true
theorem IW{N N':List Str}{js:IT}{outer:Scope}(h:SO outer N N' js scope=true)(hN:X.N=N:=by rfl)(ho:X.env.scope=outer:=by rfl):CapOk X N' js scope:=by
 subst hN ho;unfold SO at h;rw[A8,A8,A8] at h;obtain⟨⟨⟨h1,h2⟩,h3⟩,h4⟩:=h;rw[A9] at h3 h4;refine⟨of_decide_eq_true h1,eq_of_beq h2,λp hp e=>?_,λp hp e=>?_,λp hp e=>?_,λi j e=>?_⟩
 · have:=h3 p hp;rw[e] at this;simp at this;exact this
 · have:=h3 p hp;rw[e] at this;simp at this;exact this
 · have:=h3 p hp;rw[e] at this;simp at this;exact this
 · have hi:i<js.length:=(Al.mp e).1;have:=h4 i (CH.mpr hi);rw[e] at this;simp only at this;cases q:N'[i]? with
   | none=>rw[q] at this;cases this
   | some x=> rw[q] at this;simp only[A8,beq_iff_eq] at this;exact⟨x,rfl,this.1,this.2⟩
def IF(P:Bv)(w:World)(K:Ao)(mg:Str→Option Value)(base:Heap)(k:Nat)(x:Str)(ps:List Str)(sp:Sp):Prop:=
 ∃f fd,FnOk P w K mg base Ir k f fd ps sp∧Binds K fd ps []∧CI K (.ref f)=true∧mg x=some (.ref f)
section
variable{k:Nat}{ps:List Str}{sp:Sp}{es:List Expr}{t:TA}{p:Pos}
theorem Ie(F:IF X.prog X.w X.K X.mg X.base k x ps sp)(hr:Room k X.A)(hg:Gl X x)(ha:PA X (e::es) t)(hdb:(x==("__debug__":Str))=false:=by decide)
 (he:AD (e::es) X.env=(false,eval e X.env)::AD es X.env:=by rfl) (hpl:(backTo pos (AD es X.env)).any (·.1)=false:=by rfl):PE X (.Call (.Name x p) (e::es) [] pos) (NE sp [] E0 t):=by
 obtain⟨f,fd,h1,h2,h3,h4⟩:=F;exact OS h1 hr hg h4 h3 h2 .nil NG ha hdb he hpl
end
structure Bl(mg:Str→Option Value):Prop where
 len_:mg "len"=none
 range_:mg "range"=none
 isinstance_:mg "isinstance"=none
 int_:mg "int"=none
 bool_:mg "bool"=none
 tuple_:mg "tuple"=none
 list_:mg "list"=none
 max_:mg "max"=none
 min_:mg "min"=none
 all_:mg "all"=none
 zip_:mg "zip"=none
 str_:mg "str"=none
 dict_:mg "dict"=none
 sorted_:mg "sorted"=none
 set_:mg "set"=none
 any_:mg "any"=none
 sum_:mg "sum"=none
 enumerate_:mg "enumerate"=none
 repr_:mg "repr"=none
 ord_:mg "ord"=none
 chr_:mg "chr"=none
 abs_:mg "abs"=none
 reversed_:mg "reversed"=none
theorem Rq:AV "int"=some (.type "int"):=by decide+kernel
theorem RB:AV "bool"=some (.type "bool"):=by decide+kernel
theorem LH:AV "tuple"=some (.type "tuple"):=by decide+kernel
theorem M6:AV "list"=some (.type "list"):=by decide+kernel
theorem UA:AV "str"=some (.type "str"):=by decide+kernel
theorem Vt:AV "dict"=some (.type "dict"):=by decide+kernel
theorem KH:AV "isinstance"=some (.builtin "isinstance"):=by decide+kernel
theorem J9:AV "len"=some (.builtin "len"):=by decide+kernel
theorem Rr:AV "max"=some (.builtin "max"):=by decide+kernel
theorem Rs:AV "min"=some (.builtin "min"):=by decide+kernel
theorem LG:AV "all"=some (.builtin "all"):=by decide+kernel
theorem U9:AV "any"=some (.builtin "any"):=by decide+kernel
theorem MI:AV "sorted"=some (.builtin "sorted"):=by decide+kernel
theorem LD(h:n≤1000):n≤Au:=AZ (IQ h)
theorem HU{p:Addr}(h:H p=none)(o:HO):Same H (HI H p o):=λb u q=>by rw[Ij (J8 q h)];exact q
def eV:Option Int→V
 | none=> .non
 | some i=> .int i
theorem Ta(o:Option Int):(!decide (eV o=V.non))=o.isSome:=by
 cases o with
 | none=>rfl
 | some i=>rfl
def SameB(b g:Addr)(H H':Hp):Prop:=∀a o,H a=some o→a≠b→a≠g→H' a=some o
theorem SameB.trans{g:Addr}{H1 H2:Hp}(x:SameB b g H H1)(y:SameB b g H1 H2):SameB b g H H2:=λa o h n1 n2=>y a o (x a o h n1 n2) n1 n2
theorem Same.sameB{g:Addr}{H1:Hp}(x:Same H H1):SameB b g H H1:=λa o h _ _=>x a o h
theorem S9:∀ns:List Int,Reps K H (ns.map PD.int) (ns.map V.int)
 | []=>by show Reps K H [] [];rw[Reps]
 | n::ns=>by show Reps K H (.int n::ns.map PD.int) (.int n::ns.map V.int);rw[Reps];exact⟨_,_,rfl,by rw[HJ],S9 ns⟩
theorem Ug:∀ns:List Int,Ja (ns.map PD.int)=0
 | []=>by show Ja []=0;rw[Ja]
 | n::ns=>by
  show Ja (.int n::ns.map PD.int)=0;rw[Ja,Ug ns,Je]
  all_goals simp
theorem QW{p:Addr}{ns:List Int}{Q:VK}(h:SqL K H a (ns.map V.int))(hp:SqL K H p [])(q:Q (.bl (!ns.isEmpty)) H):MY K (.ref a) (.ref p) H Q:=by
 refine⟨.lst (ns.map PD.int),.lst [],by rw[HJ];exact⟨a,_,rfl,h,S9 ns⟩,by rw[HJ];exact⟨p,_,rfl,hp,by rw[Reps]⟩,by rw[Je,Ug];decide,?_⟩;cases ns with
 | nil=>rw[Ip,show JY (([]:List Int).map PD.int) []=true from MP []];exact q
 | cons n ns=>rw[Ip,Ls (by simp)];exact q
theorem QM{α:Type}{x:α}{r:List α}:JW (x::r) 0=some x:=Mm (j:=0) rfl
theorem Uz{α:Type}{x:α}{r:List α}:Lb (x::r).length 0=some 0:=by unfold Lb;rw[if_pos (by decide),if_pos (by rw[AF];omega)];rfl
theorem U7{ls:List Int}{i:Int}(h0:0≤i)(h1:i<(ls.length:Int)):∃v,JW (ls.map V.int) i=some (.int v)∧v∈ls:=by
 obtain⟨k,rfl⟩:=Int.eq_ofNat_of_zero_le h0;have hk:k<ls.length:=by omega
 exact⟨ls[k],Mm (by rw[Af,Av hk];rfl),DV _⟩
theorem JE:(0:Nat)≤Au:=Br _
theorem IB{α:Type}{l:List α}{x:α}(h:l[i]?=some x):l.take (i+1)=l.take i++[x]:=by rw[List.take_succ,h];rfl
theorem R_{p:Addr}{Q:VK}{js:IT}{cap:St}{tc:TT}{te:TE}(ns:List Int)(f:Int→Int)(c:Int→Bool)(hn:ns.length≤900)(e:SqL K H a (ns.map V.int))(hp:H p=none)(hσ:Jo js σ=none::cap)
 (ht:∀n H'(R:Bool→Hp→Prop),Same H H'→R (c n) H'→tc (some (.int n)::cap) H' R) (he:∀n H'(R:VK),Same H H'→R (.int (f n)) H'→te (some (.int n)::cap) H' R)
 (hq:∀H',Same H H'→H' p=some (.lst (((ns.filter c).map f).map V.int))→Q (.ref p) H'):Kl (Kv K a) p js (JN 0) tc te σ H Q:=by
 have s0:=HU hp (.lst []);refine JR (xs:=ns.map V.int) (λi σ' ys H'=>(∃v,σ'=v::cap)∧Same H H'∧H' p=some (.lst ys)∧ys=((((ns.take i).filter c).map f).map V.int)) ⟨⟨_,hσ⟩,s0,HK,rfl⟩ ?_ ?_ ?_
 · rintro i σ' ys H' hi ⟨_,s,h1,h2⟩;refine⟨s.seq e,h1,?_⟩;rw[h2];simp only[Ab];have:=Bk c (ns.take i);rw[A7] at this;exact IQ (by omega)
 · rintro i x σ' ys H' N hx ⟨⟨v,rfl⟩,s,h1,h2⟩ hN;rw[Af] at hx;cases hn':ns[i]? with
   | none=>rw[hn'] at hx;cases hx
   | some n=>
    rw[hn'] at hx;have hx:V.int n=x:=Az hx;subst hx;refine ht n H' _ s ?_;have e1:=IB hn';cases hc:c n with
    | true=>
     refine HP (he n H' _ s ⟨h1,hN _ _ _ ⟨⟨_,rfl⟩,?_,HK,?_⟩⟩)
     · intro b o q;have:b≠p:=λz=>by rw[z,hp] at q;cases q
       rw[Ij this];exact s b o q
     · rw[h2,e1,BF,BV,if_pos hc];simp
    | false=> refine HR (hN _ _ _ ⟨⟨_,rfl⟩,s,h1,?_⟩);rw[h2,e1,BF,BV,if_neg (by rw[hc];exact As)];simp
 · rintro σ' ys H' ⟨_,s,h1,h2⟩;refine hq H' s ?_;rw[h1,h2,Ab,Bb]
theorem RZ{p:Addr}{Q:VK}{js:IT}{cap:St}{tc:TT}{te:TE}(os:List (Option Int))(c:Option Int→Bool)(hn:os.length≤900)(e:SqT K H a (os.map eV))(hp:H p=none)(hσ:Jo js σ=none::cap)
 (mono:∀{H'},Same H H'→SqT K H' a (os.map eV))
 (ht:∀o H'(R:Bool→Hp→Prop),Same H H'→R (c o) H'→tc (some (eV o)::cap) H' R) (he:∀o H'(R:VK),Same H H'→R (eV o) H'→te (some (eV o)::cap) H' R)
 (hq:∀H',Same H H'→H' p=some (.lst ((os.filter c).map eV))→Q (.ref p) H'):Kl (KJ K a) p js (JN 0) tc te σ H Q:=by
 have s0:=HU hp (.lst []);refine NJ (xs:=os.map eV) (λi σ' ys H'=>(∃v,σ'=v::cap)∧Same H H'∧H' p=some (.lst ys)∧ys=((os.take i).filter c).map eV) ⟨⟨_,hσ⟩,s0,HK,rfl⟩ ?_ ?_ ?_
 · rintro i σ' ys H' hi ⟨_,s,h1,h2⟩;refine⟨mono s,h1,?_⟩;rw[h2];simp only[Ab];have:=Bk c (os.take i);rw[A7] at this;exact IQ (by omega)
 · rintro i x σ' ys H' N hx ⟨⟨v,rfl⟩,s,h1,h2⟩ hN;rw[Af] at hx;cases hn':os[i]? with
   | none=>rw[hn'] at hx;cases hx
   | some n=>
    rw[hn'] at hx;have hx:eV n=x:=Az hx;subst hx;refine ht n H' _ s ?_;have e1:=IB hn';cases hc:c n with
    | true=>
     refine HP (he n H' _ s ⟨h1,hN _ _ _ ⟨⟨_,rfl⟩,?_,HK,?_⟩⟩)
     · intro b o q;have:b≠p:=λz=>by rw[z,hp] at q;cases q
       rw[Ij this];exact s b o q
     · rw[h2,e1,BF,BV,if_pos hc];simp
    | false=> refine HR (hN _ _ _ ⟨⟨_,rfl⟩,s,h1,?_⟩);rw[h2,e1,BF,BV,if_neg (by rw[hc];exact As)];simp
 · rintro σ' ys H' ⟨_,s,h1,h2⟩;refine hq H' s ?_;rw[h1,h2,Ab,Bb]
theorem Same.seqT{H':Hp}(e:Same H H')(h:SqT K H a xs):SqT K H' a xs:=by
 rcases h with(h | ⟨o,h⟩) | h
 · exact .inl (.inl (e _ _ h))
 · exact .inl (.inr ⟨o,e _ _ h⟩)
 · exact .inr h
def N2(xs:List V):It:=⟨λi _=>i<xs.length,λi H x H'=>H'=H∧xs[i]?=some x,λi _=>xs.length≤i⟩
theorem ze5{tg:Expr}(it:Addr)(x:Str)(t:Tok):Turn P w K tg (N2 (x.cps.toList.map λc=>V.str ⟨#[c]⟩)) [it] it (λi h=>h.IsStrIter it "str_ascii_iterator" x t i) where
 mem:=by simp
 obj:=λi h st b hb=>by
  have e:b=it:=by simpa using hb
  subst e;obtain⟨o,e,c,d⟩:=st;exact⟨o,e,λv z=>by rw[d] at z;cases z⟩
 keep:=λi h h' st k=>let⟨o,ho,r⟩:=st;⟨o,k it (by simp) o ho,r⟩
 item:=by
  intro X hP hw hK hc i pins s σ H E I hf st hg;subst hP hw hK;have hg:i<(x.cps.toList.map λc=>V.str ⟨#[c]⟩).length:=hg;rw[Ab,AG] at hg;obtain⟨f0,f1,f2,f3,f4,f5⟩:=hf it (by simp);refine wpAny_pyNext_ascii_item st (c:=x.cps[i]) (by simp[hg]) λh' st' sb=>?_;have I1:Inv X pins σ H {s with heap:=h',toks:=s.toks+1}:=I.turned (λb o hb e=>(sb.2 b hb).trans e) f0 f1 f3 f4 f5
  obtain⟨o,e,c,d⟩:=id st';exact⟨_,rfl,Mx (s:={s with heap:=h',toks:=s.toks+1}) e c d (by decide) ⟨.str ⟨#[x.cps[i]]⟩,H,I1,⟨_,rfl⟩,⟨rfl,by rw[Af,Cm,Ck hg];rfl⟩,st',λb hb=>(hf b hb).1⟩⟩
 done:=by intro X hP hw hK hc i pins s σ H E I hf st hg;subst hP hw hK;have hg:(x.cps.toList.map λc=>V.str ⟨#[c]⟩).length≤i:=hg;rw[Ab,AG] at hg;obtain⟨f0,f1,f2,f3,f4,f5⟩:=hf it (by simp);exact wpAny_pyNext_ascii_end (I.ok.hd hc) st (by simpa using hg) λh' eb=>⟨rfl,I.turned (t':=s.toks) (λb o hb e=>eb b o hb e) f0 f1 f3 f4 f5⟩
 self:=λ_ _ _ _ _ st h=>wpAny_pyIter_striter_ascii st h
theorem ZF{tg:Expr}(it:Addr)(x:Str)(t:Tok):Turn P w K tg (N2 (x.cps.toList.map λc=>V.str ⟨#[c]⟩)) [it] it (λi h=>h.IsStrIter it "str_iterator" x t i) where
 mem:=by simp
 obj:=λi h st b hb=>by
  have e:b=it:=by simpa using hb
  subst e;obtain⟨o,e,c,d⟩:=st;exact⟨o,e,λv z=>by rw[d] at z;cases z⟩
 keep:=λi h h' st k=>let⟨o,ho,r⟩:=st;⟨o,k it (by simp) o ho,r⟩
 item:=by
  intro X hP hw hK hc i pins s σ H E I hf st hg;subst hP hw hK;have hg:i<(x.cps.toList.map λc=>V.str ⟨#[c]⟩).length:=hg;rw[Ab,AG] at hg;obtain⟨f0,f1,f2,f3,f4,f5⟩:=hf it (by simp);refine wpAny_pyNext_wide_item st (c:=x.cps[i]) (by simp[hg]) λh' st' sb=>?_;have I1:Inv X pins σ H {s with heap:=h',toks:=s.toks+1}:=I.turned (λb o hb e=>(sb.2 b hb).trans e) f0 f1 f3 f4 f5
  obtain⟨o,e,c,d⟩:=id st';exact⟨_,rfl,Mx (s:={s with heap:=h',toks:=s.toks+1}) e c d (by decide) ⟨.str ⟨#[x.cps[i]]⟩,H,I1,⟨_,rfl⟩,⟨rfl,by rw[Af,Cm,Ck hg];rfl⟩,st',λb hb=>(hf b hb).1⟩⟩
 done:=by intro X hP hw hK hc i pins s σ H E I hf st hg;subst hP hw hK;have hg:(x.cps.toList.map λc=>V.str ⟨#[c]⟩).length≤i:=hg;rw[Ab,AG] at hg;obtain⟨f0,f1,f2,f3,f4,f5⟩:=hf it (by simp);exact wpAny_pyNext_wide_end (I.ok.hd hc) st (by simpa using hg) λh' eb=>⟨rfl,I.turned (t':=s.toks) (λb o hb e=>eb b o hb e) f0 f1 f3 f4 f5⟩
 self:=λ_ _ _ _ _ st h=>wpAny_pyIter_striter_wide st h
section
variable{tg:Expr}
def signs(x:Str):List V:=x.cps.toList.map λc=>V.str ⟨#[c]⟩
def QE(tl:TE):TI:=λσ H R=>tl σ H λv H1=>∃x,v= .str x∧R (N2 (signs x)) H1
theorem Wa{l:Expr}{tl:TE}(hl:PE X l tl):PI X tg l (QE tl):=by
 intro pins s σ H R I h;refine HN (hl pins s σ H _ I h) λv s1 ⟨y,H1,I1,r1,q1⟩=>?_;obtain⟨x,e,q⟩:=q1;subst e;obtain⟨t,rfl⟩:=r1;cases ha:x.cps.all (· <128)
 · refine wpAny_pyIter_wide ha ?_;refine⟨s1.heap.objs.size,[s1.heap.objs.size],_,_,H1,rfl,I1.kept (t':=s1.toks) λb o e=>Ad _ e,ZF _ x t,⟨_,Am _ rfl,rfl,rfl⟩,λb hb=>?_,q⟩;have e:b=s1.heap.objs.size:=by simpa using hb
   subst e;exact I1.fpOk (Ag _) (I1.hok.fresh (Ag _))
 · refine wpAny_pyIter_ascii ha ?_;refine⟨s1.heap.objs.size,[s1.heap.objs.size],_,_,H1,rfl,I1.kept (t':=s1.toks) λb o e=>Ad _ e,ze5 _ x t,⟨_,Am _ rfl,rfl,rfl⟩,λb hb=>?_,q⟩;have e:b=s1.heap.objs.size:=by simpa using hb
   subst e;exact I1.fpOk (Ag _) (I1.hok.fresh (Ag _))
theorem TH:IL X (By .LtE) (λx y H Q=>∃i j,x= .str i∧y= .str j∧Q (.bl (!decide (j.cps.toList<i.cps.toList))) H):=by intro pins s σ H x y v u Q I rx ry h;obtain⟨i,j,rfl,rfl,q⟩:=h;obtain⟨t,rfl⟩:=rx;obtain⟨t',rfl⟩:=ry;exact PySem.P.le_str (IR I q rfl)
theorem LI(hc:X.calm=true):J5 X (.builtin "all") (λxs H Q=>∃(a:Addr)(bs:List Bool),xs=[.ref a]∧SqL X.K H a (bs.map V.bl)∧Q (.bl (bs.all id)) H):=by
 intro pins s σ H xs us Q I r h;obtain⟨a,bs,rfl,hq,q⟩:=h;obtain⟨u,rfl,ru⟩:=J6 r;cases ru;obtain⟨its,rv,p,hzz⟩:=I.list hq;have ll:=rv.length;rw[Ab] at ll;refine call_all_walk (CS p.isList ?_);obtain⟨o,ho,_⟩:=id p.isList;have lt:=Ai ho;refine⟨s.heap.objs.size,_,_,_,_,_,λi=>bs.getD i false,rfl,E_ (A:=X.A.in1) (I.ok.hd hc) s.heap.objs.size a (Aq lt) its.toArray,⟨⟨_,Am _ rfl,rfl,rfl⟩,p.isList.at λo' e=>Ad _ e⟩,?_,λg t' k=>?_⟩
 · intro i v s' Q' E' hv q';have hi:its[i]?=some v:=by simpa using hv
   have hl:i<its.length:=(Al.mp hi).1;have e:(bs.map V.bl)[i]?=some (.bl (bs.getD i false)):=by rw[Af,Av (by omega),AX,Av (by omega)];rfl
   obtain⟨u,h1,h2⟩:=Vals.get rv e;rw[hi] at h1;cases h1;cases h2;exact Bu q'
 · refine⟨.bl (bs.all id),H,I.kept (λb o' e=>k b o' ?_ (Ad _ e)),?_,q⟩
   · intro z;exact absurd (Ae.mp z) (Aq (Ai e))
   · show Value.bool _=Value.bool _;congr 1;rw[Ax,←ll];clear rv ll hq q p ho lt hzz
     induction bs with
     | nil=>rfl
     | cons b r ih=> rw[AF,DO,CF,DA,CF,←ih];rfl
end
theorem UP{xs:List V}{p:Addr}{g:TG}{tc:TT}{te:TE}{Q:VK}{js:IT}(Pv:Nat→St→List V→Hp→Prop)(h0:Pv 0 (Jo js σ) [] (HI H p (.lst [])))
 (hl:∀i σ ys H,i≤xs.length→Pv i σ ys H→H p=some (.lst ys)∧ys.length<Au)
 (hs:∀(i:Nat)x σ ys H(N:St→List V→Hp→Prop),xs[i]?=some x→Pv i σ ys H→(∀σ' ys' H',Pv (i+1) σ' ys' H'→N σ' ys' H')→LF p g tc te ys x σ H N)
 (hd:∀σ ys H,Pv xs.length σ ys H→Q (.ref p) H):Kl (N2 xs) p js g tc te σ H Q:=
 Mc (n:=xs.length) (J:=N2 xs) (js:=js) (σ:=σ) (H:=H) (p:=p) (Q:=Q) (g:=g) (tc:=tc) (te:=te) Pv h0 hl
  (λi σ ys H hi pv=>hi) (λσ ys H pv=>Ag _)
  (λi x σ ys H H' N hi y pv hN=>by obtain⟨e,y⟩:=y;subst e;exact hs i x σ ys _ N y pv hN) hd
section
variable{R:Result→Shared→Prop}
theorem YY{kx vx target iter:Expr}{ifs:List Expr}{scope:Scope}{pos:Pos}{it:Value}{D:Addr}{env:Env}(I:Nat→Shared→Prop)
 (turn:∀n s,I n s→wpAny (model prog w) A (pyNext it) (λr s₁=>match r with
  | none=>R (.ok .next) s₁
  | some v=>wpAny (model prog w) A (BH target it v) (λ_ s₁'=>wpAny (model prog w) A (assign target env v) (λ_ s₂=>
   wpAny (model prog w) A (forIn ifs true λc r=>if r=true then do let ok ←isTrue c env (eval c env);pure (ForInStep.yield ok) else pure (ForInStep.yield r)) (λok s₃=>
    if ok=true then wpAny (model prog w) A (eval kx env) (λkv s₄=>wpAny (model prog w) A (eval vx env) (λvv s₅=> wpAny (model prog w) A (dictSet D kv vv) (λ_ s₆=>∃m,m<n∧I m s₆) (λ_ _=>False) s₅) (λ_ _=>False) s₄) (λ_ _=>False) s₃
    else ∃m,m<n∧I m s₃) (λ_ _=>False) s₂) (λ_ _=>False) s₁') (λ_ _=>False) s₁) (λ_ _=>False) s)
 (n:Nat) (h:I n s):
 codeAny (model prog w) A (.compLoop (.DictComp kx vx [⟨target,iter,ifs,0⟩] scope pos) 0 it (.ref D) env) R s:=by
 refine D9 rfl I (λn s hI=>?_) n h;show wpAny _ A ((compTurn (.DictComp kx vx [⟨target,iter,ifs,0⟩] scope pos) 0 it (.ref D) env).onRaise (λx=>do noteFrame x env;theTreesLotGoes x)) _ _ s
 refine DN ?_;rw[compTurn_dict];refine Aa (Bp (Aa (A4 (turn n s hI) (λr s₁ h₁=>?_) λ_ _ z=>z.elim)));cases r with
 | none=>exact Ac h₁
 | some v=>
  refine Aa (A4 h₁ (λ_ s₁' h₁'=>?_) λ_ _ z=>z.elim);refine Aa (A4 h₁' (λ_ s₂ h₂=>Aa (A4 h₂ (λok s₃ h₃=>?_) λ_ _ z=>z.elim)) λ_ _ z=>z.elim);cases ok with
  | false=>exact Ac ⟨rfl,h₃⟩
  | true=> exact Aa (Aa (A4 h₃ (λkv s₄ h₄=>Aa (AS (A4 h₄ (λvv s₅ h₅=>Aa (Bp (AS (A4 h₅ (λ_ s₆ h₆=>Ac ⟨rfl,h₆⟩) λ_ _ z=>z.elim)))) λ_ _ z=>z.elim))) λ_ _ z=>z.elim))
end
def OB(J:It)(p:Addr)(js:IT)(g:TG)(tc:TT)(tk tv:TE)(σ:St)(H:Hp)(Q:VK):Prop:=
 ∃W:Nat→Nat→St→List (Ic×V)→Hp→Prop,(∃m,W 0 m (Jo js σ) [] (HI H p (.dK [])))∧∀i m σ' kvs H,W i m σ' kvs H→H p=some (.dK kvs)∧
  ((J.stop i H∧Q (.ref p) H)∨(J.go i H∧kvs.length<Au∧∀x H',J.yld i H x H'→g x σ' H' λσ2 H2=>tc σ2 H2 λb H3=>
    if b=true then tk σ2 H3 λk H4=>tv σ2 H4 λy H5=>∃ky,k=kV ky∧H5 p=some (.dK kvs)∧∃m',m'<m∧W (i+1) m' σ2 (Ii kvs ky y) (HI H5 p (.dK (Ii kvs ky y)))
    else ∃m',m'<m∧W (i+1) m' σ2 kvs H3))
def tDC(wi:TI)(js:IT)(g:TG)(tc:TT)(tk tv:TE):TE:=λσ H Q=>wi σ H λJ H1=>∀p,H1 p=none→OB J p js g tc tk tv σ H1 Q
section
variable{tg iter kx vx:Expr}{ifs:List Expr}{wi:TI}{js:IT}{g:TG}{tc:TT}{tk tv:TE}{N':List Str}
theorem Wf{pins:List (Addr×Obj)}{σ:St}{H:Hp}{s:Shared}{E:Value→Shared→Prop}{Q:VK}{J:It}{it:Addr}{fp:List Addr}{tn:Nat→Heap→Prop}{cl:List (Str×Addr)}
 (hc:X.calm=true) (ok:CapOk X N' js scope)
 (h2:∀x c,cl.lookup x=some c→X.env.cells.lookup x=some c) (h3:∀p∈scope.names,p.2= .free→(cl.lookup p.1).isSome=true)
 (hg:∀cl C s₀ H₀ ex,PG (Iu X N' scope cl C s₀ H₀ ex) tg g) (ht:∀cl C s₀ H₀ ex,Iw (Iu X N' scope cl C s₀ H₀ ex) ifs tc) (he:∀cl C s₀ H₀ ex,PE (Iu X N' scope cl C s₀ H₀ ex) kx tk) (hv:∀cl C s₀ H₀ ex,PE (Iu X N' scope cl C s₀ H₀ ex) vx tv)
 (I:Inv X pins σ H s) (T:Turn X.prog X.w X.K tg J fp it tn) (st:tn 0 s.heap) (hf:∀b∈fp,HS X pins H b)
 (hw:∀p,H p=none→OB J p js g tc tk tv σ H Q):
 wpAny (model X.prog X.w) X.A newDict (λacc s₃=>wpAny (model X.prog X.w) X.A (newFunctionEnv scope X.env.globals cl [] X.env.qual none .none (some X.env)) (λcenv s₄=>
  codeAny (model X.prog X.w) X.A (.compStart (.DictComp kx vx [⟨tg,iter,ifs,0⟩] scope pos) 0 (.ref it) acc {cenv with scope:=relabel scope X.env})
   (λr s'=>r= .ok .next∧(∃m,s'.heap.Ns cenv.locals m)∧∃v H',RelV v acc∧Inv X pins σ H' s'∧HS X pins H' cenv.locals∧Q v H') s₄) E s₃) E s:=by
 have objs:=T.obj _ _ st;refine AN ?_;obtain⟨W,⟨m0,w0⟩,turn⟩:=hw s.heap.objs.size (I.hok.fresh (Ag _));generalize hp:s.heap.objs.size=p at*;have kp:∀b u,s.heap.get? b=some u→(s.heap.push {cls:= .type "dict",data:= .dict #[]}).get? b=some u:=λb u e=>Ad _ e;have I3:Inv X pins σ (HI H p (.dK [])) {s with heap:=s.heap.push {cls:= .type "dict",data:= .dict #[]}}:=by subst hp;exact I.laid (t':=s.toks) kp (Ag _) (OX s.heap I.big)
 have fne:∀b∈fp,b≠p:=λb hb=>by obtain⟨o,e,_⟩:=objs b hb;have:=Ai e;rw[←hp];exact Aq this
 have hf3:∀b∈fp,HS X pins (HI H p (.dK [])) b:=λb hb=>⟨by rw[Ij (fne b hb)];exact(hf b hb).1,(hf b hb).2⟩;have st3:tn 0 (s.heap.push {cls:= .type "dict",data:= .dict #[]}):=T.keep _ _ _ st λb _ o e=>kp b o e;have lt3:∀b∈fp,b<(s.heap.push {cls:= .type "dict",data:= .dict #[]}).objs.size:=λb hb=>by obtain⟨o,e,_⟩:=objs b hb;exact Ai (kp b o e)
 generalize hs3:({s with heap:=s.heap.push {cls:= .type "dict",data:= .dict #[]}}:Shared)=s3 at*
 have eh:s.heap.push {cls:= .type "dict",data:= .dict #[]}=s3.heap:=by rw[←hs3]
 rw[eh] at st3 lt3;refine Os ok.cells λcl h₁ hns₁ k4 oc=>?_;have I4:=NS (cl:=cl) (h₁:=h₁) (t':=s3.toks+([]:List (Str×Value)).length) ok I3 h2 h3 hf3 lt3 k4 hns₁ oc;have st4:tn 0 h₁:=T.keep _ _ _ st3 λb _ o e=>k4 b o e;generalize hX:Iu X N' scope cl s3.heap.objs.size s3 (HI H p (.dK [])) fp=X' at I4;have hg':PG X' tg g:=by rw[←hX];exact hg _ _ _ _ _
 have ht':Iw X' ifs tc:=by rw[←hX];exact ht _ _ _ _ _
 have he':PE X' kx tk:=by rw[←hX];exact he _ _ _ _ _
 have hv':PE X' vx tv:=by rw[←hX];exact hv _ _ _ _ _
 have eP:X'.prog=X.prog:=by rw[←hX];rfl
 have ew:X'.w=X.w:=by rw[←hX];rfl
 have eK:X'.K=X.K:=by rw[←hX];rfl
 have ec:X'.calm=true:=by rw[←hX];exact hc
 have eA:X'.A=X.A:=by rw[←hX];rfl
 have ex:X'.xe=λ_ _=>False:=by rw[←hX];rfl
 have eE:X'.env=compEnvC scope cl s3.heap.objs.size X.env:=by rw[←hX];rfl
 have eEx:X'.ex=fp:=by rw[←hX];rfl
 have eN:X'.pn=[]:=by rw[←hX];rfl
 have stat:∀{H':Hp},(∀b∈fp,H' b=none)→∀b∈fp,HS X' [] H' b:=λ{H'}hn b hb=>by have okc:=I4.ok;refine⟨hn b hb,(okc.exf b (by rw[eEx];exact hb)).1,okc.exfs b (by rw[eEx];exact hb),.inl (by rw[eEx];exact hb),(okc.exf b (by rw[eEx];exact hb)).2,λq hq=>?_⟩;rw[eN] at hq;cases hq
 have loop:∀s₄:Shared,s₄={s3 with heap:=h₁,toks:=s3.toks+([]:List (Str×Value)).length}→
  codeAny (model X.prog X.w) X.A (.compLoop (.DictComp kx vx [⟨tg,iter,ifs,0⟩] scope pos) 0 (.ref it) (.ref p) (compEnvC scope cl s3.heap.objs.size X.env))
   (λr s'=>r= .ok .next∧(∃m,s'.heap.Ns s3.heap.objs.size m)∧∃v H',RelV v (.ref p)∧Inv X pins σ H' s'∧HS X pins H' s3.heap.objs.size∧Q v H') s₄:=by
  rintro s₄ rfl;refine YY (λn s'=>∃i σ' ys H',Inv X' [] σ' H' s'∧tn i s'.heap∧(∀b∈fp,H' b=none)∧W i n σ' ys H') ?_ m0 ⟨0,_,[],_,I4,st4,λb hb=>(hf3 b hb).1,w0⟩;rintro n s5 ⟨i,σ5,ys,H5,I5,st5,fr5,w5⟩;obtain⟨hp5,tu⟩:=turn i n σ5 ys H5 w5;rcases tu with⟨stop,qn⟩ | ⟨go,hz,step⟩
  · have D:=T.done X' eP ew eK ec i [] s5 σ5 H5 (λ_ _=>False) I5 (stat fr5) st5 stop;rw[eA] at D;refine HN D λr s6 ⟨hr,I6⟩=>?_;subst hr;refine⟨rfl,?_,.ref p,H5,rfl,?_,?_,qn⟩
    · obtain⟨m,hm,_⟩:=I6.loc;rw[eE] at hm;exact⟨m,hm⟩
    · have b6:=I6.base;have ho:=I6.os;have hk:=I6.hok;have hb:=I6.bare;subst hX;exact I3.call' (ch:=fp) ho b6 hk hb λb hb'=>⟨(hf b hb').2.2.2.1,(hf b hb').2.1,(hf b hb').2.2.2.2.1,(hf b hb').2.2.2.2.2⟩
    · have fr:=I6.free;rw[eE] at fr;exact I3.fpOk (Ag _) fr
  · have D:=T.item X' eP ew eK ec i [] s5 σ5 H5 (λ_ _=>False) I5 (stat fr5) st5 go;rw[eA] at D;refine HN D λr s6 ⟨u,hr,h6⟩=>?_;subst hr;refine HN h6 λ_ s7 ⟨x,H7,I7,r7,y7,st7,fr7⟩=>?_;have I7':=I7.pinned (stat fr7) (T.obj _ _ st7);have G:=hg' _ s7 σ5 H7 x u _ I7' r7 (step x H7 y7);rw[eP,ew,eA,ex,eE] at G;refine HN G λ_ s8 ⟨σ8,H8,I8,q8⟩=>?_;have Tt:=ht' _ s8 σ8 H8 _ I8 q8;rw[eP,ew,eA,ex,eE] at Tt;refine HN Tt λb s9 ⟨H9,I9,q9⟩=>?_;have again:∀{s':Shared}{ys':List (Ic×V)}{H':Hp},Inv X' ([]++Js fp s7.heap) σ8 H' s'→(∃m',m'<n∧W (i+1) m' σ8 ys' H')→
     ∃m,m<n∧∃i σ' ys H',Inv X' [] σ' H' s'∧tn i s'.heap∧(∀b∈fp,H' b=none)∧W i m σ' ys H':=λ{s' ys' H'}I' ⟨m',hm,w'⟩=>by
     refine⟨m',hm,i+1,σ8,ys',H',I'.unpinned,T.keep _ _ _ st7 λb hb o e=>(I'.pin (b,o) (An _ (An _ (JK hb e)))).1,λb hb=>?_,w'⟩;obtain⟨o,e,d⟩:=T.obj _ _ st7 b hb;exact(I'.pin (b,o) (An _ (An _ (JK hb e)))).2.1
    cases b with
    | false=>exact again I9 q9
    | true=>
     have Ee:=he' _ s9 σ8 H9 _ I9 q9;rw[eP,ew,eA,ex,eE] at Ee;show wpAny _ _ _ _ _ _;refine HN Ee λkv s10 ⟨kk,H10,I10,r10,q10⟩=>?_;have Ev:=hv' _ s10 σ8 H10 _ I10 q10;rw[eP,ew,eA,ex,eE] at Ev;refine HN Ev λvv s11 ⟨y,H11,I11,r11,ky,ek,hp11,q11⟩=>?_;subst ek;obtain⟨z0,hd0,vs0,rel0,dd0⟩:=O2 I11.hok hp11;have hz0:vs0.length≤Au:=by rw[←rel0.length];exact z0
     have hl0:(Ii ys ky y).length≤Au:=by have:=MN ys ky y;omega
     rw[eP,ew] at dd0;refine wpAny_dictSet_pairs (hsz:=hz0) (LB r10) dd0 λh' dd' hs'=>?_;have he0:∃q,h'.get? p=some q:=let⟨q,_,_,hq,_⟩:=dd';⟨q,hq⟩;have I12:=OK (t':=s11.toks+1) I11 (by rw[hp11];exact True.intro) hs' he0 (O9 hl0 hd0 (rel0.put ky r11) (by rw[eP,ew];exact dd'));exact again I12 q11
 exact codeAny_compStart_dict (loop _ rfl) (T.self _ 0 _ _ _ st4 (loop _ rfl))
theorem Vb(hc:X.calm=true)(ok:CapOk X N' js scope)(hi:PI X tg iter wi)
 (hg:∀cl C s₀ H₀ ex,PG (Iu X N' scope cl C s₀ H₀ ex) tg g) (ht:∀cl C s₀ H₀ ex,Iw (Iu X N' scope cl C s₀ H₀ ex) ifs tc) (he:∀cl C s₀ H₀ ex,PE (Iu X N' scope cl C s₀ H₀ ex) kx tk) (hv:∀cl C s₀ H₀ ex,PE (Iu X N' scope cl C s₀ H₀ ex) vx tv)
 (hs:∀x,A_ iter X.env x=pure x:=by intro _;rfl):PE X (.DictComp kx vx [⟨tg,iter,ifs,0⟩] scope pos) (tDC wi js g tc tk tv):=by
 intro pins s σ H Q I h;obtain⟨cl,c1,c2,c3⟩:=M7 (scope:=scope) I.ok.has ok.free;show wpAny _ X.A (comprehension (.DictComp kx vx [⟨tg,iter,ifs,0⟩] scope pos) scope X.env _ newDict false (eval iter X.env)) _ _ s;refine C9 (use:=none) rfl hs c1 ok.kind ok.names (HN (hi pins s σ H _ I h) λv s1 h1=>HN h1 λitv s2 h2=>?_);obtain⟨it,fp,tn,J,H2,e,I2,T,st2,f2,hw⟩:=h2;subst e;refine A4 (Wf (iter:=iter) (pos:=pos) hc ok c2 c3 hg ht he hv I2 T st2 f2 hw) (λacc s3 h3=>A4 h3 (λcenv s4 h4=>?_) λ_ _ z=>z) λ_ _ z=>z;refine Ce h4 λr s5 h5=>?_;obtain⟨rfl,⟨m,hm⟩,v,H5,rv,I5,f5,q5⟩:=h5;refine⟨m,hm,λh' sb=>?_⟩;obtain⟨f0,f1,_,f3,f4,f6⟩:=f5;exact⟨v,H5,I5.turned (t':=s5.toks) (λb o hb e=>(sb.2 b hb).trans e) f0 f1 f3 f4 f6,rv,q5⟩
end
theorem OO{ti tp:Addr}{k:Nat}{vs:Array Value}{v:Value}{Q:Value→Shared→Prop}(hi:s.heap.IsTupleIter ti tp k)(ht:s.heap.IsTuple tp vs)(hv:vs[k]?=some v)
 (fin:∀g,g.IsTupleIter ti tp (k+1)→Bx ti s.heap g→Q v {s with heap:=g}):wpAny (model prog w) A (AR (.ref ti)) Q E s:=by
 obtain⟨oi,e1,c1,d1⟩:=id hi;obtain⟨ot,e2,_,nt,d2⟩:=ht;unfold AR;refine Aa (AT (name:=Cf "__next__") hi.typeIs Be (AW Be hi.typeIs C2 ?_ (Cw _)));show wpAny _ _ (field (.ref ti) 0>>=_) _ _ s;refine Aa (AO e1 d1 (x:= .ref tp) rfl ?_);show wpAny _ _ (if(Value.ref tp==Value.none)=true then _ else _) _ _ s
 rw[if_neg (show ¬((Value.ref tp==Value.none)=true) from As)];show wpAny _ _ (field (.ref ti) 1>>=_) _ _ s;refine Aa (AO e1 d1 (x:= .int k 0) rfl ?_);show wpAny _ _ (seqItems? (.ref tp)>>=_) _ _ s;refine Aa (AQ e2 d2 ?_);simp only[Ba,hv];refine Aa (BP e1 d1 (by simp) (Ac ⟨v,rfl,Ac (fin _ ?_ (AY ..))⟩));exact⟨_,AM _ e1 (FV (DC d1 _)),(Obj.cls_mapFields ..).trans c1,by rw[DC d1];simp[rawInt]⟩
theorem Ry{ti tp:Addr}{k:Nat}{vs:Array Value}{Q:Value→Shared→Prop}(hh:A.handled=none)(hi:s.heap.IsTupleIter ti tp k)(ht:s.heap.IsTuple tp vs)(hv:vs[k]?=none)
 (fin:∀g e,Dg ti s.heap g→(∃o,g.get? e=some o∧o.cls= .type "StopIteration")→E (.ref e) {s with heap:=g}):wpAny (model prog w) A (AR (.ref ti)) Q E s:=by
 obtain⟨oi,e1,c1,d1⟩:=id hi;obtain⟨ot,e2,_,nt,d2⟩:=ht;unfold AR;refine Aa (AT (name:=Cf "__next__") hi.typeIs Be (AW Be hi.typeIs C2 ?_ (Cw _)));show wpAny _ _ (field (.ref ti) 0>>=_) _ _ s;refine Aa (AO e1 d1 (x:= .ref tp) rfl ?_);show wpAny _ _ (if(Value.ref tp==Value.none)=true then _ else _) _ _ s
 rw[if_neg (show ¬((Value.ref tp==Value.none)=true) from As)];show wpAny _ _ (field (.ref ti) 1>>=_) _ _ s;refine Aa (AO e1 d1 (x:= .int k 0) rfl ?_);show wpAny _ _ (seqItems? (.ref tp)>>=_) _ _ s;refine Aa (AQ e2 d2 ?_);simp only[Ba,hv];refine Aa (BJ (Aa (BP e1 d1 (by simp) ?_)));show wpAny _ _ (newExc (.type "StopIteration") []>>=_) _ _ _;refine Aa ?_;simp only[newExc,newTuple];refine Aa (AN ?_ (by size_fits));refine Aa (m:=firstArgMember _ _) (Du (a:=Value.none) (by first | rfl | (simp only[firstArgMember];rfl)) ?_)
 refine AN ?_ (by size_fits);simp only[raiseNew];refine Aa (wpAny_handled ?_)
 first | rw[show A.in1.handled=none from hh] | rw[hh]
 refine Aa (Ac (wpAny_throw ?_));exact fin _ _ (((AY ..).extBut.push _).push _) ⟨_,Am _ rfl,rfl⟩
structure ZA(z a b i j:Addr):Prop where
 az:a≠z
 bz:b≠z
 iz:i≠z
 jz:j≠z
 ab:a≠b
 ai:a≠i
 aj:a≠j
 bi:b≠i
 bj:b≠j
 ij:i≠j
theorem KS{h':Heap}{t c:Addr}{vs:Array Value}(x:h.IsTuple t vs)(hs:Bx c h h')(n:t≠c):h'.IsTuple t vs:=x.extBut hs.extBut n
theorem Wy{z i j t1 t2:Addr}{k1 k2:Nat}{xs ys:Array Value}{x y p q:Value}{Q:Value→Shared→Prop}(D:ZA z a b i j)(n1:t1≠z∧t1≠b∧t1≠i∧t1≠j)(n2:t2≠z∧t2≠b∧t2≠i∧t2≠j)
 (hz:IsZip s.heap z a b .none) (ha:IsPair s.heap a (.ref i) (.ref j)) (hb:IsPair s.heap b p q) (h1:s.heap.IsTupleIter i t1 k1) (h2:s.heap.IsTupleIter j t2 k2) (g1:s.heap.IsTuple t1 xs) (g2:s.heap.IsTuple t2 ys) (hx:xs[k1]?=some x) (hy:ys[k2]?=some y)
 (fin:∀g,IsZip g z a b (rawInt s.heap.objs.size)→IsPair g b x y→g.IsTupleIter i t1 (k1+1)→g.IsTupleIter j t2 (k2+1)→IsPair g s.heap.objs.size x y→
  (∀c o,c≠z→c≠b→c≠i→c≠j→s.heap.get? c=some o→g.get? c=some o)→Q (.ref s.heap.objs.size) {s with heap:=g}):
 wpAny (model prog w) A (Builtin.«zip.__next__» ⟨[.ref z],[]⟩) (λr s'=>∃v,r= .done (.ret v)∧Q v s') E s:=by
 show wpAny _ _ (field (.ref z) 2>>=_) _ _ _;refine Aa (AO hz rfl (x:= .bool false) rfl ?_);show wpAny _ _ (field (.ref z) 3>>=_) _ _ _;refine Aa (AO hz rfl (x:= .ref a) rfl ?_);refine Aa (AQ ha rfl ?_);show wpAny _ _ (BC (.ref z)>>=_) _ _ _;refine Aa ?_;unfold BC;refine Aa (AO hz rfl (x:= .none) rfl (Ac ?_));simp only[if_true];refine Aa (BJ ?_);refine Aa (AO hz rfl (x:= .ref b) rfl ?_);refine Aa (BG hz (by simp) λw1 z1 m1=>?_)
 replace z1:IsZip w1 z a b .ellipsis:=z1
 refine Aa ?_;simp only[List.zipIdx_cons,List.zipIdx_nil,F6,FU];refine Aa (Aa (EJ ?_));show wpAny _ _ (AR (.ref i)>>=_) _ _ _;refine Aa (OO (h1.extBut m1.extBut D.iz) (KS g1 m1 n1.1) hx λw2 i2 m2=>Ac ?_);have b2:IsPair w2 b p q:=m2.extBut _ _ D.bi (m1.extBut _ _ D.bz hb);refine Aa (AQ b2 rfl ?_);refine Aa (Eh b2 λw3 b3 m3=>?_)
 replace b3:IsPair w3 b x q:=b3
 refine Aa (Cg (Ac ?_));refine Aa (Aa (EJ ?_));show wpAny _ _ (AR (.ref j)>>=_) _ _ _;refine Aa (OO (((h2.extBut m1.extBut D.jz).extBut m2.extBut D.ij.symm).extBut m3.extBut D.bj.symm) (KS (KS (KS g2 m1 n2.1) m2 n2.2.2.1) m3 n2.2.1) hy λw4 j4 m4=>Ac ?_);have b4:IsPair w4 b x q:=m4.extBut _ _ D.bj b3;refine Aa (AQ b4 rfl ?_);refine Aa (Eh b4 λw5 b5 m5=>?_)
 replace b5:IsPair w5 b x y:=b5
 refine Aa (Cg (Ac (Ac ?_)));refine Aa (AQ b5 rfl ?_);refine Aa (FW ?_);have sz:w5.objs.size=s.heap.objs.size:=by rw[m5.1,m4.1,m3.1,m2.1,m1.1]
 have z5:IsZip w5 z a b .ellipsis:=m5.extBut _ _ D.bz.symm (m4.extBut _ _ D.jz.symm (m3.extBut _ _ D.bz.symm (m2.extBut _ _ D.iz.symm z1)));have k5:∀c o,c≠z→c≠b→c≠i→c≠j→s.heap.get? c=some o→w5.get? c=some o:=λc o c1 c2 c3 c4 e=> m5.extBut _ _ c2 (m4.extBut _ _ c4 (m3.extBut _ _ c2 (m2.extBut _ _ c3 (m1.extBut _ _ c1 e))));have i5:w5.IsTupleIter i t1 (k1+1):=((i2.extBut m3.extBut D.bi.symm).extBut m4.extBut D.ij).extBut m5.extBut D.bi.symm;have j5:w5.IsTupleIter j t2 (k2+1):=j4.extBut m5.extBut D.bj.symm;have zlt:z<w5.objs.size:=Ai z5;show wpAny _ _ (Cr (.ref z) (.ref w5.objs.size)>>=_) _ _ _;refine Aa ?_;unfold Cr;have z6:IsZip (w5.push {cls:= .type "tuple",data:= .seq #[x,y]}) z a b .ellipsis:=Ad _ z5;refine Aa (BG z6 (by simp) λw7 z7 m7=>?_)
 replace z7:IsZip w7 z a b (rawInt w5.objs.size):=z7
 refine BG z7 (by simp) λw8 z8 m8=>?_
 replace z8:IsZip w8 z a b (rawInt w5.objs.size):=z8
 have up:∀c o,c≠z→w5.get? c=some o→w8.get? c=some o:=λc o c1 e=>m8.extBut _ _ c1 (m7.extBut _ _ c1 (Ad _ e));have t8:IsPair w8 w5.objs.size x y:=m8.extBut _ _ (C1 zlt) (m7.extBut _ _ (C1 zlt) (Am _ rfl));rw[sz] at z8 t8;refine Ac ⟨_,rfl,?_⟩;show Q (.ref w5.objs.size) _;rw[sz];obtain⟨oi,ei,ri⟩:=i5;obtain⟨oj,ej,rj⟩:=j5;exact fin w8 z8 (up _ _ D.bz b5) ⟨oi,up _ oi D.iz ei,ri⟩ ⟨oj,up _ oj D.jz ej,rj⟩ t8 λc o c1 c2 c3 c4 e=>up c o c1 (k5 c o c1 c2 c3 c4 e)
theorem VP{z i j t1 t2:Addr}{k1 k2:Nat}{xs ys:Array Value}{p q:Value}{Q:Fin→Shared→Prop}(hh:A.handled=none)(D:ZA z a b i j)(n1:t1≠z∧t1≠b∧t1≠i∧t1≠j)(n2:t2≠z∧t2≠b∧t2≠i∧t2≠j)
 (hz:IsZip s.heap z a b .none) (ha:IsPair s.heap a (.ref i) (.ref j)) (hb:IsPair s.heap b p q) (h1:s.heap.IsTupleIter i t1 k1) (h2:s.heap.IsTupleIter j t2 k2) (g1:s.heap.IsTuple t1 xs) (g2:s.heap.IsTuple t2 ys) (hend:xs[k1]?=none∨ys[k2]?=none)
 (fin:∀g e,(∀c o,c≠z→c≠b→c≠i→c≠j→s.heap.get? c=some o→g.get? c=some o)→(∃o,g.get? e=some o∧o.cls= .type "StopIteration")→E (.ref e) {s with heap:=g}):
 wpAny (model prog w) A (Builtin.«zip.__next__» ⟨[.ref z],[]⟩) Q E s:=by
 show wpAny _ _ (field (.ref z) 2>>=_) _ _ _;refine Aa (AO hz rfl (x:= .bool false) rfl ?_);show wpAny _ _ (field (.ref z) 3>>=_) _ _ _;refine Aa (AO hz rfl (x:= .ref a) rfl ?_);refine Aa (AQ ha rfl ?_);show wpAny _ _ (BC (.ref z)>>=_) _ _ _;refine Aa ?_;unfold BC;refine Aa (AO hz rfl (x:= .none) rfl (Ac ?_));simp only[if_true];refine Aa (BJ ?_);refine Aa (AO hz rfl (x:= .ref b) rfl ?_);refine Aa (BG hz (by simp) λw1 z1 m1=>?_)
 replace z1:IsZip w1 z a b .ellipsis:=z1
 refine Aa ?_;simp only[List.zipIdx_cons,List.zipIdx_nil,F6,FU];refine Aa (Aa (EJ ?_));show wpAny _ _ (AR (.ref i)>>=_) _ _ _;cases hx:xs[k1]? with
 | none=>
  refine Aa (Ry hh (h1.extBut m1.extBut D.iz) (KS g1 m1 n1.1) hx λw2 e m2 he=>?_);obtain⟨oe,e1,e2⟩:=he;have z2:IsZip w2 z a b .ellipsis:=m2 _ _ D.iz.symm z1;have ez:e≠z:=λu=>by subst u;rw[z2] at e1;cases e1;simp at e2
  exact BG z2 (by simp) λw3 _ m3=>fin w3 e (λc o c1 _ c3 _ u=>m3.extBut _ _ c1 (m2 _ _ c3 (m1.extBut _ _ c1 u))) ⟨oe,m3.extBut _ _ ez e1,e2⟩
 | some x=>
  have hy:ys[k2]?=none:=by
   rcases hend with u | u
   · rw[hx] at u;cases u
   · exact u
  refine Aa (OO (h1.extBut m1.extBut D.iz) (KS g1 m1 n1.1) hx λw2 i2 m2=>Ac ?_);have b2:IsPair w2 b p q:=m2.extBut _ _ D.bi (m1.extBut _ _ D.bz hb);refine Aa (AQ b2 rfl ?_);refine Aa (Eh b2 λw3 b3 m3=>?_);refine Aa (Cg (Ac ?_));refine Aa (Aa (EJ ?_));show wpAny _ _ (AR (.ref j)>>=_) _ _ _;refine Aa (Ry hh (((h2.extBut m1.extBut D.jz).extBut m2.extBut D.ij.symm).extBut m3.extBut D.bj.symm) (KS (KS (KS g2 m1 n2.1) m2 n2.2.2.1) m3 n2.2.1) hy λw4 e m4 he=>?_);obtain⟨oe,e1,e2⟩:=he;have z4:IsZip w4 z a b .ellipsis:=m4 _ _ D.jz.symm (m3.extBut _ _ D.bz.symm (m2.extBut _ _ D.iz.symm z1));have ez:e≠z:=λu=>by subst u;rw[z4] at e1;cases e1;simp at e2
  exact BG z4 (by simp) λw5 _ m5=>fin w5 e (λc o c1 c2 c3 c4 u=>m5.extBut _ _ c1 (m4 _ _ c4 (m3.extBut _ _ c2 (m2.extBut _ _ c3 (m1.extBut _ _ c1 u))))) ⟨oe,m5.extBut _ _ ez e1,e2⟩
section
variable{h':Heap}
theorem Inv.newTup{T:Addr}{x y:V}{t':Nat}(I:Inv X pins σ H s)(ch:List Addr)(hch:∀c∈ch,HS X pins H c)(keep:∀c o,c ∉ ch→s.heap.get? c=some o→h'.get? c=some o)(hT:s.heap.objs.size≤T)
 (tup:∃its:List Value,Vals [x,y] its∧IsTupP h' T its.toArray):Inv X pins σ (HI H T (.tup [x,y])) {s with heap:=h',toks:=t'}:=by
 have hn:H T=none:=I.hok.fresh hT;have neT:∀c o,s.heap.get? c=some o→c≠T:=λc o e=>Aq (AE (Ai e) hT);have off:∀c u,H c=some u→c ∉ ch:=λc u e z=>by rw[(hch c z).1] at e;cases e
 refine I.step (g':=s.gens) (d':=s.drawn) (ch:=ch) (λc hc=>⟨(hch c hc).2.2.2.1,(hch c hc).2.1,(hch c hc).2.2.2.2.1,(hch c hc).2.2.2.2.2⟩) (λc o _ _ hc e _=>keep c o hc e) (λc o _ _ hc e _=>⟨o.slots,keep c o hc e⟩)
  (λc o _ e n=>by rw[Ij (neT c o e)];exact n) (λc o hc e=>⟨o,keep c o hc e⟩) (λc xs e=>by rw[Ij (J8 e hn)];exact e) (λc o u e=>by rw[Ij (J8 e hn)];exact e)
  (λc ps e=>⟨#[],by rw[Ij (J8 e hn),e];simp⟩) (λm hm=>?_) (λc u e=>?_) I.bare
 · obtain⟨o,es,ep,ho,r⟩:=hm;exact⟨o,es,ep,keep _ o (λz=>(hch _ z).2.1 rfl) ho,r⟩
 · by_cases hc:c=T
   · subst hc;rw[HK] at e;cases e;obtain⟨its,r,p⟩:=tup;exact⟨by show 2≤Au;decide,its,r,p⟩
   · rw[Ij hc] at e;refine(I.hok c u e).stay (λd v hd q=>keep d v ?_ q) (λd q=>by rw[Ij (J8 q hn)];exact q) λd xs q=>by rw[Ij (J8 q hn)];exact q
     rcases hd with z | z
     · rw[z];exact off c u e
     · exact off d _ z
theorem Inv.turnedN{t':Nat}(I:Inv X pins σ H s)(ch:List Addr)(hch:∀c∈ch,HS X pins H c)(keep:∀c o,c ∉ ch→s.heap.get? c=some o→h'.get? c=some o):Inv X pins σ H {s with heap:=h',toks:=t'}:=by
 have off:∀c u,H c=some u→c ∉ ch:=λc u e z=>by rw[(hch c z).1] at e;cases e
 refine I.step (g':=s.gens) (d':=s.drawn) (ch:=ch) (λc hc=>⟨(hch c hc).2.2.2.1,(hch c hc).2.1,(hch c hc).2.2.2.2.1,(hch c hc).2.2.2.2.2⟩) (λc o _ _ hc e _=>keep c o hc e) (λc o _ _ hc e _=>⟨o.slots,keep c o hc e⟩)
  (λc o _ e n=>n) (λc o hc e=>⟨o,keep c o hc e⟩) (λc xs e=>e) (λc o u e=>e) (λc ps e=>⟨#[],by rw[e];simp⟩) (λm hm=>?_) (λc u e=>?_) I.bare
 · obtain⟨o,es,ep,ho,r⟩:=hm;exact⟨o,es,ep,keep _ o (λz=>(hch _ z).2.1 rfl) ho,r⟩
 · refine(I.hok c u e).stay (λd v hd q=>keep d v ?_ q) (λ_ q=>q) λ_ _ q=>q;rcases hd with z | z
   · rw[z];exact off c u e
   · exact off d _ z
theorem JJ{t c:Addr}(I:Inv X pins σ H s)(h:SqT X.K H t xs)(f:HS X pins H c):t≠c:=by
 intro e;subst e;rcases h with(h | ⟨o,h⟩) | ⟨o,its,n,hk,_⟩
 · rw[f.1] at h;cases h
 · rw[f.1] at h;cases h
 · have eb:=I.ok.mod.kin t o hk;rcases f.2.2.2.1 with z | z
   · exact I.ok.noex t o eb z
   · exact absurd (AE (Ai eb) (AL I.ok.bsz z)) (C3 _)
end
def O0(K:Ao)(t1 t2:Addr):It:=
 ⟨λk H=>∃(xs ys:List V)(x y:V),SqT K H t1 xs∧SqT K H t2 ys∧xs[k]?=some x∧ys[k]?=some y,
  λk H v H'=>∃p,v= .ref p∧H p=none∧∀(xs ys:List V)(x y:V),SqT K H t1 xs→SqT K H t2 ys→xs[k]?=some x→ys[k]?=some y→H'=HI H p (.tup [x,y]),
  λk H=>∃(xs ys:List V),SqT K H t1 xs∧SqT K H t2 ys∧(xs.length≤k∨ys.length≤k)⟩
theorem Xf{P:Bv}{w:World}{K:Ao}{es:List Expr}{kk:Nat}{pos:Pos}(t1 t2 z a b i j:Addr)(D:ZA z a b i j):
 Turn P w K (.Tuple es kk pos) (O0 K t1 t2) [z,a,b,i,j] z (λk h=>IsZip h z a b .none∧IsPair h a (.ref i) (.ref j)∧(∃p q,IsPair h b p q)∧h.IsTupleIter i t1 k∧h.IsTupleIter j t2 k) where
 mem:=by simp
 obj:=λk h st c hc=>by
  obtain⟨hz,ha,⟨p,q,hb⟩,⟨oi,ei,_,di⟩,⟨oj,ej,_,dj⟩⟩:=st;simp only[Ak,AC,or_false] at hc;rcases hc with rfl | rfl | rfl | rfl | rfl
  · exact⟨_,hz,λv e=>by cases e⟩
  · exact⟨_,ha,λv e=>by cases e⟩
  · exact⟨_,hb,λv e=>by cases e⟩
  · exact⟨oi,ei,λv e=>by rw[di] at e;cases e⟩
  · exact⟨oj,ej,λv e=>by rw[dj] at e;cases e⟩
 keep:=λk h h' st kp=>by obtain⟨hz,ha,⟨p,q,hb⟩,⟨oi,ei,ri⟩,⟨oj,ej,rj⟩⟩:=st;exact⟨kp z (by simp) _ hz,kp a (by simp) _ ha,⟨p,q,kp b (by simp) _ hb⟩,⟨oi,kp i (by simp) _ ei,ri⟩,⟨oj,kp j (by simp) _ ej,rj⟩⟩
 item:=by
  intro X hP hw hK hc k pins s σ H E I hf st hg;subst hP hw hK;obtain⟨xs,ys,x,y,q1,q2,hx,hy⟩:=hg;obtain⟨hz,ha,⟨p,q,hb⟩,h1,h2⟩:=st;obtain⟨its1,r1,g1,_⟩:=I.tuple q1;obtain⟨its2,r2,g2,_⟩:=I.tuple q2;obtain⟨u1,hu1,v1⟩:=r1.get hx;obtain⟨u2,hu2,v2⟩:=r2.get hy;have fz:=hf z (by simp);have fb:=hf b (by simp);have fi:=hf i (by simp);have fj:=hf j (by simp);have hT:s.TypeIs (.ref z) "zip":=⟨_,hz,rfl⟩;unfold pyNext;refine Aa (Dt (AT (name:=Cf "__next__") hT Di (AW Di hT FL
   (Wy D ⟨JJ I q1 fz,JJ I q1 fb,JJ I q1 fi,JJ I q1 fj⟩ ⟨JJ I q2 fz,JJ I q2 fb,JJ I q2 fi,JJ I q2 fj⟩ hz ha hb h1 h2 g1 g2 (by simpa using hu1) (by simpa using hu2) λg a1 a2 a3 a4 a5 a6=>Ac ?_) (Ft _))))
  refine⟨_,rfl,Fa a1 λg' z' m'=>?_⟩;have zT:z≠s.heap.objs.size:=Aq (Ai hz);have up:∀c o,c≠z→g.get? c=some o→g'.get? c=some o:=λc o hc e=>m'.extBut c o hc e;have fr:H s.heap.objs.size=none:=I.hok.fresh (Ag _);have I1:Inv X pins σ (HI H s.heap.objs.size (.tup [x,y])) {s with heap:=g'}:=by
   refine I.newTup (t':=s.toks) [z,b,i,j] (λc hc=>?_) (λc o hc e=>?_) (Ag _) ⟨[u1,u2],.cons v1 (.cons v2 .nil),_,up _ _ zT.symm a5,rfl,rfl,_,rfl⟩
   · simp only[Ak,AC,or_false] at hc;rcases hc with rfl | rfl | rfl | rfl
     · exact fz
     · exact fb
     · exact fi
     · exact fj
   · simp only[Ak,AC,or_false,not_or] at hc;exact up c o hc.1 (a6 c o hc.1 hc.2.1 hc.2.2.1 hc.2.2.2 e)
  obtain⟨oi,ei,ri⟩:=a3;obtain⟨oj,ej,rj⟩:=a4;refine⟨.ref s.heap.objs.size,_,I1,rfl,⟨_,rfl,fr,λxs' ys' x' y' s1 s2 e1 e2=>?_⟩,⟨z',up _ _ D.az (a6 a _ D.az D.ab D.ai D.aj ha),⟨_,_,up _ _ D.bz a2⟩,⟨oi,up _ _ D.iz ei,ri⟩,⟨oj,up _ _ D.jz ej,rj⟩⟩,λc hc=>?_⟩
  · rw[I.tuple_inj s1 q1,hx] at e1;rw[I.tuple_inj s2 q2,hy] at e2;cases e1;cases e2;rfl
  · have fc:=hf c hc;have:c≠s.heap.objs.size:=by
     simp only[Ak,AC,or_false] at hc;obtain⟨oi',ei',_⟩:=h1;obtain⟨oj',ej',_⟩:=h2;rcases hc with rfl | rfl | rfl | rfl | rfl
     · exact zT
     · exact Aq (Ai ha)
     · exact Aq (Ai hb)
     · exact Aq (Ai ei')
     · exact Aq (Ai ej')
    rw[Ij this];exact fc.1
 done:=by
  intro X hP hw hK hc k pins s σ H E I hf st hg;subst hP hw hK;obtain⟨xs,ys,q1,q2,hend⟩:=hg;obtain⟨hz,ha,⟨p,q,hb⟩,h1,h2⟩:=st;obtain⟨its1,r1,g1,_⟩:=I.tuple q1;obtain⟨its2,r2,g2,_⟩:=I.tuple q2;have l1:=r1.length;have l2:=r2.length;have fz:=hf z (by simp);have fb:=hf b (by simp);have fi:=hf i (by simp);have fj:=hf j (by simp);have hT:s.TypeIs (.ref z) "zip":=⟨_,hz,rfl⟩;unfold pyNext;refine Aa (Dt (AT (name:=Cf "__next__") hT Di (AW Di hT FL
   (VP (I.ok.hd hc) D ⟨JJ I q1 fz,JJ I q1 fb,JJ I q1 fi,JJ I q1 fj⟩ ⟨JJ I q2 fz,JJ I q2 fb,JJ I q2 fi,JJ I q2 fj⟩ hz ha hb h1 h2 g1 g2 ?_ λg e kp he=>?_) (Ft _))))
  · rcases hend with u | u
    · exact .inl (by simp;omega)
    · exact .inr (by simp;omega)
  · obtain⟨o,ho,hcl⟩:=he;refine Aa (Dn (T:="StopIteration") (b:=true) ⟨o,ho,hcl⟩ isSubtype_stop ?_);refine Ac ⟨rfl,I.turnedN (t':=s.toks) [z,b,i,j] (λc hc=>?_) (λc o hc e=>?_)⟩
    · simp only[Ak,AC,or_false] at hc;rcases hc with rfl | rfl | rfl | rfl
      · exact fz
      · exact fb
      · exact fi
      · exact fj
    · simp only[Ak,AC,or_false,not_or] at hc;exact kp c o hc.1 hc.2.1 hc.2.2.1 hc.2.2.2 e
 self:=λ_ _ _ _ _ st h=>DW st.1 h
abbrev LA(h:Heap)(t:Addr):Heap:=h.push {cls:= .type "tuple_iterator",data:= .fields #[.ref t,.int 0 0]}
abbrev L9(h:Heap)(t u:Addr):Heap:=(LA h t).push {cls:= .type "tuple_iterator",data:= .fields #[.ref u,.int 0 0]}
abbrev L8(h:Heap)(t u:Addr):Heap:=(L9 h t u).push {cls:= .type "tuple",data:= .seq #[.ref h.objs.size,.ref (LA h t).objs.size]}
abbrev LX(h:Heap)(t u:Addr):Heap:=(L8 h t u).push {cls:= .type "tuple",data:= .seq #[.none,.none]}
abbrev Lh(h:Heap)(t u:Addr):Heap:=(LX h t u).push {cls:= .type "zip",data:= .fields #[.none,.bool false,.bool false,.ref (L9 h t u).objs.size,.ref (L8 h t u).objs.size]}
theorem VQ(t u:Addr)(xs ys:Array Value):Meets (Builtin.«zip.__new__» ⟨[.type "zip",.ref t,.ref u],[]⟩) (λ_ R s=>s.heap.IsTuple t xs∧s.heap.IsTuple u ys∧
 R (.ok (.ret (.ref (LX s.heap t u).objs.size))) {s with heap:=Lh s.heap t u}):=
 .of_wp λprog w A R s h=>by
  obtain⟨hp,g,d,tk,os⟩:=s;obtain⟨g1,g2,h⟩:=h;have f0:=sub_zip;have f1:Heap.IsTuple (Shared.heap ⟨hp,g,d,tk,os⟩) t xs:=g1;have f2:Heap.IsTuple (Shared.heap ⟨hp.push {cls:= .type "tuple_iterator",data:= .fields #[.ref t,.int 0 0]},g,d,tk,os⟩) u ys:=EV g2 _
  wp_walk using C6 f1,C6 f2
  exact⟨_,rfl,h⟩
theorem Rt:AV "zip"=some (.type "zip"):=by decide+kernel
def QD(K:Ao)(ta:TA):TI:=λσ H R=>ta σ H λvs H1=>∃t u,vs=[.ref t,.ref u]∧(∃xs,SqT K H1 t xs)∧(∃ys,SqT K H1 u ys)∧R (O0 K t u) H1
theorem Wb{es:List Expr}{kk:Nat}{tpos:Pos}{a b:Expr}{ta:TA}{p pos:Pos}(hg:Gl X "zip")(hm:X.mg "zip"=none)(ha:PA X [a,b] ta)
 (he:AD [a,b] X.env=(false,eval a X.env)::AD [b] X.env:=by rfl) (hpl:(backTo pos (AD [b] X.env)).any (·.1)=false:=by rfl):
 PI X (.Tuple es kk tpos) (.Call (.Name "zip" p) [a,b] [] pos) (QD X.K ta):=by
 intro pins s σ H R I h;refine BQ (Ky I hg hm Rt ?_ (by decide) (by decide));refine BK (HN (ha pos pins s σ H _ I h) λus s1 ⟨vs,H1,I1,r1,t,u,e,⟨xs,q1⟩,⟨ys,q2⟩,q⟩=>?_) he hpl;subst e;obtain⟨u1,u2,rfl,v1,v2⟩:=LZ r1;cases v1;cases v2;obtain⟨its1,rv1,g1,_⟩:=I1.tuple q1;obtain⟨its2,rv2,g2,_⟩:=I1.tuple q2;refine callType_new PySem.F.called_zip (by decide) (PySem.F.typeCall_zip_2 _ _) (PySem.F.newCall_zip_2 _ _) (λobj=>PySem.F.args_object_init_3 obj _ _) PySem.F.entry_zip_new (VQ t u its1.toArray its2.toArray) ⟨g1,g2,?_⟩;have y1:(LA s1.heap t).objs.size=s1.heap.objs.size+1:=Bj ..;have y2:(L9 s1.heap t u).objs.size=s1.heap.objs.size+2:=by rw[Bj,y1]
 have y3:(L8 s1.heap t u).objs.size=s1.heap.objs.size+3:=by rw[Bj,y2]
 have y4:(LX s1.heap t u).objs.size=s1.heap.objs.size+4:=by rw[Bj,y3]
 have k5:∀c o,s1.heap.get? c=some o→(Lh s1.heap t u).get? c=some o:=λc o e=>Ad _ (Ad _ (Ad _ (Ad _ (Ad _ e))));have e5:(Lh s1.heap t u).get? (LX s1.heap t u).objs.size=some _:=Am _ rfl;have e4:(Lh s1.heap t u).get? (L8 s1.heap t u).objs.size=some _:=Ad _ (Am _ rfl);have e3:(Lh s1.heap t u).get? (L9 s1.heap t u).objs.size=some _:=Ad _ (Ad _ (Am _ rfl));have e2:(Lh s1.heap t u).get? (LA s1.heap t).objs.size=some _:=Ad _ (Ad _ (Ad _ (Am _ rfl)));have e1:(Lh s1.heap t u).get? s1.heap.objs.size=some _:=Ad _ (Ad _ (Ad _ (Ad _ (Am _ rfl))));have I2:Inv X pins σ H1 {s1 with heap:=Lh s1.heap t u}:=I1.kept (t':=s1.toks) k5
 have fp:∀c,s1.heap.objs.size≤c→HS X pins H1 c:=λc hc=>I1.fpOk hc (I1.hok.fresh hc);have D:ZA (LX s1.heap t u).objs.size (L9 s1.heap t u).objs.size (L8 s1.heap t u).objs.size s1.heap.objs.size (LA s1.heap t).objs.size:=by
  have n4:(L8 s1.heap t u).objs.size<(LX s1.heap t u).objs.size:=by rw[y3,y4];exact Cc _
  have n3:(L9 s1.heap t u).objs.size<(L8 s1.heap t u).objs.size:=by rw[y2,y3];exact Cc _
  have n2:(LA s1.heap t).objs.size<(L9 s1.heap t u).objs.size:=by rw[y1,y2];exact Cc _
  have n1:s1.heap.objs.size<(LA s1.heap t).objs.size:=by rw[y1];exact Cc _
  exact⟨Aq (BW n3 n4),Aq n4,Aq (BW n1 (BW n2 (BW n3 n4))),Aq (BW n2 (BW n3 n4)),Aq n3,C1 (BW n1 n2),C1 n2,
   C1 (BW n1 (BW n2 n3)),C1 (BW n2 n3),Aq n1⟩
 refine⟨⟨_,e5,rfl⟩,DW e5 ?_⟩;refine⟨_,_,_,_,H1,rfl,I2,Xf t u _ _ _ _ _ D,⟨e5,e3,⟨_,_,e4⟩,⟨_,e1,rfl,rfl⟩,⟨_,e2,rfl,rfl⟩⟩,λc hc=>fp c ?_,q⟩;simp only[Ak,AC,or_false] at hc;rcases hc with rfl | rfl | rfl | rfl | rfl
 · rw[y4];exact CZ _ _
 · rw[y2];exact CZ _ _
 · rw[y3];exact CZ _ _
 · exact Ag _
 · rw[y1];exact CZ _ _
section
variable{tg iter kx vx:Expr}{ifs:List Expr}{wi:TI}{js:IT}{g:TG}{tc:TT}{tk tv:TE}{N':List Str}
end
theorem WN{t sl:Addr}{items:Array Value}{vl vu:Value}{lo hi:Option Int}{Q:Value→Shared→Prop}(ht:IsTup s.heap t items)(hs:s.heap.IsSliceOf sl vl vu .none)(pl:IsPart vl lo)(pu:IsPart vu hi)
 (h0:HT.sIx items.size 0 lo=0) (h1:HT.sIx items.size items.size hi=items.size) (h:Q (.ref t) s):wpAny (model prog w) A (getItem (.ref t) (.ref sl)) Q E s:=by
 obtain⟨os,hos,hcs,hds⟩:=id hs;have hTs:s.TypeIs (.ref sl) "slice":=⟨os,hos,hcs⟩;unfold getItem
 try with_reducible refine AS ?_
 first | refine Aa (Ac ?_) | skip
 refine Aa (ES ht.typeIs (by decide) ?_);refine Aa (AT (name:=Cf "__getitem__") ht.typeIs BL
  (AW BL ht.typeIs PySem.F.entry_tuple_getitem ?_ (PySem.F.args_tuple_getitem_2 _ _)))
 show wpAny _ _ (EG (.ref t)>>=_) _ _ s;refine Aa (tupleItemsOf_ ht ?_);refine Aa (Co hTs ?_);rw[if_pos (by decide)];refine Aa (HT.sliceApplied_gen hs pl pu ?_);have yes:((((HT.sIx items.size 0 lo:Nat):Int)==0 && (1:Int)==1 && (HT.sIx items.size items.size hi - HT.sIx items.size 0 lo)==items.size)=true):=by rw[h0,h1];simp
 show wpAny _ _ (if(((HT.sIx items.size 0 lo:Nat):Int)==0 && (1:Int)==1 && (HT.sIx items.size items.size hi - HT.sIx items.size 0 lo)==items.size)=true then _ else _) _ _ s
 rw[if_pos yes];unfold Builtin.Tuple.tupleIsExact;refine Aa (Aa (Co ht.typeIs (Ac ?_)));rw[if_pos (by decide)];exact Aa (BJ (Ac ⟨_,rfl,Ac h⟩))
def MX(K:Ao):V→Option Int→Option Int→Hp→VK→Prop:=λx lo hi H Q=>∃a xs,x= .ref a∧SqT K H a xs∧
 (HT.sIx xs.length 0 lo=0∧HT.sIx xs.length xs.length hi=xs.length→Q (.ref a) H)∧
 (¬(HT.sIx xs.length 0 lo=0∧HT.sIx xs.length xs.length hi=xs.length)→∀p,H p=none→Q (.ref p) (HI H p (.tup (II xs lo hi))))
theorem RU:Mv X (MX X.K):=by
 intro pins s σ H x v vl vu lo hi sl Q I rx hs pl pu h;obtain⟨a,xs,rfl,hx,q1,q2⟩:=h;by_cases hw:HT.sIx xs.length 0 lo=0∧HT.sIx xs.length xs.length hi=xs.length
 · cases rx;obtain⟨its,r,ht,hz⟩:=I.tuple hx;have hlen:its.toArray.size=xs.length:=by rw[Ax];exact r.length.symm
   refine⟨"tuple",_,BL.lookup,ht.typeIs,?_⟩;exact WN ht hs pl pu (by rw[hlen];exact hw.1) (by rw[hlen];exact hw.2) ⟨.ref a,H,I,rfl,q1 hw⟩
 · exact VI pins s σ H (.ref a) v vl vu lo hi sl Q I rx hs pl pu ⟨a,xs,rfl,hx,hw,q2 hw⟩
theorem Wt{Q:VK}(h:SqT K H a xs)(q:∀p H',Same H H'→SqT K H' p (xs.drop 1)→Q (.ref p) H'):MX K (.ref a) (some 1) none H Q:=by
 have e0:HT.sIx xs.length 0 (some 1)=min 1 xs.length:=HT.sIx_nat _ _ 1;refine⟨a,xs,rfl,h,λhw=>?_,λhw p hp=>?_⟩
 · rw[e0] at hw;have hl:xs.length=0:=by omega
   have hx:xs=[]:=CG.mp hl;subst hx;exact q a H (Same.refl _) h
 · refine q p _ (HU hp _) (SqT.of ?_);rw[HK];unfold II;rw[e0,show HT.sIx xs.length xs.length none=xs.length from rfl];cases xs with
   | nil=>rfl
   | cons x r=>
    have e1:min 1 (x::r).length=1:=by rw[AF];omega
    rw[e1];congr 2;rw[AF,Nat.add_sub_cancel];exact Ar (by simp)
theorem Mn(K:Ao)(h:X.K=K):Nz X (MZ K):=by subst h;exact JA
theorem Mi(K:Ao)(h:X.K=K){es:List Expr}{k:Nat}{t:L7}{n:Nat}{pos:Pos}(hc:X.calm=true)(hg:Nw X es t)
 (hn:(assignEach es X.env).length=n:=by rfl) (hst:(assignEach es X.env).findIdx? (·.1)=none:=by rfl):PG X (.Tuple es k pos) (Nt K n t):=by subst h;exact JI hc hg hn hst
theorem UQ{K:Ao}{t1 t2 p:Addr}{ys:List V}{g:TG}{tc:TT}{te:TE}{Q:VK}{js:IT}(h1:n≤xs.length)(h2:n≤ys.length)(h3:xs.length≤n∨ys.length≤n)(Pv:Nat→St→List V→Hp→Prop)(h0:Pv 0 (Jo js σ) [] (HI H p (.lst [])))
 (hl:∀i σ zs H,i≤n→Pv i σ zs H→SqT K H t1 xs∧SqT K H t2 ys∧H p=some (.lst zs)∧zs.length<Au)
 (hs:∀(i:Nat)x y σ zs H q(N:St→List V→Hp→Prop),xs[i]?=some x→ys[i]?=some y→H q=none→Pv i σ zs H→(∀σ' ys' H',Pv (i+1) σ' ys' H'→N σ' ys' H')→LF p g tc te zs (.ref q) σ (HI H q (.tup [x,y])) N)
 (hd:∀σ zs H,Pv n σ zs H→Q (.ref p) H):Kl (O0 K t1 t2) p js g tc te σ H Q:=
 Mc (n:=n) (J:=O0 K t1 t2) (js:=js) (σ:=σ) (H:=H) (p:=p) (Q:=Q) (g:=g) (tc:=tc) (te:=te) Pv h0 (λi σ zs H hi pv=>(hl i σ zs H hi pv).2.2)
  (λi σ zs H hi pv=>⟨xs,ys,xs[i],ys[i],(hl i σ zs H (AZ hi) pv).1,(hl i σ zs H (AZ hi) pv).2.1,by simp,by simp⟩)
  (λσ zs H pv=>⟨xs,ys,(hl _ σ zs H (Ag _) pv).1,(hl _ σ zs H (Ag _) pv).2.1,h3⟩)
  (λi v σ zs H H' N hi y pv hN=>by
   obtain⟨q,e,hq,y⟩:=y;subst e;have ex:xs[i]?=some xs[i]:=by simp
   have ey:ys[i]?=some ys[i]:=by simp
   have e2:=y xs ys _ _ (hl i σ zs H (AZ hi) pv).1 (hl i σ zs H (AZ hi) pv).2.1 ex ey;subst e2;exact hs i _ _ σ zs H q N ex ey hq pv hN) hd
section
variable{h':Heap}
theorem Lp{t c:Addr}(I:Inv X pins σ H s)(h:SqL X.K H t xs)(f:HS X pins H c):t≠c:=by
 intro e;subst e;rcases h with(h | ⟨o,h⟩) | ⟨o,its,n,hk,_⟩
 · rw[f.1] at h;cases h
 · rw[f.1] at h;cases h
 · have eb:=I.ok.mod.kin t o hk;rcases f.2.2.2.1 with z | z
   · exact I.ok.noex t o eb z
   · exact absurd (AE (Ai eb) (AL I.ok.bsz z)) (C3 _)
end
def NA(K:Ao)(a:Addr):It:=
 ⟨λk H=>∃(xs:List V)(x:V),SqL K H a xs∧xs[k]?=some x,
  λk H v H'=>∃p,v= .ref p∧H p=none∧∀(xs:List V)(x:V),SqL K H a xs→xs[k]?=some x→H'=HI H p (.tup [.int k,x]),
  λk H=>∃(xs:List V),SqL K H a xs∧xs.length≤k⟩
theorem Yt{P:Bv}{w:World}{K:Ao}{es:List Expr}{kk:Nat}{pos:Pos}(a e it:Addr)(D:e≠it):
 Turn P w K (.Tuple es kk pos) (NA K a) [e,it] e (λk h=>(∃old,IsEnum h e it k old)∧h.IsListIter it a k) where
 mem:=by simp
 obj:=λk h st c hc=>by
  obtain⟨⟨old,hz⟩,⟨oi,ei,_,di⟩⟩:=st;simp only[Ak,AC,or_false] at hc;rcases hc with rfl | rfl
  · exact⟨_,hz,λv e=>by cases e⟩
  · exact⟨oi,ei,λv e=>by rw[di] at e;cases e⟩
 keep:=λk h h' st kp=>by obtain⟨⟨old,hz⟩,⟨oi,ei,ri⟩⟩:=st;exact⟨⟨old,kp e (by simp) _ hz⟩,⟨oi,kp it (by simp) _ ei,ri⟩⟩
 item:=by
  intro X hP hw hK hc k pins s σ H E I hf st hg;subst hP hw hK;obtain⟨xs,x,q1,hx⟩:=hg;obtain⟨⟨old,hz⟩,h1⟩:=st;obtain⟨its1,r1,g1,_⟩:=I.list q1;obtain⟨u1,hu1,v1⟩:=r1.get hx;have fz:=hf e (by simp);have fi:=hf it (by simp);refine wpAny_pyNext_enum_item hz h1 g1.isList (by simpa using hu1) D λg a1 a2 a3 a4 a5=>?_;refine⟨_,rfl,EK a1 λg' z' m'=>?_⟩;have zT:e≠s.heap.objs.size:=Aq (Ai hz);have up:∀c o,c≠e→g.get? c=some o→g'.get? c=some o:=λc o hc e=>m'.extBut c o hc e;have fr:H s.heap.objs.size=none:=I.hok.fresh (Ag _);have I1:Inv X pins σ (HI H s.heap.objs.size (.tup [.int k,x])) {s with heap:=g',toks:=s.toks+1}:=by
   refine I.newTup (t':=s.toks+1) [e,it] (λc hc=>?_) (λc o hc e=>?_) (Ag _) ⟨[.int k s.toks,u1],.cons ⟨_,rfl⟩ (.cons v1 .nil),_,up _ _ zT.symm a3,rfl,rfl,_,rfl⟩
   · simp only[Ak,AC,or_false] at hc;rcases hc with rfl | rfl
     · exact fz
     · exact fi
   · simp only[Ak,AC,or_false,not_or] at hc;exact up c o hc.1 (a5 c o hc.1 hc.2 e)
  obtain⟨oi,ei,ri⟩:=a2;refine⟨.ref s.heap.objs.size,_,I1,rfl,⟨_,rfl,fr,λxs' x' s1 e1=>?_⟩,⟨⟨_,z'⟩,⟨oi,up _ _ D.symm ei,ri⟩⟩,λc hc=>?_⟩
  · rw[I.list_inj s1 q1,hx] at e1;cases e1;rfl
  · have fc:=hf c hc;have:c≠s.heap.objs.size:=by
     simp only[Ak,AC,or_false] at hc;obtain⟨oi',ei',_⟩:=h1;rcases hc with rfl | rfl
     · exact zT
     · exact Aq (Ai ei')
    rw[Ij this];exact fc.1
 done:=by
  intro X hP hw hK hc k pins s σ H E I hf st hg;subst hP hw hK;obtain⟨xs,q1,hend⟩:=hg;obtain⟨⟨old,hz⟩,h1⟩:=st;obtain⟨its1,r1,g1,_⟩:=I.list q1;have l1:=r1.length;refine wpAny_pyNext_enum_end (I.ok.hd hc) hz h1 g1.isList (by simp;omega) λg kp=>?_;refine⟨rfl,I.turnedN (t':=s.toks) [it] (λc hc=>?_) (λc o hc e=>?_)⟩
  · simp only[Ak,AC,or_false] at hc;subst hc;exact hf c (by simp)
  · simp only[Ak,AC,or_false] at hc;exact kp c o hc e
 self:=λ_ _ _ _ _ st h=>by obtain⟨⟨old,hz⟩,_⟩:=st;exact DJ hz h
theorem Ul:AV "enumerate"=some (.type "enumerate"):=by decide+kernel
def UX(K:Ao)(ta:TA):TI:=λσ H R=>ta σ H λvs H1=>∃t,vs=[.ref t]∧(∃xs,SqL K H1 t xs)∧R (NA K t) H1
theorem V8{es:List Expr}{kk:Nat}{tpos:Pos}{a:Expr}{ta:TA}{p pos:Pos}(hg:Gl X "enumerate")(hm:X.mg "enumerate"=none)(ha:PA X [a] ta)
 (he:AD [a] X.env=(false,eval a X.env)::AD [] X.env:=by rfl) (hpl:(backTo pos (AD [] X.env)).any (·.1)=false:=by rfl):
 PI X (.Tuple es kk tpos) (.Call (.Name "enumerate" p) [a] [] pos) (UX X.K ta):=by
 intro pins s σ H R I h;refine BQ (Ky I hg hm Ul ?_ (by decide) (by decide));refine BK (HN (ha pos pins s σ H _ I h) λus s1 ⟨vs,H1,I1,r1,t,e,⟨xs,q1⟩,q⟩=>?_) he hpl;subst e;obtain⟨u1,rfl,v1⟩:=J6 r1;cases v1;obtain⟨its1,rv1,⟨o,n,g0,g1,g2,g3⟩,_⟩:=I1.list q1;obtain⟨oc,od,odat,osl⟩:=o;cases g1;cases g2;cases g3;refine callType_new Fj (by decide) (Es _) (E6 _) (λobj=>EL obj _) E7 (meets_enumerate_newL t its1.toArray n none osl) ⟨g0,?_⟩;generalize hh5:((s1.heap.push {cls:= .type "list_iterator",data:= .fields #[.ref t,.int 0 0]}).push {cls:= .type "enumerate",data:= .fields #[.none,.bool false,.ref s1.heap.objs.size,rawInt 0,.none,.none]})=h5;have y1:(s1.heap.push {cls:= .type "list_iterator",data:= .fields #[.ref t,.int 0 0]}).objs.size=s1.heap.objs.size+1:=Bj ..;have k5:∀c o,s1.heap.get? c=some o→h5.get? c=some o:=λc o e=>by rw[←hh5];exact Ad _ (Ad _ e)
 have e5:IsEnum h5 (s1.heap.objs.size+1) s1.heap.objs.size 0 .none:=by have:=Am (s1.heap.push {cls:= .type "list_iterator",data:= .fields #[.ref t,.int 0 0]}) (o:={cls:= .type "enumerate",data:= .fields #[.none,.bool false,.ref s1.heap.objs.size,rawInt 0,.none,.none]}) rfl;rw[y1,hh5] at this;exact this
 have e1:h5.IsListIter s1.heap.objs.size t 0:=by rw[←hh5];exact⟨_,Ad _ (Am _ rfl),rfl,rfl⟩
 have I2:Inv X pins σ H1 {s1 with heap:=h5}:=I1.kept (t':=s1.toks) k5
 have fp:∀c,s1.heap.objs.size≤c→HS X pins H1 c:=λc hc=>I1.fpOk hc (I1.hok.fresh hc);show _∧_;rw[y1];refine⟨⟨_,e5,rfl⟩,DJ e5 ?_⟩;refine⟨_,_,_,_,H1,rfl,I2,Yt t _ _ (C1 (Cc _)),⟨⟨_,e5⟩,e1⟩,λc hc=>fp c ?_,q⟩;simp only[Ak,AC,or_false] at hc;rcases hc with rfl | rfl
 · exact CW _
 · exact Ag _
section
variable{te:TE}{p2 p3 p4:Pos}
end
def Qi(ns:List Int):Nat:=(ns.foldl step_dedup []).length
section
variable{te:TE}{p2 p3 p4:Pos}
end
def Le(K:Ao)(t1 t2:Addr):It:=
 ⟨λk H=>∃(xs ys:List V)(x y:V),SqL K H t1 xs∧SqL K H t2 ys∧xs[k]?=some x∧ys[k]?=some y,
  λk H v H'=>∃p,v= .ref p∧H p=none∧∀(xs ys:List V)(x y:V),SqL K H t1 xs→SqL K H t2 ys→xs[k]?=some x→ys[k]?=some y→H'=HI H p (.tup [x,y]),
  λk H=>∃(xs ys:List V),SqL K H t1 xs∧SqL K H t2 ys∧(xs.length≤k∨ys.length≤k)⟩
theorem SN{z i j t1 t2:Addr}{ys:List V}(D:ZA z a b i j)(I:Inv X pins σ H s)(q1:SqL X.K H t1 xs)(q2:SqL X.K H t2 ys)
 (fz:HS X pins H z) (fb:HS X pins H b) (fi:HS X pins H i) (fj:HS X pins H j):ZipApart z a b i j t1 t2:=
 ⟨D.az,D.bz,D.iz,D.jz,D.ab,D.ai,D.aj,D.bi,D.bj,D.ij,Lp I q1 fz,Lp I q1 fb,Lp I q1 fi,Lp I q1 fj,Lp I q2 fz,Lp I q2 fb,Lp I q2 fi,Lp I q2 fj⟩
theorem Yv{P:Bv}{w:World}{K:Ao}{es:List Expr}{kk:Nat}{pos:Pos}(t1 t2 z a b i j:Addr)(D:ZA z a b i j):
 Turn P w K (.Tuple es kk pos) (Le K t1 t2) [z,a,b,i,j] z (λk h=>IsZip h z a b .none∧IsPair h a (.ref i) (.ref j)∧(∃p q,IsPair h b p q)∧h.IsListIter i t1 k∧h.IsListIter j t2 k) where
 mem:=by simp
 obj:=λk h st c hc=>by
  obtain⟨hz,ha,⟨p,q,hb⟩,⟨oi,ei,_,di⟩,⟨oj,ej,_,dj⟩⟩:=st;simp only[Ak,AC,or_false] at hc;rcases hc with rfl | rfl | rfl | rfl | rfl
  · exact⟨_,hz,λv e=>by cases e⟩
  · exact⟨_,ha,λv e=>by cases e⟩
  · exact⟨_,hb,λv e=>by cases e⟩
  · exact⟨oi,ei,λv e=>by rw[di] at e;cases e⟩
  · exact⟨oj,ej,λv e=>by rw[dj] at e;cases e⟩
 keep:=λk h h' st kp=>by obtain⟨hz,ha,⟨p,q,hb⟩,⟨oi,ei,ri⟩,⟨oj,ej,rj⟩⟩:=st;exact⟨kp z (by simp) _ hz,kp a (by simp) _ ha,⟨p,q,kp b (by simp) _ hb⟩,⟨oi,kp i (by simp) _ ei,ri⟩,⟨oj,kp j (by simp) _ ej,rj⟩⟩
 item:=by
  intro X hP hw hK hc k pins s σ H E I hf st hg;subst hP hw hK;obtain⟨xs,ys,x,y,q1,q2,hx,hy⟩:=hg;obtain⟨hz,ha,⟨p,q,hb⟩,h1,h2⟩:=st;obtain⟨its1,r1,g1,_⟩:=I.list q1;obtain⟨its2,r2,g2,_⟩:=I.list q2;obtain⟨u1,hu1,v1⟩:=r1.get hx;obtain⟨u2,hu2,v2⟩:=r2.get hy;have fz:=hf z (by simp);have fb:=hf b (by simp);have fi:=hf i (by simp);have fj:=hf j (by simp);refine wpAny_pyNext_zip_item (SN D I q1 q2 fz fb fi fj) hz ha hb h1 h2 g1.isList g2.isList (by simpa using hu1) (by simpa using hu2) λg a1 a2 a3 a4 a5 a6' a6=>?_;refine⟨_,rfl,Fa a1 λg' z' m'=>?_⟩;have zT:z≠s.heap.objs.size:=Aq (Ai hz);have up:∀c o,c≠z→g.get? c=some o→g'.get? c=some o:=λc o hc e=>m'.extBut c o hc e;have fr:H s.heap.objs.size=none:=I.hok.fresh (Ag _);have I1:Inv X pins σ (HI H s.heap.objs.size (.tup [x,y])) {s with heap:=g'}:=by
   refine I.newTup (t':=s.toks) [z,b,i,j] (λc hc=>?_) (λc o hc e=>?_) (Ag _) ⟨[u1,u2],.cons v1 (.cons v2 .nil),_,up _ _ zT.symm a5,rfl,rfl,_,rfl⟩
   · simp only[Ak,AC,or_false] at hc;rcases hc with rfl | rfl | rfl | rfl
     · exact fz
     · exact fb
     · exact fi
     · exact fj
   · simp only[Ak,AC,or_false,not_or] at hc;exact up c o hc.1 (a6 c o hc.1 hc.2.1 hc.2.2.1 hc.2.2.2 e)
  obtain⟨oi,ei,ri⟩:=a3;obtain⟨oj,ej,rj⟩:=a4;refine⟨.ref s.heap.objs.size,_,I1,rfl,⟨_,rfl,fr,λxs' ys' x' y' s1 s2 e1 e2=>?_⟩,⟨z',up _ _ D.az (a6 a _ D.az D.ab D.ai D.aj ha),⟨_,_,up _ _ D.bz a2⟩,⟨oi,up _ _ D.iz ei,ri⟩,⟨oj,up _ _ D.jz ej,rj⟩⟩,λc hc=>?_⟩
  · rw[I.list_inj s1 q1,hx] at e1;rw[I.list_inj s2 q2,hy] at e2;cases e1;cases e2;rfl
  · have fc:=hf c hc;have:c≠s.heap.objs.size:=by
     simp only[Ak,AC,or_false] at hc;obtain⟨oi',ei',_⟩:=h1;obtain⟨oj',ej',_⟩:=h2;rcases hc with rfl | rfl | rfl | rfl | rfl
     · exact zT
     · exact Aq (Ai ha)
     · exact Aq (Ai hb)
     · exact Aq (Ai ei')
     · exact Aq (Ai ej')
    rw[Ij this];exact fc.1
 done:=by
  intro X hP hw hK hc k pins s σ H E I hf st hg;subst hP hw hK;obtain⟨xs,ys,q1,q2,hend⟩:=hg;obtain⟨hz,ha,⟨p,q,hb⟩,h1,h2⟩:=st;obtain⟨its1,r1,g1,_⟩:=I.list q1;obtain⟨its2,r2,g2,_⟩:=I.list q2;have l1:=r1.length;have l2:=r2.length;have fz:=hf z (by simp);have fb:=hf b (by simp);have fi:=hf i (by simp);have fj:=hf j (by simp);refine wpAny_pyNext_zip_end (I.ok.hd hc) (SN D I q1 q2 fz fb fi fj) hz ha hb h1 h2 g1.isList g2.isList ?_ λg kp=>?_
  · rcases hend with u | u
    · exact .inl (by simp;omega)
    · exact .inr (by simp;omega)
  · refine⟨rfl,I.turnedN (t':=s.toks) [z,b,i,j] (λc hc=>?_) (λc o hc e=>?_)⟩
    · simp only[Ak,AC,or_false] at hc;rcases hc with rfl | rfl | rfl | rfl
      · exact fz
      · exact fb
      · exact fi
      · exact fj
    · simp only[Ak,AC,or_false,not_or] at hc;exact kp c o hc.1 hc.2.1 hc.2.2.1 hc.2.2.2 e
 self:=λ_ _ _ _ _ st h=>DW st.1 h
def U_(K:Ao)(ta:TA):TI:=λσ H R=>ta σ H λvs H1=>∃t u,vs=[.ref t,.ref u]∧(∃xs,SqL K H1 t xs)∧(∃ys,SqL K H1 u ys)∧R (Le K t u) H1
theorem VA{es:List Expr}{kk:Nat}{tpos:Pos}{a b:Expr}{ta:TA}{p pos:Pos}(hg:Gl X "zip")(hm:X.mg "zip"=none)(ha:PA X [a,b] ta)
 (he:AD [a,b] X.env=(false,eval a X.env)::AD [b] X.env:=by rfl) (hpl:(backTo pos (AD [b] X.env)).any (·.1)=false:=by rfl):
 PI X (.Tuple es kk tpos) (.Call (.Name "zip" p) [a,b] [] pos) (U_ X.K ta):=by
 intro pins s σ H R I h;refine BQ (Ky I hg hm Rt ?_ (by decide) (by decide));refine BK (HN (ha pos pins s σ H _ I h) λus s1 ⟨vs,H1,I1,r1,t,u,e,⟨xs,q1⟩,⟨ys,q2⟩,q⟩=>?_) he hpl;subst e;obtain⟨u1,u2,rfl,v1,v2⟩:=LZ r1;cases v1;cases v2;obtain⟨its1,rv1,g1,_⟩:=I1.list q1;obtain⟨its2,rv2,g2,_⟩:=I1.list q2;refine call_zip_2 g1.isList g2.isList λh' e5 e3 e4 e1 e2 hz k5=>?_;have I2:Inv X pins σ H1 {s1 with heap:=h'}:=I1.kept (t':=s1.toks) k5
 have fp:∀c,s1.heap.objs.size≤c→HS X pins H1 c:=λc hc=>I1.fpOk hc (I1.hok.fresh hc);have D:ZA (s1.heap.objs.size+4) (s1.heap.objs.size+2) (s1.heap.objs.size+3) s1.heap.objs.size (s1.heap.objs.size+1):=by constructor<;>exact λz=>by have:(_:Nat)=_:=z;omega
 refine DW e5 ?_;refine⟨_,_,_,_,H1,rfl,I2,Yv t u _ _ _ _ _ D,⟨e5,e3,⟨_,_,e4⟩,e1,e2⟩,λc hc=>fp c ?_,q⟩;simp only[Ak,AC,or_false] at hc;rcases hc with rfl | rfl | rfl | rfl | rfl
 all_goals first | exact Ag _ | exact CZ _ _
end L2
namespace WB
end WB
namespace L2
def QX(i j:Int):Prop:=i.natAbs<2^1000∧j.natAbs<2^1000
theorem Mg:IL X (binaryOp .Mult) (rI QX λi j=> .int (i*j)):=Na λi j _ _ _ _ _ hc q=> mul_int q (IntMulOk.of_bits (AL (intBits_le hc.1) (by decide)) (AL (intBits_le hc.2) (by decide)))
theorem VY(K:Ao)(h:X.K=K):IL X (By .In) (Ox K false):=by subst h;exact TF
theorem TK(K:Ao)(h:X.K=K):IL X (By .NotIn) (Ox K true):=by subst h;exact PZ
section
variable{Q:VK}
end
theorem nb{i:Int}(h0:0≤i)(h1:i<2^400):i.natAbs<2^1000:=by
 have:i.natAbs<2^400:=by omega
 exact AE this (by decide)
def ND(K:Ao):Sp:=λvs H Q _=>∃(a:Addr)(ns:List Int),vs=[.ref a]∧SqL K H a (ns.map V.int)∧ns.length≤63∧∀H',Q (.bl true) H'
theorem mn(i j:Int):(if j<i then j else i)=min i j:=by rw[Int.min_def];split<;>split<;>omega
def Tups(H H':Hp):Prop:=∀a xs,H a=some (.tup xs)→H' a=some (.tup xs)
theorem Tups.trans{H1 H2:Hp}(a:Tups H H1)(b:Tups H1 H2):Tups H H2:=λc xs h=>b c xs (a c xs h)
theorem Same.tups{H':Hp}(s:Same H H'):Tups H H':=λa xs h=>s _ _ h
theorem K0{p:Addr}{ys:List V}{o:HO}(h:H p=some (.lst ys)):Tups H (HI H p o):=λa xs e=>by rw[Ij (Ki e h (by intro z;cases z))];exact e
theorem Ji{H0:Hp}{p:Addr}{o:HO}(s:Same H0 H)(n:H0 p=none):Same H0 (HI H p o):=λa u e=>by rw[Ij (J8 e n)];exact s _ _ e
theorem So:∀{ts:List Str}{us:List Value},Vals (ts.map V.str) us→∃l:List (Str×Tok),strValues l=us∧l.map (·.1)=ts
 | [],_,h=>by cases h;exact⟨[],rfl,rfl⟩
 | x::ts,_,h=>by
  rw[A0] at h;cases h with
  | cons r h=> obtain⟨t,rfl⟩:=r;obtain⟨l,h1,h2⟩:=So h;exact⟨(x,t)::l,by rw[←h1];rfl,by rw[←h2];rfl⟩
theorem Ud:∀{ts:List Str}{us:List Value},Vals (ts.map V.str) us→StrsAre us ts
 | [],_,h=>by cases h;exact .nil
 | x::ts,_,h=>by
  rw[A0] at h;cases h with
  | cons r h=> obtain⟨t,rfl⟩:=r;exact .cons _ _ (Ud h)
theorem Om:∀{us:List Value}{ts:List Str},StrsAre us ts→Vals (ts.map V.str) us
 | _,_,.nil=> .nil
 | _,_,.cons n t h=> .cons ⟨t,rfl⟩ (Om h)
def Vd(K:Ao):V→List V→Hp→VK→Prop:=λx vs H Q=>∃(y:Str)(a:Addr)(ts:List Str),x= .str y∧vs=[.ref a]∧SqL K H a (ts.map V.str)∧JoinOk y ts=true∧Q (.str (Txt.join y ts)) H
theorem V3:Oz X "str.join" (Vd X.K):=by intro pins s σ H x vs v us Q I rx rv h;obtain⟨y,a,ts,rfl,rfl,hq,hok,q⟩:=h;obtain⟨t,rfl⟩:=rx;obtain⟨u,rfl,ru⟩:=rv.one;cases ru;obtain⟨its,r,ht,hz⟩:=I.list hq;obtain⟨l,rfl,rfl⟩:=So r;unfold JoinOk at hok;rw[DK] at hok;refine call_meets F.slot_str_join (typeIs_str _ _ _) F.entry_str_join (F.args_str_join_2 _ _) (meets_str_join_list y t a l hok) ⟨ht.isList,post_join l ⟨joinFit_length hok,λt' k=>?_⟩⟩;exact⟨.str _,H,I.kept (t':=k) λb o e=>e,⟨t',rfl⟩,q⟩
def VF(K:Ao):List V→Hp→VK→Prop:=λxs H Q=>∃(a:Addr)(ns:List Str),xs=[.ref a]∧SqL K H a (ns.map V.str)∧ns.length<64∧
 ∀(p:Addr)(ms:List Str),ms.Perm ns→sortedS ms=true→H p=none→Q (.ref p) (HI H p (.lst (ms.map V.str)))
theorem PY:J5 X (.builtin "sorted") (VF X.K):=by
 intro pins s σ H xs us Q I r h;obtain⟨a,ns,rfl,hq,h64,q⟩:=h;obtain⟨u,rfl,rx⟩:=J6 r;cases rx;obtain⟨its,rv,ht,hz⟩:=I.list hq;have hl:=rv.length;rw[Ab] at hl;refine sorted_strs ht.isList (Ud rv) (by omega) λout ns' a1 a2 a3=>?_;obtain⟨e,he⟩:=sortedAll_at s.heap its out;have hn:H (s.heap.objs.size+1)=none:=I.hok.fresh (CW _);have hlen:ns'.length=ns.length:=a2.length_eq;refine⟨.ref (s.heap.objs.size+1),HI H (s.heap.objs.size+1) (.lst (ns'.map V.str)),I.laid (t':=s.toks) (λb o e=>sortedAll_old e) (CW _) ?_,rfl,q _ ns' a2 a3 hn⟩;have hz':ns.length≤Au:=by rw[Ab] at hz;exact hz
 exact⟨by rw[Ab];omega,out.toList,e,Om a1,by simpa [seqObj] using he⟩
theorem VZ(t:Cs)(n:Nat):(t.orStandIn n).led=t.led:=by unfold SetTable.orStandIn;split<;>rfl
theorem Xr(t:Cs)(n:Nat)(h:t.plain=false):(t.orStandIn n).plain=false:=by
 unfold SetTable.orStandIn
 split
 · exact h
 · rfl
theorem V0(t:Cs)(es:Array (Int×Value))(h:Int)(x:Value):(layNew t es h x).2.1.led=t.led:=by
 unfold layNew
 split
 · exact(VZ _ _).trans rfl
 · rfl
theorem X8(t:Cs)(es:Array (Int×Value))(h:Int)(x:Value):t.plain=false→(layNew t es h x).2.1.plain=false:=by
 intro hp;unfold layNew
 split
 · exact Xr _ _ hp
 · rfl
theorem RY{mask finger moves:Nat}{led plain:Bool}{hs:Array Int}{t:Cs}{o:Array Nat}(h:SetTable.laid mask finger moves led plain hs=some (t,o)):t.led=led∧t.plain=plain:=by
 unfold SetTable.laid at h;cases h1:SetTable.layClean mask hs with
 | none=>rw[h1] at h;cases h
 | some ow=> rw[h1] at h;simp only[Option.bind_eq_bind,Option.bind_some,Option.pure_def,Option.some.injEq,Prod.mk.injEq] at h;rw[←h.1];exact⟨rfl,rfl⟩
theorem Xx(t:Cs)(es:Array (Int×Value))(n:Nat):(relayAll t es n).2.1.led=t.led:=by
 unfold relayAll
 split
 · rename_i t' o h;dsimp only
   split
   · exact(RY h).1
   · rfl
 · rfl
theorem Zg(t:Cs)(es:Array (Int×Value))(n:Nat)(hp:t.plain=false):(relayAll t es n).2.1.plain=false:=by
 unfold relayAll
 split
 · rename_i t' o h;dsimp only
   split
   · rw[←hp];exact(RY h).2
   · rfl
 · rfl
def Iz(w:World):Bool:=w.params.followText "set-order"
structure TxSet(prog:Bv)(w:World)(h:Heap)(a:Addr)(ks:List Str):Prop where
 at':∃(es:Array (Int×Value))(ep:Nat)(t:Cs),h.get? a=some {cls:= .type "set",dict:=none,data:= .set es ep t}∧ElemsOf (strKind prog w) es.toList∧
  StrsAre (es.toList.map (·.2)) ks∧t.fits es.size=true∧t.led=!Iz w∧(es.size=0∨t.plain=false)
 nodup:ks.Nodup
 few:ks.length<scanBound
theorem NZ:∀{vs:List Value}{ks:List Str},StrsAre vs ks→vs.length=ks.length
 | _,_,.nil=>rfl
 | _,_,.cons _ _ h=>by rw[AF,AF,NZ h]
theorem Us:∀{vs us:List Value}{ks js:List Str},StrsAre vs ks→StrsAre us js→StrsAre (vs++us) (ks++js)
 | _,_,_,_,.nil,h=>h
 | _,_,_,_,.cons _ _ h',h=> .cons _ _ (Us h' h)
theorem PH{vs:List Value}(p:us.Perm vs):∀{ks:List Str},StrsAre vs ks→∃js,StrsAre us js∧js.Perm ks:=by
 induction p with
 | nil=>intro ks h;exact⟨ks,h,.refl _⟩
 | cons x p ih=>
  intro ks h;cases h with
  | cons y t h=> obtain⟨js,h1,h2⟩:=ih h;exact⟨y::js,.cons y t h1,h2.cons _⟩
 | swap x y l=>
  intro ks h;cases h with
  | cons y t h=>
   cases h with
   | cons y2 t2 h=>exact⟨y2::y::_,.cons _ _ (.cons _ _ h),.swap _ _ _⟩
 | trans p1 p2 ih1 ih2=> intro ks h;obtain⟨js,h1,h2⟩:=ih2 h;obtain⟨is,h3,h4⟩:=ih1 h1;exact⟨is,h3,h4.trans h2⟩
theorem PX:∀{vs:List Value}{ks:List Str},StrsAre vs ks→∀k,k∈ks↔∃t,Value.str k t∈vs
 | _,_,.nil,k=>by simp
 | _,_,.cons y t h,k=>by
  rw[Ak,PX h k];constructor
  · rintro(rfl | ⟨u,hu⟩)
    · exact⟨t,.head _⟩
    · exact⟨u,.tail _ hu⟩
  · rintro⟨u,hu⟩;cases hu with
    | head=>exact .inl rfl
    | tail _ hu=>exact .inr ⟨u,hu⟩
theorem OW(k:Str)(t:Tok):(strKind prog w).is k (.str k t)=true:=by show ED k (.str k t)=true;simp[ED]
theorem RP(h:Heap)(a:Addr)(es es':Array (Int×Value))(ep:Nat)(t t':Cs)(ho:h.get? a=some {cls:= .type "set",dict:=none,data:= .set es ep t}):
 (h.update a (Obj.putSet es' t')).get? a=some {cls:= .type "set",dict:=none,data:= .set es' (ep+1) t'}:=by
 have:=AM (Obj.putSet es' t') ho (by rw[putSet_of es' t' (o:={cls:= .type "set",dict:=none,data:= .set es ep t}) rfl];rfl);rw[putSet_of es' t' (o:={cls:= .type "set",dict:=none,data:= .set es ep t}) rfl] at this;exact this
theorem Xe{ks:List Str}{k:Str}{tk:Tok}{Q:Bool→Shared→Prop}(hS:TxSet prog w s.heap a ks)(hroom:ks.length+1<scanBound)
 (h:∀h' ks',Bx a s.heap h'→TxSet prog w h' a ks'→ks'.length≤ks.length+1→(∀x,x∈ks'↔x∈ks∨x=k)→∀b,Q b {s with heap:=h'}):
 wpAny (model prog w) A (setAddHashed a (.str k tk) ((strKind prog w).hash k)) Q E s:=by
 obtain⟨⟨es,ep,t,ho,hel,hks,hf,hled,hpl⟩,hnd,hfew⟩:=hS;have hsz:es.size=ks.length:=by rw[←NZ hks,Ab,AG]
 have hb:es.size<scanBound:=by rw[hsz];exact hfew
 have hkey:(strKind prog w).is k (.str k tk)=true:=OW k tk;unfold setAddHashed setAddHashedIn;refine AS (Aa (Cj ho rfl hf ?_));dsimp only;rw[byScan_of (knd:=strKind prog w) rfl hb hel];simp only[↓reduceIte];unfold setAddByScan;refine Aa ?_;refine Aa (BJ ?_);refine Aa (wpAny_setScan_of (knd:=strKind prog w) hkey ho rfl hf hel ?_);have isk:∀e∈es.toList,(strKind prog w).is k e.2=true→k∈ks:=λe he q=>by obtain⟨t',q'⟩:=En q;exact(PX hks k).mpr ⟨t',by rw[←q'];exact A3 he⟩
 cases hr:List.findIdx? (λe=>(strKind prog w).is k e.2) es.toList with
 | some j=> dsimp only;obtain⟨hj,hpj,_⟩:=List.findIdx?_eq_some_iff_getElem.mp hr;have hk:k∈ks:=isk _ (DV hj) hpj;refine Ac (Ac ?_);exact h s.heap ks (Heap.SameBut.refl a s.heap) ⟨⟨es,ep,t,ho,hel,hks,hf,hled,hpl⟩,hnd,hfew⟩ (CW _) (λx=>⟨.inl,λq=>q.elim id λe=>e ▸ hk⟩) _
 | none=>
  dsimp only;have hk:k ∉ ks:=λhm=>by obtain⟨t',ht⟩:=(PX hks k).mp hm;obtain⟨e,he,q⟩:=Ay.mp ht;have:=List.findIdx?_eq_none_iff.mp hr e he;rw[q,OW] at this;cases this
  have hgw:∀(b:Bool){s₁:Shared}{Q':Unit→Shared→Prop},Q' () s₁→wpAny (model prog w) A (match b with | true=>rule "set.scan.the-table-gave-way" | false=>pure ()) Q' E s₁:=
   λb s₁ Q' hq=>by cases b<;>first | exact Ac hq | exact BJ hq
  have hperm:=layNew_perm t es ((strKind prog w).hash k) (.str k tk);have hfits:=layNew_fits t es ((strKind prog w).hash k) (.str k tk);have hl1:=V0 t es ((strKind prog w).hash k) (.str k tk);have hp1:=X8 t es ((strKind prog w).hash k) (.str k tk);generalize hL:layNew t es ((strKind prog w).hash k) (.str k tk)=L at hperm hfits hl1 hp1 ⊢;obtain⟨es1,t1,wasDummy,gave⟩:=L;dsimp only at hperm hfits hl1 hp1 ⊢;rw[Array.toList_push] at hperm;have hel1:ElemsOf (strKind prog w) es1.toList:=(hel.push hkey rfl).perm hperm;have h0:StrsAre ((es.toList++[((strKind prog w).hash k,Value.str k tk)]).map (·.2)) (ks++[k]):=by rw[Ah];exact Us hks (.cons k tk .nil)
  obtain⟨k1,hk1,hkp1⟩:=PH (hperm.map (·.2)) h0;have hsz1:es1.size=ks.length+1:=by rw[←AG,hperm.length_eq,A5,AG,hsz];rfl
  have nd0:(ks++[k]).Nodup:=by rw[EW];exact⟨hnd,by simp,λx hx y hy=>by rw[Ae] at hy;subst hy;exact λe=>hk (e ▸ hx)⟩
  have fin:∀(h':Heap)(es2:Array (Int×Value))(ep2:Nat)(t2:Cs),Bx a s.heap h'→h'.get? a=some {cls:= .type "set",dict:=none,data:= .set es2 ep2 t2}→es2.toList.Perm es1.toList→t2.fits es2.size=true→
   t2.led=t.led→t2.plain=false→∀b,Q b {s with heap:=h'}:=λh' es2 ep2 t2 sb ho2 p2 f2 l2 pl2 b=>by
   obtain⟨k2,hk2,hkp2⟩:=PH (p2.map (·.2)) hk1;have hp:k2.Perm (ks++[k]):=hkp2.trans hkp1;have hlen:k2.length=ks.length+1:=by rw[hp.length_eq,A5];rfl
   refine h h' k2 sb ⟨⟨es2,ep2,t2,ho2,hel1.perm p2,hk2,f2,l2.trans hled,.inr pl2⟩,hp.nodup_iff.mpr nd0,by omega⟩ (by omega) (λx=>?_) b;rw[hp.mem_iff,Aw,Ae]
  refine Aa (hgw _ ?_);have tail:∀(t2:Cs),t2.fits es1.size=true→t2.led=t.led→t2.plain=false→∀{R:Option Bool→Shared→Prop},(∀h',(∀b,Q b {s with heap:=h'})→R (some true) {s with heap:=h'})→
   wpAny (model prog w) A (do
    storeSet a es1 t2
    if(!wasDummy && t2.tooFull)=true then do
        (match(relayAll t2 es1 (CL es1.size)).2.2 with | true=>rule "set.scan.the-table-gave-way" | false=>pure ())
        storeSet a (relayAll t2 es1 (CL es1.size)).1 (relayAll t2 es1 (CL es1.size)).2.1
        pure (some true)
     else pure (some true)) R E s:=by
   intro t2 f2 l2 pl2 R hR;refine Aa (wpAny_storeSet_of ho rfl ?_ (fits_of_scanBound (by omega)));have ho1:=RP s.heap a es es1 ep t t2 ho;have sb1:=AY s.heap a (Obj.putSet es1 t2)
   split
   · have hp:=relayAll_perm t2 es1 (CL es1.size);have hfr:=relayAll_fits t2 es1 (CL es1.size);have hl2:=Xx t2 es1 (CL es1.size);have hp2:=Zg t2 es1 (CL es1.size) pl2;generalize hRl:relayAll t2 es1 (CL es1.size)=Rl at hp hfr hl2 hp2 ⊢;obtain⟨es2,t3,gave2⟩:=Rl;dsimp only at hp hfr hl2 hp2 ⊢;have hs2:es2.size=es1.size:=by rw[←AG,hp.length_eq,AG]
     refine Aa (hgw _ ?_);refine Aa (wpAny_storeSet_of ho1 rfl ?_ (fits_of_scanBound (by omega)));exact Ac (hR _ (fin _ es2 _ t3 (sb1.trans (AY _ a _)) (RP _ a es1 es2 (ep+1) t2 t3 ho1) hp hfr (hl2.trans l2) hp2))
   · exact Ac (hR _ (fin _ es1 _ t2 sb1 ho1 (.refl _) f2 l2 pl2))
  split
  · refine Aa ?_;rw[hashByValue_scannable 8 (x:= .str k tk) rfl];refine Ac ?_;exact tail {t1 with plain:=false} (SetTable.fits_plain_off hfits) hl1 rfl λh' q=>Ac (q _)
  · rename_i hnp;refine Aa (Ac ?_);simp only[↓reduceIte];exact tail t1 hfits hl1 (by simpa using hnp) λh' q=>Ac (q _)
theorem TxSet.kept{h':Heap}{ks:List Str}(T:TxSet prog w h a ks)(k:∀o,h.get? a=some o→h'.get? a=some o):TxSet prog w h' a ks:=by obtain⟨⟨es,ep,t,ho,r⟩,b,c⟩:=T;exact⟨⟨es,ep,t,k _ ho,r⟩,b,c⟩
section
variable{R:Result→Shared→Prop}{I:Addr}{fp wr:List Addr}{G:Array GenState→Array GenState→Prop}{P:Nat→Value→Prop}{St:Nat→Shared→Prop}
end
theorem Yl(e:h.get? a=some {cls:= .type "set",dict:=none,data:= .set #[] 0 (.fresh 0 0 (!Iz w))}):TxSet prog w h a []:=
 ⟨⟨#[],0,_,e,λe he=>by simp at he,.nil,rfl,rfl,.inl rfl⟩,List.nodup_nil,by decide⟩
theorem Yr{M:Model}{A:BZ}{E:Value→Shared→Prop}{src:Source}{Q:Nat→Shared→Prop}(hn:0<n)(h:∀i d',i<n→Q i {s with drawn:=d'}):
 wpAny M A (choose src n) Q E s:=λΓ p hΓ=>by
 show Sem.wp M Γ (.choose src n .pure) _ _ p s;rw[Sem.wp_choose];exact⟨by omega,h _ _ (Nat.mod_lt _ hn)⟩
theorem P4{α:Type}:∀{l:List α}{i:Nat}{x:α},l[i]?=some x→(x::l.eraseIdx i).Perm l
 | [],i,x,h=>by simp at h
 | y::l,0,x,h=>by simp at h;subst h;exact .refl _
 | y::l,i+1,x,h=>by rw[Fu] at h;rw[List.eraseIdx_cons_succ];exact(List.Perm.swap _ _ _).trans ((P4 h).cons _)
theorem SM{M:Model}{A:BZ}{E:Value→Shared→Prop}{α:Type}:∀(n:Nat)(xs:List α)(s:Shared){Q:List α→Shared→Prop},xs.length≤n→(∀ys d',ys.Perm xs→Q ys {s with drawn:=d'})→
 wpAny M A (drawOrder n xs) Q E s
 | 0,xs,s,Q,hn,h=>by have:xs=[]:=CG.mp (Nat.le_zero.mp hn);subst this;exact Ac (h [] s.drawn (.refl _))
 | n+1,[],s,Q,hn,h=>Ac (h [] s.drawn (.refl _))
 | n+1,x::xs,s,Q,hn,h=>by
  show wpAny M A (choose .order (x::xs).length>>=_) Q E s;refine Aa (Yr (by simp) λi d1 hi=>?_);have hx:(x::xs)[i]?=some (x::xs)[i]:=Av hi;rw[hx];show wpAny M A (drawOrder n ((x::xs).eraseIdx i)>>=_) Q E _;have hl:((x::xs).eraseIdx i).length≤n:=by rw[Gg,if_pos hi];simp at hn ⊢;omega
  refine Aa (SM n _ _ hl λys d2 hp=>Ac ?_);exact h _ d2 ((hp.cons _).trans (P4 hx))
theorem RN{α:Type}(next:Nat→Nat):∀(n k:Nat)(left:List α)(out:Array α),left.length≤n→((pickOrder.go next n k left out).toList).Perm (out.toList++left)
 | 0,k,left,out,h=>by have:left=[]:=CG.mp (Nat.le_zero.mp h);subst this;simp[pickOrder.go]
 | n+1,k,left,out,h=>by
  unfold pickOrder.go
  split
  · rename_i x hx;have hlt:next k%left.length<left.length:=(Al.mp hx).1
    refine(RN next n (k+1) _ _ ?_).trans ?_
    · rw[Gg,if_pos hlt];omega
    · rw[Array.toList_push,Ci];exact List.Perm.append_left _ (P4 hx)
  · rename_i hx;cases left with
    | nil=>simp
    | cons y l=>
     have:next k%(y::l).length<(y::l).length:=Nat.mod_lt _ (by simp)
     rw[Av this] at hx;cases hx
theorem TM{α:Type}(next:Nat→Nat)(xs:Array α):((pickOrder next xs).toList).Perm xs.toList:=by
 have:=RN next xs.size 0 xs.toList #[] (by simp)
 simpa [pickOrder] using this
theorem Zk(a:Addr):setDrawn a=(do
 let(es,_,t) ←setState a
 let byText ←setsByText
 return !byText && (!t.plain && decide (es.size>1))):=rfl
theorem Oe(a:Addr)(slot given epochThen:Nat):setNext a slot given epochThen=(do
 let(es,epoch,t) ←setState a
 if ←setsByText then
  if epoch !=epochThen then unsupported "set_iterator.__next__:elements-changed"
  return ((←setWalk a)[given]?).map λe=>(e.2,slot)
 if(!t.plain && decide (es.size>1)) then unsupported "set_iterator.__next__:the-table-is-plain-no-more"
 (do if !t.led && !es.isEmpty then unsupported "set:maker-not-led":Sem Unit)
 let i:=Dj t.place slot
 return match es[i]?,t.place[i]? with
  | some (_,x),some j=>some (x,j+1)
  | _,_=>none):=rfl
namespace FS
theorem entry_set_iter:entryFor table "set.__iter__"=some Builtin.«frozenset.__iter__»:=entryFor_alias (id':="frozenset.__iter__") (by kernel_rfl) rfl (by decide+kernel) (by kernel_rfl)
theorem slot_si_next:Slot "set_iterator" "__next__" "set_iterator.__next__":=
 .of (owner:="set_iterator") (n:="__next__") (by rw[typeLookup_type,builtinLookup_eq_fast];kernel_rfl) (by decide+kernel) (by decide+kernel) (by decide+kernel)
  (by first | exact .inl (by decide+kernel) | exact .inr (by decide+kernel)) (by rw[isSubtype_type];kernel_rfl)
theorem entry_si_next:entryFor table "set_iterator.__next__"=some Builtin.«set_iterator.__next__»:=Fk (by kernel_rfl)
theorem args_si_next(a:Value):argsOk "set_iterator.__next__" ⟨[a],[]⟩:=by unfold argsOk;kernel_rfl
theorem slot_si_iter:Slot "set_iterator" "__iter__" "set_iterator.__iter__":=
 .of (owner:="set_iterator") (n:="__iter__") (by rw[typeLookup_type,builtinLookup_eq_fast];kernel_rfl) (by decide+kernel) (by decide+kernel) (by decide+kernel)
  (by first | exact .inl (by decide+kernel) | exact .inr (by decide+kernel)) (by rw[isSubtype_type];kernel_rfl)
theorem entry_si_iter:entryFor table "set_iterator.__iter__"=some Builtin.«dict_keyiterator.__iter__»:=
 entryFor_alias (id':="dict_keyiterator.__iter__") (by kernel_rfl) rfl (by decide+kernel) (by kernel_rfl)
theorem args_si_iter(a:Value):argsOk "set_iterator.__iter__" ⟨[a],[]⟩:=by unfold argsOk;kernel_rfl
end FS
abbrev MH(h:Heap)(I a:Addr)(first:Value)(i n ep:Nat):Prop:=
 h.get? I=some {cls:= .type "set_iterator",dict:=none,data:= .fields #[first,.int i 0,.ref a,.int n 0,.int ep 0]}
inductive SOrd(w:World)(a:Addr)(es:Array (Int×Value))(ep:Nat)(t:Cs):(Nat→Value)→List Value→List (Addr×Obj)→Prop
 | drawn (T:Addr) (places:List Nat) (h0:Iz w=false) (hp:places.Perm (Bc es.size)) (h2:1<es.size):
  SOrd w a es ep t (λ_=> .ref T) (places.filterMap λp=>(es[p]?).map (·.2)) [(T,{cls:= .type "tuple",data:= .seq (places.map λ(i:Nat)=>rawInt i).toArray})]
 | text (h0:Iz w=true):SOrd w a es ep t (λ_=>rawInt 0) ((pickOrder (w.params.setOrder a ep) es).toList.map (·.2)) []
 | few (h0:Iz w=false) (h2:es.size≤1):SOrd w a es ep t (λi=>rawInt (if i=0 then 0 else t.place.getD 0 0+1)) (es.toList.map (·.2)) []
theorem Wn(es:Array (Int×Value)):((Bc es.size).filterMap λp=>(es[p]?).map (·.2))=es.toList.map (·.2):=by have:=filterMap_getElem?_range es;rw[←this,List.map_filterMap]
theorem SOrd.perm{es:Array (Int×Value)}{ep:Nat}{t:Cs}{f:Nat→Value}{vs:List Value}{ob:List (Addr×Obj)}(h:SOrd w a es ep t f vs ob):vs.Perm (es.toList.map (·.2)):=by
 cases h with
 | drawn T places h0 hp h2=>rw[←Wn];exact hp.filterMap _
 | text h0=>exact(TM _ _).map _
 | few h0 h2=>exact .refl _
theorem LK{Q:Bool→Shared→Prop}(h:Q (Iz w) s):wpAny (model prog w) A setsByText Q E s:=by unfold setsByText;exact Aa (Da (Ac h))
theorem X5{es:Array (Int×Value)}{ep:Nat}{t:Cs}{Q:Value→Shared→Prop}(ho:s.heap.get? a=some {cls:= .type "set",dict:=none,data:= .set es ep t})
 (hf:t.fits es.size=true) (hp:es.size=0∨t.plain=false) (hz:es.size≤Au)
 (hQ:∀h' d' I f vs ob,SOrd w a es ep t f vs ob→s.heap.objs.size≤I→MH h' I a (f 0) 0 es.size ep→(∀p∈ob,h'.get? p.1=some p.2∧s.heap.objs.size≤p.1∧p.1≠I)→(∀b o,s.heap.get? b=some o→h'.get? b=some o)→
  I<h'.objs.size→(∀p∈ob,p.1<h'.objs.size)→Q (.ref I) {s with heap:=h',drawn:=d'}):
 wpAny (model prog w) A (pyIter (.ref a)) Q E s:=by
 have hT:s.TypeIs (.ref a) "set":=⟨_,ho,rfl⟩;refine wpAny_pyIter_slot hT FX (AW FX hT FS.entry_set_iter ?_ (PySem.F.args_set_iter_1 _));unfold Builtin.«frozenset.__iter__» Builtin.Frozenset.slot0 Builtin.Frozenset.sizeOf;refine Aa (Aa (m:=slotArgs _ _ _) (Ac (Ac ?_)));refine Aa (Aa (Ep ho rfl hf (Ac ?_)));dsimp only;rw[Zk];refine Aa (Aa (Cj ho rfl hf (Aa (LK (Ac ?_)))));by_cases hd:(!Iz w && (!t.plain && decide (es.size>1)))=true
 · rw[if_pos hd];have hd':Iz w=false∧1<es.size:=by
    simp only[A8,DK,decide_eq_true_eq] at hd;exact⟨hd.1,hd.2.2⟩
   refine Aa (SM _ _ _ (by simp) λys d' hy=>?_);refine Aa (FW ?_ (by rw[Ab,hy.length_eq,CB];exact hz));have ho2:(s.heap.push {cls:= .type "tuple",data:= .seq (ys.map λ(i:Nat)=>rawInt i).toArray}).get? a=some {cls:= .type "set",dict:=none,data:= .set es ep t}:=Ad _ ho;refine Aa (wpAny_setEpoch_of (s:={s with drawn:=d',heap:=s.heap.push {cls:= .type "tuple",data:= .seq (ys.map λ(i:Nat)=>rawInt i).toArray}}) ho2 rfl hf ?_)
   refine Aa (AN (Ac ⟨_,rfl,"set_iterator",_,⟨_,Am _ rfl,rfl⟩,FS.slot_si_next.lookup,?_⟩));refine hQ _ d' _ _ _ _ (.drawn s.heap.objs.size ys hd'.1 hy hd'.2) ?_ (Am _ rfl) (λp hp=>?_) (λb o e=>Ad _ (Ad _ e)) ?_ (λp hp=>?_)
   · rw[Bj];exact CW _
   · rw[Ae] at hp;subst hp;exact⟨Ad _ (Am _ rfl),Ag _,by rw[Bj];exact Aq (Cc _)⟩
   · simp only[Bj];omega
   · rw[Ae] at hp;subst hp;show s.heap.objs.size<_;simp only[Bj];omega
 · rw[if_neg hd];refine Aa (Ac ?_);refine Aa (wpAny_setEpoch_of ho rfl hf ?_);refine Aa (AN (Ac ⟨_,rfl,"set_iterator",_,⟨_,Am _ rfl,rfl⟩,FS.slot_si_next.lookup,?_⟩));cases hb:Iz w with
   | true=> exact hQ _ s.drawn _ _ _ _ (.text hb) (Ag _) (Am _ rfl) (λp hp=>nomatch hp) (λb o e=>Ad _ e) (by rw[Bj];exact Cc _) (λp hp=>nomatch hp)
   | false=>
    refine hQ _ s.drawn _ _ _ _ (.few hb ?_) (Ag _) (Am _ rfl) (λp hp=>nomatch hp) (λb o e=>Ad _ e) (by rw[Bj];exact Cc _) (λp hp=>nomatch hp);rcases hp with h | h
    · omega
    · simp[hb,h] at hd;exact hd
def Oy(w:World)(I a:Addr)(es:Array (Int×Value))(ep:Nat)(t:Cs)(f:Nat→Value)(ob:List (Addr×Obj))(i:Nat)(h:Heap):Prop:=
 MH h I a (f i) i es.size ep∧h.get? a=some {cls:= .type "set",dict:=none,data:= .set es ep t}∧∀p∈ob,h.get? p.1=some p.2
theorem Tk(p:Nat):Dj #[p] 0=0∧Dj #[p] (p+1)=1:=by
 constructor
 · simp[Dj,SetTable.below.go]
 · simp[Dj,SetTable.below.go]
theorem Mr{I:Addr}{first x:Value}{ep k:Nat}(hi:MH h I a first i n ep)(f:Array Value→Array Value):
 (h.update I (DT f)).get? I=some {cls:= .type "set_iterator",dict:=none,data:= .fields (f #[first,.int i 0,.ref a,.int n 0,.int ep 0])}:=by
 have:=AM (DT f) hi rfl;exact this
set_option maxHeartbeats 1000000 in
theorem XJ{I a:Addr}{es:Array (Int×Value)}{ep:Nat}{t:Cs}{f:Nat→Value}{vs:List Value}{ob:List (Addr×Obj)}{i:Nat}{v:Value}{Q:Option Value→Shared→Prop}
 (hO:SOrd w a es ep t f vs ob) (hf:t.fits es.size=true) (hl:t.led=!Iz w) (hne:a≠I) (hob:∀p∈ob,p.1≠I) (hS:Oy w I a es ep t f ob i s.heap) (hv:vs[i]?=some v)
 (hQ:∀h',Oy w I a es ep t f ob (i+1) h'→Bx I s.heap h'→Q (some v) {s with heap:=h'}):
 wpAny (model prog w) A (pyNext (.ref I)) Q E s:=by
 obtain⟨hi,ha,hbs⟩:=hS;have hT:s.TypeIs (.ref I) "set_iterator":=⟨_,hi,rfl⟩;unfold pyNext;refine Aa (Dt (AT (name:=Cf "__next__") hT FS.slot_si_next
  (AW FS.slot_si_next hT FS.entry_si_next ?_ (FS.args_si_next _))))
 unfold Builtin.«set_iterator.__next__»;refine Aa (m:=slotArgs _ _ _) (Ac ?_);dsimp only;refine Aa (wpAny_fieldsOf hi rfl ?_);dsimp only;refine Aa (Ep ha rfl hf ?_);rw[if_neg (by simp)];have hil:i<vs.length:=(Al.mp hv).1;have fin:∀(first:Value)(h':Heap),Bx I s.heap h'→MH h' I a (f (i+1)) (i+1) es.size ep→Q (some v) {s with heap:=h'}:=λfirst h' sb hi'=> hQ h' ⟨hi',by rw[sb.2 a hne];exact ha,λp hp=>by rw[sb.2 p.1 (hob p hp)];exact hbs p hp⟩ sb
 cases hO with
 | drawn T places h0 hp h2=>
  dsimp only;have hTt:=hbs _ (Ae.mpr rfl);refine Aa (AQ hTt rfl ?_);have hpl:places.length=es.size:=by rw[hp.length_eq,CB]
  have hall:∀p∈places,p<es.size:=λp hm=>by simpa using hp.mem_iff.mp hm
  have hfm:∀(l:List Nat),(∀p∈l,p<es.size)→(l.filterMap λp=>(es[p]?).map (·.2))=l.map λp=>(es.getD p (0,.none)).2:=by
   intro l
   induction l with
   | nil=>intro _;rfl
   | cons q l ih=> intro hq;have hq0:q<es.size:=hq q (by simp);have h1:es[q]?=some es[q]:=Ck hq0;rw[Dv,h1,A0,←ih λp hm=>hq p (by simp[hm])];simp[Array.getD,hq0]
  rw[hfm places hall,Af] at hv;cases hpi:places[i]? with
  | none=>rw[hpi] at hv;cases hv
  | some pl=>
   rw[hpi] at hv;have hlt:pl<es.size:=hall pl (Aj hpi);have hvv:v=es[pl].2:=by have:(es.getD pl (0,.none)).2=v:=Az hv;rw[←this];simp[Array.getD,hlt]
   have hpi':(places.map λ(i:Nat)=>rawInt i).toArray[i]?=some (.int pl 0):=by rw[FY,Af,hpi];rfl
   show wpAny _ _ (match(places.map λ(i:Nat)=>rawInt i).toArray[(i:Int).toNat]? with | some (.int place _)=>_ | some _=>_ | none=>_) _ _ _
   rw[Ba,hpi'];dsimp only;unfold setNextDrawn;refine Aa (Aa (Cj ha rfl hf ?_));dsimp only;rw[if_neg (by simp)];rw[Ba,Ck hlt];dsimp only;refine Ac ?_;refine Aa (BP hi rfl (by simp) ?_);refine Ac ⟨_,rfl,Ac ?_⟩;rw[←hvv];exact fin v _ (AY ..) (Mr (x:=v) (k:=0) hi _)
 | text h0=>
  show wpAny _ _ (setNext a 0 (i:Int).toNat (ep:Int).toNat>>=_) _ _ _;rw[Oe,Ba,Ba];refine Aa (Aa (Cj ha rfl hf (Aa (LK ?_))));rw[if_pos h0];dsimp only;rw[if_neg (by simp)];unfold setWalk;refine Aa (Aa (Cj ha rfl hf (Aa (LK ?_))));rw[if_pos h0];refine Aa (Da (Ac (Ac ?_)));rw[Af,Cm] at hv;cases hpk:(pickOrder (w.params.setOrder a ep) es)[i]? with
  | none=>rw[hpk] at hv;cases hv
  | some e=>
   rw[hpk] at hv;show wpAny _ _ (match((pickOrder (w.params.setOrder a ep) es)[i]?).map λe=>(e.2,0) with | some (x,next)=>_ | none=>_) _ _ _
   rw[hpk];have hvv:e.2=v:=Az hv;dsimp only[Option.map];refine Aa (BP hi rfl (by simp) ?_);have hi1:=Mr (x:=v) (k:=0) hi (·.setIfInBounds 0 (rawInt (0:Nat)));refine Aa (BP (s:={s with heap:=s.heap.update I (DT (·.setIfInBounds 0 (rawInt (0:Nat))))}) hi1 rfl (by simp) ?_)
   refine Ac ⟨_,rfl,Ac ?_⟩;rw[hvv];refine fin v _ ((AY ..).trans (AY ..)) ?_;exact Mr (x:=v) (k:=0) (i:=i) (first:=rawInt 0) (n:=es.size) (ep:=ep) (a:=a) (by exact hi1) _
 | few h0 h2=>
  have hi0:i=0:=by rw[Ab,AG] at hil;omega
  subst hi0;have hsz:es.size=1:=by rw[Ab,AG] at hil;omega
  show wpAny _ _ (setNext a 0 (0:Int).toNat (ep:Int).toNat>>=_) _ _ _;rw[Oe,Ba];refine Aa (Aa (Cj ha rfl hf (Aa (LK ?_))));rw[if_neg (by rw[h0];simp)];dsimp only;rw[if_neg (by simp[hsz])];rw[hl,h0];refine Aa (m:=ite _ _ _) ?_;rw[if_neg (by simp)];refine Ac ?_;obtain⟨p,hpp⟩:∃p,t.place=#[p]:=by
   have h1:t.place.size=1:=by simp only[SetTable.fits,A8,beq_iff_eq] at hf;rw[hf.1,hsz]
   generalize t.place=tp at h1;obtain⟨pl⟩:=tp;cases pl with
   | nil=>simp at h1
   | cons p r=>cases r with
    | nil=>exact⟨p,rfl⟩
    | cons q r=>simp at h1
  obtain⟨⟨eh,ev⟩,hes⟩:∃e,es=#[e]:=by
   obtain⟨el⟩:=es;cases el with
   | nil=>simp at hsz
   | cons p r=>cases r with
    | nil=>exact⟨p,rfl⟩
    | cons q r=>simp at hsz
  subst hes;have hvv:ev=v:=by simpa using hv
  subst hvv;rw[hpp,(Tk p).1];refine Ac ?_;show wpAny _ _ (setField (.ref I) 0 (rawInt ((p+1:Nat):Int))>>=_) _ _ _;refine Aa (BP hi rfl (by simp) ?_);have hi1:=Mr (x:=ev) (k:=0) hi (·.setIfInBounds 0 (rawInt ((p+1:Nat):Int)));refine Aa (BP (s:={s with heap:=s.heap.update I (DT (·.setIfInBounds 0 (rawInt ((p+1:Nat):Int))))}) hi1 rfl (by simp) ?_)
  refine Ac ⟨_,rfl,Ac ?_⟩;refine fin ev _ ((AY ..).trans (AY ..)) ?_;have:=Mr (x:=ev) (k:=0) (i:=0) (first:=rawInt ((p+1:Nat):Int)) (n:=1) (ep:=ep) (a:=a) (by exact hi1) (·.setIfInBounds 1 (rawInt ((0:Nat)+1:Int)))
  rw[hpp];exact this
theorem Pn{h1:Heap}{I:Addr}{P:Fin→Shared→Prop}{Q:Option Value→Shared→Prop}(hh:A.handled=none)(sb:Bx I s.heap h1)(hQ:∀h',Dg I s.heap h'→Q none {s with heap:=h'}):
 wpAny (model prog w) A.in1 (newExc (.type "StopIteration") []>>=λx=>raiseNew x) P
  (λe s'=>wpAny (model prog w) A (do if ←isInstance e (.type "StopIteration") then pure none else throw e) Q E s') {s with heap:=h1}:=by
 refine Aa ?_;simp only[newExc,newTuple];refine Aa (AN ?_ (by size_fits));refine Aa (m:=firstArgMember _ _) (Du (a:=Value.none) (by first | rfl | (simp only[firstArgMember];rfl)) ?_)
 refine AN ?_ (by size_fits);simp only[raiseNew];refine Aa (wpAny_handled ?_);rw[show A.in1.handled=none from hh];refine Aa (Ac (wpAny_throw ?_));refine Aa (Dn (T:="StopIteration") (b:=true) ⟨_,Am _ rfl,rfl⟩ isSubtype_stop ?_);exact Ac (hQ _ ((sb.extBut.push _).push _))
set_option maxHeartbeats 1000000 in
theorem Wj{I a:Addr}{es:Array (Int×Value)}{ep:Nat}{t:Cs}{f:Nat→Value}{vs:List Value}{ob:List (Addr×Obj)}{Q:Option Value→Shared→Prop}(hh:A.handled=none)
 (hO:SOrd w a es ep t f vs ob) (hf:t.fits es.size=true) (hl:t.led=!Iz w) (hne:a≠I) (hob:∀p∈ob,p.1≠I) (hS:Oy w I a es ep t f ob es.size s.heap)
 (hQ:∀h',Dg I s.heap h'→Q none {s with heap:=h'}):
 wpAny (model prog w) A (pyNext (.ref I)) Q E s:=by
 obtain⟨hi,ha,hbs⟩:=hS;have hT:s.TypeIs (.ref I) "set_iterator":=⟨_,hi,rfl⟩;unfold pyNext;refine Aa (Dt (AT (name:=Cf "__next__") hT FS.slot_si_next
  (AW FS.slot_si_next hT FS.entry_si_next ?_ (FS.args_si_next _))))
 unfold Builtin.«set_iterator.__next__»;refine Aa (m:=slotArgs _ _ _) (Ac ?_);dsimp only;refine Aa (wpAny_fieldsOf hi rfl ?_);dsimp only;refine Aa (Ep ha rfl hf ?_);rw[if_neg (by simp)];cases hO with
 | drawn T places h0 hp h2=>
  dsimp only;have hTt:=hbs _ (Ae.mpr rfl);refine Aa (AQ hTt rfl ?_);have hpl:places.length=es.size:=by rw[hp.length_eq,CB]
  have hpi':(places.map λ(i:Nat)=>rawInt i).toArray[es.size]?=none:=by rw[FY,Af,Ea (by omega)];rfl
  show wpAny _ _ (match(places.map λ(i:Nat)=>rawInt i).toArray[(es.size:Int).toNat]? with | some (.int place _)=>_ | some _=>_ | none=>_) _ _ _
  rw[Ba,hpi'];dsimp only;refine Aa (BP hi rfl (by simp) ?_);have hi1:=Mr (x:= .none) (k:=0) hi (·.setIfInBounds 0 (rawInt 0));refine Aa (BP (s:={s with heap:=s.heap.update I (DT (·.setIfInBounds 0 (rawInt 0)))}) hi1 rfl (by simp) ?_)
  exact Pn (s:=s) (I:=I) hh ((AY ..).trans (AY ..)) hQ
 | text h0=>
  show wpAny _ _ (setNext a 0 (es.size:Int).toNat (ep:Int).toNat>>=_) _ _ _;rw[Oe,Ba,Ba];refine Aa (Aa (Cj ha rfl hf (Aa (LK ?_))));rw[if_pos h0];dsimp only;rw[if_neg (by simp)];unfold setWalk;refine Aa (Aa (Cj ha rfl hf (Aa (LK ?_))));rw[if_pos h0];refine Aa (Da (Ac (Ac ?_)));have hpk:(pickOrder (w.params.setOrder a ep) es)[es.size]?=none:=by have h1:=(TM (w.params.setOrder a ep) es).length_eq;rw[AG,AG] at h1;exact DP (by omega)
  show wpAny _ _ (match((pickOrder (w.params.setOrder a ep) es)[es.size]?).map λe=>(e.2,0) with | some (x,next)=>_ | none=>_) _ _ _
  rw[hpk];dsimp only[Option.map];refine Aa (BP hi rfl (by simp) ?_);exact Pn (s:=s) (I:=I) hh (AY ..) hQ
 | few h0 h2=>
  show wpAny _ _ (setNext a (if es.size=0 then(0:Int) else(t.place.getD 0 0:Int)+1).toNat (es.size:Int).toNat (ep:Int).toNat>>=_) _ _ _
  rw[Oe,Ba];refine Aa (Aa (Cj ha rfl hf (Aa (LK ?_))));rw[if_neg (by rw[h0];simp)];dsimp only;rw[if_neg (by simp;intro _;omega)];rw[hl,h0];refine Aa (m:=ite _ _ _) ?_;rw[if_neg (by simp)];refine Ac ?_;have hps:t.place.size=es.size:=by simp only[SetTable.fits,A8,beq_iff_eq] at hf;exact hf.1
  have hnone:es[Dj t.place (if es.size=0 then(0:Int) else(t.place.getD 0 0:Int)+1).toNat]?=none:=by
   generalize t.place=tp at hps;obtain⟨pl⟩:=tp;cases pl with
   | nil=>
    have:es.size=0:=by simpa using hps.symm
    exact DP (by omega)
   | cons p r=>
    cases r with
    | nil=>
     have h1:es.size=1:=by simpa using hps.symm
     rw[if_neg (by omega)];have:((([p].toArray).getD 0 0:Nat):Int)+1=((p+1:Nat):Int):=rfl;rw[this,Ba,(Tk p).2];exact DP (by omega)
    | cons q r=>
     have:es.size=r.length+2:=by simpa using hps.symm
     omega
  rw[hnone];refine Ac ?_;show wpAny _ _ (setField (.ref I) 2 .none>>=_) _ _ _;refine Aa (BP hi rfl (by simp) ?_);exact Pn (s:=s) (I:=I) hh (AY ..) hQ
theorem X2{I:Addr}{first:Value}{ep:Nat}{Q:Value→Shared→Prop}(hi:MH s.heap I a first i n ep)(h:Q (.ref I) s):wpAny (model prog w) A (pyIter (.ref I)) Q E s:=by have hT:s.TypeIs (.ref I) "set_iterator":=⟨_,hi,rfl⟩;refine wpAny_pyIter_slot hT FS.slot_si_iter (AW FS.slot_si_iter hT FS.entry_si_iter ?_ (FS.args_si_iter _));show wpAny _ _ (ret (.ref I)) _ _ s;exact Ac ⟨_,rfl,"set_iterator",_,hT,FS.slot_si_next.lookup,h⟩
theorem Yp{prog:Bv}{w:World}{I a:Addr}{es:Array (Int×Value)}{ep:Nat}{t:Cs}{f:Nat→Value}{vs:List Value}{ob:List (Addr×Obj)}(hh:A.handled=none)
 (hO:SOrd w a es ep t f vs ob) (hf:t.fits es.size=true) (hl:t.led=!Iz w) (hne:a≠I) (hob:∀p∈ob,p.1≠I):
 Walks prog w A I (I::a::ob.map (·.1)) [I] es.size (λi v=>vs[i]?=some v) (Oy w I a es ep t f ob) where
 sub:=λb hb=>by simp at hb;simp[hb]
 frame:=λi h h' st hk=>⟨hk I (by simp) _ st.1,hk a (by simp) _ st.2.1,λp hp=>hk p.1 (by simp;exact .inr (.inr ⟨p.2,hp⟩)) _ (st.2.2 p hp)⟩
 item:=λi s Q E hi st hQ=>by
  have hlen:vs.length=es.size:=by rw[hO.perm.length_eq,Ab,AG]
  refine XJ hO hf hl hne hob st (v:=vs[i]'(by omega)) (Av (by omega)) λh' st' sb=>?_;exact hQ _ h' s.toks (Av (by omega)) st' λb o hb e=>sb.extBut b o (λh=>hb (by simp[h])) e
 done:=λs Q E st hQ=>Wj hh hO hf hl hne hob st λh' he'=>hQ h' s.toks λb o hb e=>he' b o (λh=>hb (by simp[h])) e
 self:=λ_ _ _ _ st hQ=>X2 st.1 hQ
namespace FS
theorem set_len:typeLookup (.type "set") "__len__"=pure (some (.builtin "set.__len__")):=by rw[typeLookup_type,builtinLookup_eq_fast];kernel_rfl
theorem split_set_len:splitId "set.__len__"=some ("set","__len__"):=by decide+kernel
end FS
theorem XV{Q:Bool→Shared→Prop}(hT:s.TypeIs (.ref a) "set")(h:Q false s):wpAny (model prog w) A (CO (.ref a)) Q E s:=by
 unfold CO;refine Aa (Ef hT FS.set_len ?_);dsimp only;generalize Mu:("set.__len__":String)=id0;rw[show splitId id0=some ("set","__len__") from by subst Mu;exact FS.split_set_len]
 subst Mu;dsimp only;refine Aa (Dn (b:=true) hT sub_set_self ?_);simp only[Bool.not_true,BR,if_false];refine Aa (Co hT (Ac h))
set_option maxHeartbeats 1000000 in
theorem YX{ks:List Str}{Q:List Value→Shared→Prop}(hh:A.handled=none)(T:TxSet prog w s.heap a ks)
 (hQ:∀h' d' tk vs js,StrsAre vs js→js.Perm ks→s.heap.objs.size<h'.objs.size→(∀b o,s.heap.get? b=some o→h'.get? b=some o)→Q vs {s with heap:=h',drawn:=d',toks:=tk}):
 wpAny (model prog w) A (collect (.ref a)) Q E s:=by
 obtain⟨⟨es,ep,t,ho,hel,hks,hf,hled,hpl⟩,hnd,hfew⟩:=T;have hsz:es.size=ks.length:=by rw[←NZ hks,Ab,AG]
 have haS:a<s.heap.objs.size:=Ai ho;unfold collect;refine Aa (wpAny_runValue (Bf E8 ?_));rw[AK E9 _];show wpAny _ A.in1 (newList []>>=λl=>again (.builtin "list.__iadd__" ⟨[l,.ref a],[]⟩)) _ _ s;refine Aa (AN ?_);refine Ac ⟨Bd De _,Bf Fv ?_⟩;rw[AK De _];generalize hh1:s.heap.push {cls:= .type "list",data:= .seq ([]:List Value).toArray}=h1;have hk1:∀b o,s.heap.get? b=some o→h1.get? b=some o:=λb o e=>by rw[←hh1];exact Ad _ e
 have hS1:h1.get? s.heap.objs.size=some {cls:= .type "list",data:= .seq ([]:List Value).toArray}:=by rw[←hh1];exact Am _ rfl
 have hz1:s.heap.objs.size<h1.objs.size:=Ai hS1;show wpAny _ A.in1 (Bz (.ref s.heap.objs.size) (.ref a) (.ref s.heap.objs.size)) _ _ {s with heap:=h1}
 unfold Bz;have hT1:Shared.TypeIs {s with heap:=h1} (.ref a) "set":=⟨_,hk1 _ _ ho,rfl⟩
 refine Aa (Co hT1 ?_);have e1:BI (.ref s.heap.objs.size) (.ref a)=false:=by unfold BI;exact beq_eq_false_iff_ne.mpr (Bq (Aq haS))
 rw[if_neg (by rw[e1];decide)];refine Aa (X5 (s:={s with heap:=h1}) (hk1 _ _ ho) hf hpl (by rw[hsz];exact fits_of_scanBound hfew) λh2 d2 I f vs ob hO hI hi hob hk2 hI2 hob2=>?_)
 refine Aa (AS (XV (s:={s with heap:=h2,drawn:=d2}) ⟨_,hk2 _ _ (hk1 _ _ ho),rfl⟩ ?_))
 rw[if_pos (by decide)];refine Aa (BJ ?_);have hS2:h2.get? s.heap.objs.size=some {cls:= .type "list",data:= .seq ([]:List Value).toArray}:=hk2 _ _ hS1;refine Aa ?_;show wpAny _ A.in1 (updateSeq s.heap.objs.size (·.push .none)>>=λ_=>updateSeq s.heap.objs.size (·.pop)) _ _ {s with heap:=h2,drawn:=d2}
 refine Aa (BB hS2 rfl ?_);have hS3:=AM (Bm (·.push Value.none)) hS2 rfl;refine BB hS3 rfl ?_;have hS4:=AM (Bm (·.pop)) hS3 rfl;have oth:∀b o,b≠s.heap.objs.size→h2.get? b=some o→((h2.update s.heap.objs.size (Bm (·.push Value.none))).update s.heap.objs.size (Bm (·.pop))).get? b=some o:=
  λb o hb e=>(AI _ _ (Bq hb)).trans ((AI _ _ (Bq hb)).trans e)
 have hIne:I≠s.heap.objs.size:=Bq (Aq (AE hz1 hI));have hane:a≠I:=Aq (AE haS (AL (AZ hz1) hI));have hobne:∀p∈ob,p.1≠s.heap.objs.size:=λp hp=>Bq (Aq (AE hz1 (hob p hp).2.1));have W:=(Yp (prog:=prog) (A:=A.in1) (by simpa using hh) hO hf hled hane (λp hp=>(hob p hp).2.2)).toS;have hlen:vs.length=es.size:=by rw[hO.perm.length_eq,Ab,AG]
 obtain⟨js,hjs,hjp⟩:=PH hO.perm hks;refine Ac ⟨Bd D0 _,Ej W (by rw[hsz];exact fits_of_scanBound hfew) s.heap.objs.size ?_ _ es.size 0 _ _ _ rfl (Br _)
  ⟨oth _ _ hIne hi,oth _ _ (Aq haS) (hk2 _ _ (hk1 _ _ ho)),λp hp=>oth _ _ (hobne p hp) (hob p hp).1⟩ hS4 (ItemsOf.nil _) λs' acc' c' hm hS' hacc=>?_⟩
 · intro hmem;rw[Ak,Ak,Ay] at hmem;rcases hmem with h | h | ⟨p,hp,h⟩
   · exact hIne h.symm
   · exact Aq haS h.symm
   · exact hobne p hp h
 · show wpAny _ A (load s.heap.objs.size>>=_) _ _ s';refine Aa (wpAny_load hS' ?_);have hav:acc'.toList=vs:=by
    apply List.ext_getElem?;intro j;by_cases hj:j<es.size
    · have hj':j<acc'.size:=by rw[hacc.1];exact hj
      have h1:acc'.toList[j]?=some acc'[j]:=by rw[Cm];exact Ck hj'
      rw[h1];exact(hacc.2 j _ (Ck hj')).symm
    · rw[Ea (by rw[AG,hacc.1];omega),Ea (by omega)]
   obtain⟨h',g',d',tk',os'⟩:=s';have eg:g'=s.gens:=hm.gens;have ed:d'=d2:=hm.drawn;have eo:os'=s.os:=hm.os;subst eg;subst ed;subst eo;refine Ac ?_;rw[hav];refine hQ h' d' tk' vs js hjs hjp (Ai hS') λb o e=>?_;have hb:b<s.heap.objs.size:=Ai e;refine hm.heap b o ?_ (oth b o (Aq hb) (hk2 _ _ (hk1 _ _ e)));have h0:h1.objs.size≤I:=hI;simp only[Ak,AC,or_false,not_or];exact⟨Aq hb,Aq (AE hb (AL (AZ hz1) hI))⟩
theorem Zl{ks:List Str}{Q:Value→Shared→Prop}(hh:A.handled=none)(T:TxSet prog w s.heap a ks)(h64:ks.length<64)
 (h:∀(p:Addr)(h':Heap)(d':Drawn)(tk:Nat)(out:Array Value)(ms:List Str)(e:Nat),StrsAre out.toList ms→ms.Perm ks→sortedS ms=true→s.heap.objs.size≤p→h'.get? p=some (seqObj "list" out e)→
  (∀b o,s.heap.get? b=some o→h'.get? b=some o)→Q (.ref p) {s with heap:=h',drawn:=d',toks:=tk}):
 wpAny (model prog w) A (call (.builtin "sorted") [.ref a]) Q E s:=by
 refine Fb kind_sorted plain_sorted entry_sorted (args_sorted1 _) ?_;unfold Builtin.«sorted»;refine Aa (m:=checkCount "sorted" 1 1 _) (Ac ?_);refine Aa (YX (by simpa using hh) T λh1 d1 tk1 vs js hv hp hz hk=>?_);have hvl:vs.length=ks.length:=by rw[NZ hv,hp.length_eq]
 refine Aa (wpAny_newList ?_ (by rw[sizeLine_eq];omega));have hoL:(h1.push (seqObj "list" vs.toArray 0)).get? h1.objs.size=some (seqObj "list" vs.toArray 0):=Am _ rfl;show wpAny _ _ (holding _ _>>=_) _ _ {s with heap:=h1.push (seqObj "list" vs.toArray 0),drawn:=d1,toks:=tk1}
 refine Aa (AS (AW slot_list_sort ⟨_,hoL,rfl⟩ entry_list_sort (list_sort_treeK strKind_oneLt hoL hv.keysOf (λv₁ v₂ rest e=>keyKind_strs (by rw[←e];exact hv)) (by omega) λst' a1 a2=>⟨_,rfl,?_⟩) (args_list_sort _)));obtain⟨ms,m1,m2,m3⟩:=sorted_out_str hv a1 a2;obtain⟨e,he⟩:=sortedHeap_at (out:=(arrOf st').map (·.2)) hoL;refine Ac ⟨_,rfl,h h1.objs.size _ d1 tk1 _ ms e m1 (m2.trans hp) m3 (AZ hz) he λb o eb=>?_⟩
 · have hb:b<h1.objs.size:=Ai (hk b o eb);rw[sortedHeap_old (Aq hb) (by rw[size_push'];exact Dh hb)];exact Ad _ (hk b o eb)
section
variable{te:TE}{p2 p3 p4:Pos}
end
theorem Z1:typeLookup (.type "tuple") "keys"=pure none:=by rw[typeLookup_type,builtinLookup_eq_fast];kernel_rfl
set_option maxHeartbeats 4000000 in
theorem Zo{prog:Bv}{w:World}{A:BZ}{E:Value→Shared→Prop}{a:Addr}{its:Array Value}{n:Nat}{sl:Array (Option Value)}{h:Heap}{g d t os}{Q:Option Value→Shared→Prop}
 (hh:A.handled=none) (hx:h.get? a=some {cls:= .type "tuple",dict:=none,data:= .seq its n,slots:=sl})
 (q:∀h' tk,(∀b o,h.get? b=some o→h'.get? b=some o)→Q none ⟨h',g,d,tk,os⟩):wpAny (model prog w) A (getAttr? (.ref a) "keys") Q E ⟨h,g,d,t,os⟩:=by
 have y0:∀tk',(⟨h,g,d,tk',os⟩:Shared).TypeIs (.ref a) "tuple":=λ_=>⟨_,hx,rfl⟩;have y1:=sub_AttributeError;have y2:=F.slot_tuple_getattribute.lookup;have y3:=F.slot_tuple_getattribute.bind (.ref a);have y4:=am_tuple_getattr_none;unfold getAttr? getAttrBy? getAttrBy
 repeat (any_goals (first
  | assumption
  | exact y0 _
  | ((with_reducible show wpAny _ _ (call (Value.builtin "tuple.__getattribute__") _ _) _ _ _)
     refine call_meets F.slot_tuple_getattribute (y0 _) am_entry_tuple_getattribute (F.args_tuple_getattribute_2 _ _) (meets_getattribute_miss_tuple a its n sl "keys" _ Z1 (by decide+kernel)) ⟨hx,hh,λh' tk' e hx'=>?_⟩)
  | wp_step))
 obtain⟨t',u',he⟩:=hx'.there;show wpAny _ _ (getattributeRaised _ _ _ _ _ _ _) _ _ _;unfold getattributeRaised
 repeat (any_goals (first | assumption | wp_step))
 exact q _ _ hx'.keeps
theorem Pk:mroOf (.type "dict")=pure [.type "dict",.type "object"]:=by rw[mroOf_type];kernel_rfl
theorem YL:typeLookup (.type "dict") "__new__"=pure (some (.builtin "dict.__new__")):=by rw[typeLookup_type,builtinLookup_eq_fast];kernel_rfl
theorem T2:isSubtype (.type "dict") (.type "dict")=pure true:=by rw[isSubtype_type];kernel_rfl
theorem YV:TypeCalled "dict" "dict.__new__" "dict.__init__":=
 ⟨by decide+kernel,by decide+kernel,⟨_,_,Pk⟩,madeBy_type Pk YL (by decide+kernel),by decide+kernel,by rw[isSubtype_type];kernel_rfl,PySem.F.slot_dict_init⟩
theorem Zn(a:Value):checkTypeCall "dict" ⟨[a],[]⟩=pure ():=by kernel_rfl
theorem YR(a:Value):checkBuiltinCall "dict.__new__" ⟨[.type "dict",a],[]⟩=pure ():=by kernel_rfl
theorem Y_:entryFor table "dict.__new__"=some Builtin.«dict.__new__»:=Fk (by kernel_rfl)
theorem TR:plainId "dict.__new__"=true:=by decide+kernel
theorem Uj:entryFor table "dict.update.loop"=some Builtin.«dict.update.loop»:=Fk (by kernel_rfl)
theorem Oj:plainId "dict.update.loop"=true:=by decide+kernel
theorem WK(a:Value){Q₁:Value→Shared→Prop}(h:Q₁ (.ref s.heap.objs.size) {s with heap:=s.heap.push {cls:= .type "dict",data:= .dict #[]}}):
 codeAny (model prog w) A (.call (.builtin "dict.__new__") ⟨[.type "dict",a],[]⟩) (wants Q₁ E) s:=by
 refine F7 ?_;show wpAny _ A.in1 (checkBuiltinCall "dict.__new__" ⟨[.type "dict",a],[]⟩>>=λ_=>again (.builtin "dict.__new__" ⟨[.type "dict",a],[]⟩)) _ _ s;refine Aa (Du (YR a) (Ac ⟨Bd TR _,Bf Y_ ?_⟩));rw[AK TR _];have y1:=T2;have y2:=Pk;obtain⟨hp,g,d,tk,os⟩:=s
 wp_walk
 exact h
structure Pr(P:Bv)(w:World)where
 k:Ic
 key:Value
 v:Value
 p:Addr
 is:(Jg P w).is k key=true
theorem QS{d it t:Addr}{vs:Array Value}{R:Result→Shared→Prop}(hh:A.handled=none)(dt:d≠t)(di:d≠it)(ti:t≠it):∀(rest:List (Pr prog w))(i:Nat)(kvs:List (Ic×Value))(s:Shared),
 s.heap.IsTupleIter it t i→s.heap.IsTuple t vs→vs.toList.drop i=rest.map (λr=> .ref r.p)→(∀r∈rest,s.heap.IsTuple r.p #[r.key,r.v]∧r.p≠d∧r.p≠it)→s.heap.DictOf (Jg prog w) d kvs→kvs.length+rest.length≤Au→
 (∀h' tk,h'.DictOf (Jg prog w) d (rest.foldl (λacc r=>stored acc r.k r.v) kvs)→(∀b o,b≠d→b≠it→s.heap.get? b=some o→h'.get? b=some o)→R (.ok (.ret .none)) {s with heap:=h',toks:=tk})→
 codeAny (model prog w) A (.builtin "dict.update.loop" ⟨[.ref d,.ref it,rawInt i,.none],[]⟩) R s
 | [],i,kvs,s,h1,h2,h3,h4,h5,h6,q=>by
  refine Bf Uj ?_;rw[AK Oj _];show wpAny _ _ (pyNext (.ref it)>>=_) _ _ _;have hv:vs[i]?=none:=by have:vs.toList.length≤i:=List.drop_eq_nil_iff.mp h3;rw[Array.getElem?_eq_none_iff];simpa using this
  refine Aa (FG (A:=A.in1) hh h1 h2 hv λh' eb=>?_);show wpAny _ _ (Builtin.Dict.addKeywords d []>>=λ_=>ret .none) _ _ _;refine Aa (Ac (Ac ?_));exact q h' _ (h5.extBut eb di) (λb o hb hb2 e=>eb b o hb2 e)
 | r::rest,i,kvs,s,h1,h2,h3,h4,h5,h6,q=>by
  refine Bf Uj ?_;rw[AK Oj _];show wpAny _ _ (pyNext (.ref it)>>=_) _ _ _;have hl:i<vs.toList.length:=by
   rcases Nat.lt_or_ge i vs.toList.length with z | z
   · exact z
   · rw[FM z] at h3;cases h3
  have hv:vs[i]?=some (.ref r.p):=by
   rw[CU hl,A0] at h3;injection h3 with e1 e2
   rw[←e1];simp at hl ⊢
  have h3':vs.toList.drop (i+1)=rest.map (λr=> .ref r.p):=by rw[CU hl,A0] at h3;injection h3
  obtain⟨hp,pd,pi⟩:=h4 r (AA ..);refine Aa (Fq h1 h2 hv λh' st' sb=>?_);have hp':h'.IsTuple r.p #[r.key,r.v]:=hp.extBut sb.extBut pi;show wpAny _ _ (holding [.ref r.p] _>>=_) _ _ _;refine Aa (AS (Aa (Ch ?_)));obtain⟨ob,e1,e2,nn,e3⟩:=hp';unfold Builtin.Dict.pairItems;refine Aa (Co (s:={s with heap:=h'}) ⟨ob,e1,e2⟩ ?_);rw[if_pos (by decide)];refine Aa (AQ (s:={s with heap:=h'}) e1 e3 (Ac ?_));show wpAny _ _ (holding [r.key,r.v] (dictSet d r.key r.v)) _ _ _;refine AS (wpAny_dictSet_pairs (s:={s with heap:=h'}) (knd:=Jg prog w) r.is (h5.extBut sb.extBut di) (λh2' hd2 sb2=>?_) (by rw[AF] at h6;omega));refine Ac ⟨Bd Oj _,?_⟩;have ks:(stored kvs r.k r.v).length≤kvs.length+1:=by
   unfold stored
   split
   · rw[Ab];omega
   · rw[A5,DZ];omega
  have:=QS (R:=R) hh dt di ti rest (i+1) (stored kvs r.k r.v) {s with heap:=h2',toks:=s.toks+1} (st'.extBut sb2.extBut di.symm) ((h2.extBut sb.extBut ti).extBut sb2.extBut dt.symm) h3'
   (λr' hr'=>by obtain⟨a1,a2,a3⟩:=h4 r' (AB _ hr');exact⟨(a1.extBut sb.extBut a3).extBut sb2.extBut a2,a2,a3⟩) hd2 (by rw[AF] at h6;omega)
   (λh3 tk a1 a2=>q h3 tk a1 (λb o hb hb2 e=>a2 b o hb hb2 (sb2.extBut b o hb (sb.extBut b o hb2 e))))
  exact this
def VD:List V→Hp→VK→Prop:=λxs H Q=>∃(a:Addr)(prs:List (Addr×Ic×V)),xs=[.ref a]∧H a=some (.tup (prs.map λp=>V.ref p.1))∧(∀p∈prs,H p.1=some (.tup [kV p.2.1,p.2.2]))∧
 ∀d,H d=none→Q (.ref d) (HI H d (.dK (prs.foldl (λacc p=>Ii acc p.2.1 p.2.2) [])))
theorem QZ(ok:HOk P w H h):∀prs:List (Addr×Ic×V),(∀p∈prs,H p.1=some (.tup [kV p.2.1,p.2.2]))→
 ∃rs:List (Pr P w),rs.map (λr=>r.p)=prs.map (·.1)∧(∀r∈rs,h.IsTuple r.p #[r.key,r.v])∧∀(kvs:List (Ic×V))(vs:List (Ic×Value)),KV kvs vs→KV (prs.foldl (λacc p=>Ii acc p.2.1 p.2.2) kvs) (rs.foldl (λacc r=>stored acc r.k r.v) vs)
 | [],_=>⟨[],rfl,λr hr=>by simp at hr,λkvs vs r=>r⟩
 | p::prs,hp=>by
  obtain⟨rs,e1,e2,e3⟩:=QZ ok prs (λq hq=>hp q (AB _ hq));obtain⟨_,its,r,tp⟩:=(show ObjOk P w H h p.1 (.tup [kV p.2.1,p.2.2]) from ok p.1 _ (hp p (AA ..)));obtain⟨u1,u2,rfl,r1,r2⟩:=LZ r;refine⟨⟨p.2.1,u1,u2,p.1,LB r1⟩::rs,by rw[A0,A0,e1],λq hq=>?_,λkvs vs rv=>?_⟩
  · rcases Ak.mp hq with rfl | hq
    · exact tp.tup
    · exact e2 q hq
  · rw[F8,F8];exact e3 _ _ (rv.put p.2.1 r2)
theorem Y0(hc:X.calm=true):J5 X (.type "dict") VD:=by
 intro pins s σ H xs us Q I r h;obtain⟨a,prs,rfl,ha,hp,q⟩:=h;obtain⟨u,rfl,rx⟩:=J6 r;cases rx;obtain⟨zl,its,rv,o,e1,e2,e3,n,e4⟩:=(show ObjOk X.prog X.w H s.heap a (.tup (prs.map λp=>V.ref p.1)) from I.hok a _ ha);obtain⟨oc,od,odat,osl⟩:=o;cases e2;cases e3;cases e4;have hh:=I.ok.hd hc;have sz:s.heap.objs.size≠a:=C1 (Ai e1);refine callType_codes (Q₁:=λobj s₁=>obj= .ref s.heap.objs.size∧s₁={s with heap:=s.heap.push {cls:= .type "dict",data:= .dict #[]}}) YV (Zn _) PySem.F.entry_dict_init (WK _ ⟨rfl,rfl⟩) λobj s₁ h₁=>?_
 obtain⟨rfl,rfl⟩:=h₁;have I1:=I.laid (a:=s.heap.objs.size) (o:= .dK []) (h':=s.heap.push {cls:= .type "dict",data:= .dict #[]}) (t':=s.toks) (λ_ _ q=>Ad _ q) (Ag _) (OX s.heap I.big);have hD:(s.heap.push {cls:= .type "dict",data:= .dict #[]}).get? s.heap.objs.size=some {cls:= .type "dict",data:= .dict #[]}:=Am _ rfl;refine⟨⟨_,hD,rfl⟩,PySem.F.args_dict_init_2 _ _,?_⟩;have hT:Shared.TypeIs {s with heap:=s.heap.push {cls:= .type "dict",data:= .dict #[]}} (.ref s.heap.objs.size) "dict":=⟨_,hD,rfl⟩;have hA:(s.heap.push {cls:= .type "dict",data:= .dict #[]}).get? a=some {cls:= .type "tuple",dict:=none,data:= .seq its.toArray n,slots:=osl}:=Ad _ e1;unfold Builtin.«dict.__init__» Builtin.Dict.selfAndRest;refine Aa (Aa (wpAny_notOrdered_dict hT (Ac ?_)));show wpAny _ _ (Fw "dict.__init__" s.heap.objs.size (.ref a) [] .none) _ _ _;unfold Fw;refine Aa (Co (s:={s with heap:=s.heap.push {cls:= .type "dict",data:= .dict #[]}}) ⟨_,hA,rfl⟩ ?_);rw[if_pos (by decide)];obtain⟨rs,r1,r2,r3⟩:=QZ I.hok prs hp;have hits:its=rs.map (λr=>Value.ref r.p):=by
  have e:∀(l:List (Addr×Ic×V))(m:List Value),Vals (l.map λp=>V.ref p.1) m→m=(l.map (·.1)).map Value.ref:=by
   intro l
   induction l with
   | nil=>intro m q;cases q;rfl
   | cons p l ih=>
    intro m q;cases q with
    | cons q1 q2=>cases q1;rw[ih _ q2];rfl
  rw[e prs its rv,←r1,BA];rfl
 have hlen:rs.length=prs.length:=by have:=congrArg Bi r1;simpa using this
 rw[Ab] at zl;have hsys:=I.big;obtain⟨hp0,g,dr,tk0,os⟩:=s;refine Aa (Zo (A:=X.A.in1.in1) hh hA λh' tk kp=>?_);simp only[Option.isNone_none,if_true];have kp0:∀b o,hp0.get? b=some o→h'.get? b=some o:=λb o e=>kp b o (Ad _ e);have I2:Inv X pins σ (HI H hp0.objs.size (.dK [])) ⟨h',g,dr,tk,os⟩:=I1.kept (t':=tk) kp;have hA':h'.IsTuple a its.toArray:=⟨_,kp _ _ hA,rfl,_,rfl⟩;have dlt:hp0.objs.size<h'.objs.size:=Ai (kp _ _ hD);have alt:a<h'.objs.size:=Ai (kp _ _ hA);refine Aa (BJ (Aa (C6 (s:=⟨h',g,dr,tk,os⟩) hA' (Ac ⟨Bd Oj _,?_⟩))));obtain⟨zd,hd,vs0,rk0,dd⟩:=O2 I2.hok (show(HI H hp0.objs.size (.dK [])) hp0.objs.size=some (.dK []) from HK);cases rk0;refine QS (A:=X.A.in1) hh sz (Aq dlt) (Aq alt) rs 0 [] _ ⟨_,Am _ rfl,rfl,rfl⟩ (EV hA' _) ?_ ?_ (dd.push _) ?_ ?_
 · rw[Et,←hits]
 · intro r hr;have t0:=r2 r hr;have plt:r.p<hp0.objs.size:=by
    obtain⟨o,e,_⟩:=t0;exact Ai e
   exact⟨EV (t0.at λo e=>kp0 _ o e) _,Aq plt,Aq (BW plt dlt)⟩
 · rw[hlen];simpa using zl
 · intro h2 tk2 hd2 k2;have k3:∀b u,b≠hp0.objs.size→h'.get? b=some u→h2.get? b=some u:=λb u hb e=>k2 b u hb (Aq (Ai e)) (Ad _ e);have he:∃q,h2.get? hp0.objs.size=some q:=let⟨q,_,_,hq,_⟩:=hd2;⟨q,hq⟩;have hz:(prs.foldl (λacc p=>Ii acc p.2.1 p.2.2) []).length≤Au:=by
    have len:∀(l:List (Addr×Ic×V))(acc:List (Ic×V)),(l.foldl (λacc p=>Ii acc p.2.1 p.2.2) acc).length≤acc.length+l.length:=by
     intro l
     induction l with
     | nil=>intro acc;exact Ag _
     | cons p l ih=> intro acc;rw[F8,AF];have h1:=ih (Ii acc p.2.1 p.2.2);have h2:=MN acc p.2.1 p.2.2;omega
    have:=len prs [];simp at this;omega
   have I3:=I2.write (x:=hp0.objs.size) (e:=hp0.objs.size) (o:= .dK (prs.foldl (λacc p=>Ii acc p.2.1 p.2.2) [])) (t':=tk2) (by rw[HK];exact True.intro) (.inl rfl) k3 he (O9 hz hd (r3 [] [] .nil) hd2);rw[Wx] at I3;exact⟨rfl,.ref hp0.objs.size,_,I3,rfl,q _ (I.hok.fresh (Ag _))⟩
namespace FS
theorem dict_len:typeLookup (.type "dict") "__len__"=pure (some (.builtin "dict.__len__")):=by rw[typeLookup_type,builtinLookup_eq_fast];kernel_rfl
theorem split_dict_len:splitId "dict.__len__"=some ("dict","__len__"):=by decide+kernel
end FS
section
theorem Te{Q:Bool→Shared→Prop}(hT:s.TypeIs (.ref a) "dict")(h:Q false s):wpAny (model prog w) A (CO (.ref a)) Q E s:=by
 unfold CO;refine Aa (Ef hT FS.dict_len ?_);dsimp only;generalize Mu:("dict.__len__":String)=id0;rw[show splitId id0=some ("dict","__len__") from by subst Mu;exact FS.split_dict_len]
 subst Mu;dsimp only;refine Aa (Dn (b:=true) hT T2 ?_);simp only[Bool.not_true,BR,if_false];refine Aa (Co hT (Ac h))
variable{κ:Type}[DecidableEq κ]{knd:PySem.KeyKind prog w κ}
set_option maxHeartbeats 1000000 in
theorem YW{kvs:List (κ×Value)}{ep:Nat}{Q:List Value→Shared→Prop}(hh:A.handled=none)(hs:(a==Cb)=false)(D:s.heap.DictAt knd a kvs ep)(hz:kvs.length≤Au)
 (hQ:∀(h':Heap)(tk:Nat)(vs:List Value),vs.length=kvs.length→(∀(i:Nat)(v:Value),vs[i]?=some v→∃k u,kvs[i]?=some (k,u)∧knd.is k v=true)→s.heap.objs.size<h'.objs.size→(∀b o,s.heap.get? b=some o→h'.get? b=some o)→Q vs {s with heap:=h',toks:=tk}):
 wpAny (model prog w) A (collect (.ref a)) Q E s:=by
 have haS:a<s.heap.objs.size:=D.lt_size;unfold collect;refine Aa (wpAny_runValue (Bf E8 ?_));rw[AK E9 _];show wpAny _ A.in1 (newList []>>=λl=>again (.builtin "list.__iadd__" ⟨[l,.ref a],[]⟩)) _ _ s;refine Aa (AN ?_);refine Ac ⟨Bd De _,Bf Fv ?_⟩;rw[AK De _];generalize hh1:s.heap.push {cls:= .type "list",data:= .seq ([]:List Value).toArray}=h1;have hk1:∀b o,s.heap.get? b=some o→h1.get? b=some o:=λb o e=>by rw[←hh1];exact Ad _ e
 have hS1:h1.get? s.heap.objs.size=some {cls:= .type "list",data:= .seq ([]:List Value).toArray}:=by rw[←hh1];exact Am _ rfl
 have hz1:s.heap.objs.size<h1.objs.size:=Ai hS1;have D1:h1.DictAt knd a kvs ep:=D.keep hk1;show wpAny _ A.in1 (Bz (.ref s.heap.objs.size) (.ref a) (.ref s.heap.objs.size)) _ _ {s with heap:=h1}
 unfold Bz;have hT1:Shared.TypeIs {s with heap:=h1} (.ref a) "dict":=D1.dictOf.typeIs
 refine Aa (Co hT1 ?_);have e1:BI (.ref s.heap.objs.size) (.ref a)=false:=by unfold BI;exact beq_eq_false_iff_ne.mpr (Bq (Aq haS))
 rw[if_neg (by rw[e1];decide)];refine Aa (wpAny_pyIter_dict (s:={s with heap:=h1}) (knd:=knd) hs D1 ?_)
 generalize hh2:h1.push {cls:= .type "dict_keyiterator",data:= .fields #[.ref a,.int 0 0,.int kvs.length 0,.int ep 0]}=h2;have hk2:∀b o,h1.get? b=some o→h2.get? b=some o:=λb o e=>by rw[←hh2];exact Ad _ e
 have hi:h2.IsKeyIter h1.objs.size a 0 kvs.length ep:=by rw[←hh2];exact⟨_,Am _ rfl,rfl,rfl⟩
 have D2:h2.DictAt knd a kvs ep:=D1.keep hk2;show wpAny _ A.in1 _ _ _ {s with heap:=h2}
 refine Aa (AS (Te (s:={s with heap:=h2}) D2.dictOf.typeIs ?_))
 rw[if_pos (by decide)];refine Aa (BJ ?_);have hS2:h2.get? s.heap.objs.size=some {cls:= .type "list",data:= .seq ([]:List Value).toArray}:=hk2 _ _ hS1;refine Aa ?_;show wpAny _ A.in1 (updateSeq s.heap.objs.size (·.push .none)>>=λ_=>updateSeq s.heap.objs.size (·.pop)) _ _ {s with heap:=h2}
 refine Aa (BB hS2 rfl ?_);have hS3:=AM (Bm (·.push Value.none)) hS2 rfl;refine BB hS3 rfl ?_;have hS4:=AM (Bm (·.pop)) hS3 rfl;have oth:∀b o,b≠s.heap.objs.size→h2.get? b=some o→((h2.update s.heap.objs.size (Bm (·.push Value.none))).update s.heap.objs.size (Bm (·.pop))).get? b=some o:=
  λb o hb e=>(AI _ _ (Bq hb)).trans ((AI _ _ (Bq hb)).trans e)
 have hIne:h1.objs.size≠s.heap.objs.size:=Bq (Aq hz1);have hane:a≠h1.objs.size:=Aq (BW haS hz1);have ext:Dg s.heap.objs.size h2 ((h2.update s.heap.objs.size (Bm (·.push Value.none))).update s.heap.objs.size (Bm (·.pop))):=λb o hb e=>oth b o hb e;have W:=(Walks.dictKeys (knd:=knd) (A:=A.in1) (by simpa using hh) h1.objs.size a hane kvs ep).toS;refine Ac ⟨Bd D0 _,Ej W hz s.heap.objs.size ?_ _ kvs.length 0 _ _ _ rfl (Br _)
  ⟨hi.extBut ext hIne,D2.extBut ext (Aq haS)⟩ hS4 (ItemsOf.nil _) λs' acc' c' hm hS' hacc=>?_⟩
 · intro hmem;rw[Ak,Ae] at hmem;rcases hmem with h | h
   · exact hIne h.symm
   · exact Aq haS h.symm
 · show wpAny _ A (load s.heap.objs.size>>=_) _ _ s';refine Aa (wpAny_load hS' ?_);obtain⟨h',g',d',tk',os'⟩:=s';have eg:g'=s.gens:=hm.gens;have ed:d'=s.drawn:=hm.drawn;have eo:os'=s.os:=hm.os;subst eg;subst ed;subst eo;refine Ac ?_;refine hQ h' tk' acc'.toList (by rw[AG];exact hacc.1) (λi v hv=>?_) (Ai hS') λb o e=>?_
   · exact hacc.2 i v (by rw[←Cm];exact hv)
   · have hb:b<s.heap.objs.size:=Ai e;refine hm.heap b o ?_ (oth b o (Aq hb) (hk2 _ _ (hk1 _ _ e)));simp only[Ak,AC,or_false,not_or];exact⟨Aq hb,Aq (BW hb hz1)⟩
theorem PJ:∀(fs:List Str)(vs:List Value),vs.length=fs.length→(∀(i:Nat)(v:Value)(f:Str),vs[i]?=some v→fs[i]?=some f→(Jg prog w).is (.inr f) v=true)→StrsAre vs fs
 | [],[],_,_=> .nil
 | [],_::_,h,_=>by simp at h
 | _::_,[],h,_=>by simp at h
 | f::fs,v::vs,h,q=>by have h0:=q 0 v f rfl rfl;rw[YC] at h0;obtain⟨t,rfl⟩:∃t,v= .str f t:=En h0;exact .cons f t (PJ fs vs (by simpa using h) λi v f' hv hf=>q (i+1) v f' (by simpa using hv) (by simpa using hf))
end
open PySem.W PyProof.Rows
namespace KS
variable{lt:Nat→Nat→Bool}{N:Nat}
end KS
end L2
set_option maxHeartbeats 1000000
namespace L2
open PySem PySem.Spec PyProof.Rows PySem.W
def JG:V→Bool
 | .non=>true
 | .int _=>true
 | _=>false
def QB:V→V→Bool
 | .int i,.int j=>decide (i≤j)
 | _,_=>true
def Kc(H:Hp):V→Bool
 | .ref a=>match H a with
  | some (.tup [x,y])=>JG x && JG y && QB x y
  | _=>false
 | _=>false
def SpanAt(H:Hp)(v:V)(lo hi:Option Int):Prop:=∃a,v= .ref a∧H a=some (.tup [eV lo,eV hi])
def IY:Option Int→Option Int→Bool
 | some i,some j=>decide (i≤j)
 | _,_=>true
theorem Tg{v:V}{lo hi:Option Int}(h:SpanAt H v lo hi):Kc H v=IY lo hi:=by obtain⟨a,rfl,e⟩:=h;unfold Kc;simp only[e];cases lo<;>cases hi<;>simp[eV,JG,QB,IY]
theorem Rh(o:Option Int):∃t,TyOf K H (eV o) (.type t):=by
 cases o with
 | none=>exact⟨_,.non⟩
 | some i=>exact⟨_,.int i⟩
def NO(K:Ao):Sp:=λvs H Q _=>∃(v:V)(t:String),vs=[v]∧TyOf K H v (.type t)∧Q (.bl (t=="int")) H
def Ra(K:Ao):Sp:=λvs H Q _=>∃(v:V)(t:String),vs=[v]∧TyOf K H v (.type t)∧Q (.bl (JG v)) H
def OC(K:Ao)(H:Hp)(v:V):Prop:=∀a x y,v= .ref a→H a=some (.tup [x,y])→∃t1 t2,TyOf K H x (.type t1)∧TyOf K H y (.type t2)
def SD(K:Ao):Sp:=λvs H Q _=>∃(v:V)(t:String),vs=[v]∧TyOf K H v (.type t)∧OC K H v∧Q (.bl (Kc H v)) H
def RW(K:Ao):Sp:=λvs H Q _=>∃(v:V)(t:String),vs=[v]∧TyOf K H v (.type t)∧OC K H v∧Kc H v=true∧Q .non H
theorem SpanAt.ty{v:V}{lo hi:Option Int}(h:SpanAt H v lo hi):TyOf K H v (.type "tuple")∧OC K H v:=by obtain⟨a,rfl,q⟩:=h;refine⟨.tup q,λa' x y e q'=>?_⟩;cases e;rw[q] at q';injection q' with q';injection q' with q';injection q' with e1 e2;injection e2 with e2 _;subst e1 e2;obtain⟨t1,h1⟩:=Rh (K:=K) (H:=H) lo;obtain⟨t2,h2⟩:=Rh (K:=K) (H:=H) hi;exact⟨t1,t2,h1,h2⟩
def Jm:Option Int→Option Int→Option Int
 | none,o=>o
 | some l,none=>some l
 | some l,some o=>some (if l<o then o else l)
def Jn:Option Int→Option Int→Option Int
 | none,o=>o
 | some h,none=>some h
 | some h,some o=>some (if o<h then o else h)
def IN:Option Int→Option Int→Bool
 | some l,some h=>decide (h<l)
 | _,_=>false
def NB(H:Hp)(v:V)(lo hi:Option Int):Prop:=if IN lo hi=true then v= .non else SpanAt H v lo hi
def Jb:Option Int→Int→Bool
 | none,_=>true
 | some l,k=>decide (l≤k)
def Jd:Option Int→Int→Bool
 | none,_=>true
 | some h,k=>decide (k≤h)
def Im(lo hi:Option Int)(k:Int):Bool:=Jb lo k && Jd hi k
def SG:Sp:=λvs H Q _=>∃(v w:V)(lo hi lo2 hi2:Option Int),vs=[v,w]∧SpanAt H v lo hi∧SpanAt H w lo2 hi2∧∀v' H',Same H H'→NB H' v' (Jm lo lo2) (Jn hi hi2)→Q v' H'
theorem Wk(o1 o2:Option Int):∃ns:List Int,([o1,o2].filter EM).map eV=ns.map V.int∧NC (λi j=>decide (j<i)) ns .non=eV (Jm o1 o2):=by
 cases o1 with
 | none=>
  cases o2 with
  | none=>exact⟨[],rfl,rfl⟩
  | some b=>exact⟨[b],rfl,rfl⟩
 | some a=>
  cases o2 with
  | none=>exact⟨[a],rfl,rfl⟩
  | some b=>
   refine⟨[a,b],rfl,?_⟩;show V.int (if decide (a<b)=true then b else a)=V.int (if a<b then b else a)
   by_cases h:a<b
   · rw[if_pos (decide_eq_true h),if_pos h]
   · rw[if_neg (by rw[decide_eq_false h];exact As),if_neg h]
theorem Wl(o1 o2:Option Int):∃ns:List Int,([o1,o2].filter EM).map eV=ns.map V.int∧NC (λi j=>decide (i<j)) ns .non=eV (Jn o1 o2):=by
 cases o1 with
 | none=>
  cases o2 with
  | none=>exact⟨[],rfl,rfl⟩
  | some b=>exact⟨[b],rfl,rfl⟩
 | some a=>
  cases o2 with
  | none=>exact⟨[a],rfl,rfl⟩
  | some b=>
   refine⟨[a,b],rfl,?_⟩;show V.int (if decide (b<a)=true then b else a)=V.int (if b<a then b else a)
   by_cases h:b<a
   · rw[if_pos (decide_eq_true h),if_pos h]
   · rw[if_neg (by rw[decide_eq_false h];exact As),if_neg h]
abbrev T15:Int:=1000000000000000
theorem L6:(10:Int)^(15:Int).toNat=T15:=by decide
theorem Jz{j:Int}(h0:0≤j)(h1:j≤1000):QY 10 j:=⟨h0,h1,by decide⟩
theorem Mz(lo hi lo2 hi2:Option Int)(k:Int):Im (Jm lo lo2) (Jn hi hi2) k=(Im lo hi k && Im lo2 hi2 k):=by cases lo<;>cases hi<;>cases lo2<;>cases hi2<;>simp only[Im,Jb,Jd,Jm,Jn,Bool.true_and,EH]<;>rw[Bt]<;>simp<;>(try split)<;>(try split)<;>omega
theorem Wc{lo hi:Option Int}(h:IN lo hi=true)(k:Int):Im lo hi k=false:=by
 cases lo with
 | none=>cases h
 | some l=>
  cases hi with
  | none=>cases h
  | some j=>
   have h:decide (j<l)=true:=h;have h:=of_decide_eq_true h;simp only[Im,Jb,Jd];by_cases h1:l≤k
   · rw[decide_eq_true h1,decide_eq_false (by omega)];rfl
   · rw[decide_eq_false h1];rfl
def dE:Option Int→PD
 | none=> .non
 | some i=> .int i
theorem R1(o:Option Int):HJ K H (dE o) (eV o):=by
 cases o with
 | none=>show HJ K H .non .non;rw[HJ]
 | some i=>show HJ K H (.int i) (.int i);rw[HJ]
def Lw(c:Nat):Bool:=decide (97≤c) && decide (c≤122)
structure FieldOk(x:Str):Prop where
 one:1≤x.length
 eight:x.length≤8
 all:∀c∈x.cps.toList,Lw c=true
theorem UT:("a":Str).cps.toList=[97]:=by decide+kernel
theorem UU:("z":Str).cps.toList=[122]:=by decide+kernel
theorem QF{c:Nat}(h:Lw c=true):(!decide ((⟨#[c]⟩:Str).cps.toList<("a":Str).cps.toList))=true:=by
 rw[UT];have h1:97≤c:=of_decide_eq_true ((A8 _ _).mp h).1;have:¬([c]:List Nat)<[97]:=by
  intro z;cases z with
  | rel z=>exact absurd z (by omega)
  | cons z=>cases z
 show(!decide (([c]:List Nat)<[97]))=true;rw[decide_eq_false this];rfl
theorem QA{c:Nat}(h:Lw c=true):(!decide (("z":Str).cps.toList<(⟨#[c]⟩:Str).cps.toList))=true:=by
 rw[UU];have h1:c≤122:=of_decide_eq_true ((A8 _ _).mp h).2;have:¬([122]:List Nat)<[c]:=by
  intro z;cases z with
  | rel z=>exact absurd z (by omega)
  | cons z=>cases z
 show(!decide (([122]:List Nat)<[c]))=true;rw[decide_eq_false this];rfl
def RX:Sp:=λvs H Q _=>∃x:Str,vs=[.str x]∧FieldOk x∧∀H',Same H H'→Q (.bl true) H'
def US(H:Hp)(p:Addr)(f:Str)(lo hi:Option Int):Prop:=H p=some (.tup [.str f,eV lo,eV hi])
def Uc:Sp:=λvs H Q _=>∃(p:Addr)(f:Str)(lo hi:Option Int),vs=[.ref p]∧US H p f lo hi∧FieldOk f∧IY lo hi=true∧∀H',Same H H'→Q (.bl true) H'
def Ix(f g:Str):Prop:=f.cps.toList<g.cps.toList
def SB:Sp:=λvs H Q _=>∃(a:Addr)(ps:List (Addr×Str×List V)),vs=[.ref a]∧H a=some (.tup (ps.map λp=>V.ref p.1))∧ps.length≤100∧(∀p∈ps,H p.1=some (.tup (V.str p.2.1::p.2.2)))∧
 (∀(i:Nat)p q,ps[i]?=some p→ps[i+1]?=some q→Ix p.2.1 q.2.1)∧∀H',Same H H'→Q (.bl true) H'
abbrev WP:=Str×Option Int×Option Int
def WishAt(H:Hp)(a:Addr)(w:List WP):Prop:=∃ps:List (Addr×WP),ps.map (·.2)=w∧H a=some (.tup (ps.map λp=>V.ref p.1))∧∀p∈ps,H p.1=some (.tup [.str p.2.1,eV p.2.2.1,eV p.2.2.2])
theorem WishAt.keep{H':Hp}{w:List WP}(h:WishAt H a w)(s:Tups H H'):WishAt H' a w:=by obtain⟨ps,e,h1,h2⟩:=h;exact⟨ps,e,s _ _ h1,λp hp=>s _ _ (h2 p hp)⟩
theorem WishAt.same{H':Hp}{w:List WP}(h:WishAt H a w)(s:Same H H'):WishAt H' a w:=h.keep s.tups
structure WOk(w:List WP):Prop where
 len:w.length≤100
 ok:∀p∈w,FieldOk p.1∧IY p.2.1 p.2.2=true
 asc:(w.map (·.1)).Pairwise Ix
def HZ(w:List WP)(f:Str):Option (Option Int×Option Int):=(w.find? (λp=>decide (p.1=f))).map (·.2)
theorem Zm{w:List WP}{f:Str}(h:∀p∈w,p.1≠f):HZ w f=none:=by unfold HZ;rw[DD.mpr λp hp z=>h p hp (of_decide_eq_true z)];rfl
theorem Ur(w:List WP)(p:WP)(f:Str)(hn:HZ w p.1=none):HZ (w++[p]) f=if f=p.1 then some p.2 else HZ w f:=by
 unfold HZ at*;rw[List.find?_append];by_cases h:f=p.1
 · subst h;rw[if_pos rfl];cases e:w.find? (λq=>decide (q.1=p.1)) with
   | some q=>rw[e] at hn;cases hn
   | none=>simp
 · rw[if_neg h];cases e:w.find? (λq=>decide (q.1=f)) with
   | some q=>rfl
   | none=>simp;exact λz=>h z.symm
theorem KP{f g:Str}(h:Ix f g):f≠g:=λe=>by subst e;exact Eu _ h
theorem WOk.fresh{w:List WP}(h:WOk w){p:WP}(hp:w[i]?=some p):HZ (w.take i) p.1=none:=by
 refine Zm λq hq e=>?_;obtain⟨j,hj⟩:=Gh hq;rw[EA] at hj
 split at hj
 · rename_i lt;have hi:i<w.length:=(Al.mp hp).1;have:=CV.mp h.asc j i (by rw[Ab];omega) (by rw[Ab];exact hi) lt;rw[Do,Do] at this;have e1:w[j]'(by omega)=q:=(Al.mp hj).2;have e2:w[i]=p:=(Al.mp hp).2;rw[e1,e2] at this;exact KP this e
 · cases hj
def SE:Sp:=λvs H Q _=>∃(a:Addr)(w:List WP),vs=[.ref a]∧WishAt H a w∧WOk w∧∀H',Same H H'→Q (.bl true) H'
def Mw:Option Int→Option Int→Int
 | some l,_=>l
 | none,some h=>h
 | none,none=>0
def Rc:Sp:=λvs H Q _=>∃(v:V)(lo hi:Option Int),vs=[v]∧SpanAt H v lo hi∧IY lo hi=true∧Q (match lo,hi with | some l,some h=> .int (h - l+1) | _,_=> .non) H
abbrev PP:=Str×Int
def PieceAt(H:Hp)(a:Addr)(w:List PP):Prop:=∃ps:List (Addr×PP),ps.map (·.2)=w∧H a=some (.tup (ps.map λp=>V.ref p.1))∧∀p∈ps,H p.1=some (.tup [.str p.2.1,.int p.2.2])
theorem UE{K:Ao}{a p:Addr}{xs:List V}{g:TG}{tc:TT}{tk tv:TE}{Q:VK}{js:IT}(Pv:Nat→St→List (Ic×V)→Hp→Prop)(h0:Pv 0 (Jo js σ) [] (HI H p (.dK [])))
 (hl:∀i σ kvs H,i≤xs.length→Pv i σ kvs H→SqT K H a xs∧H p=some (.dK kvs)∧kvs.length<Au)
 (hs:∀(i:Nat)x σ kvs H(N:St→List (Ic×V)→Hp→Prop),xs[i]?=some x→Pv i σ kvs H→(∀σ' kvs' H',Pv (i+1) σ' kvs' H'→N σ' kvs' H')→g x σ H λσ2 H2=>tc σ2 H2 λb H3=> if b=true then tk σ2 H3 λk H4=>tv σ2 H4 λy H5=>∃ky,k=kV ky∧H5 p=some (.dK kvs)∧N σ2 (Ii kvs ky y) (HI H5 p (.dK (Ii kvs ky y))) else N σ2 kvs H3)
 (hd:∀σ kvs H,Pv xs.length σ kvs H→Q (.ref p) H):OB (KJ K a) p js g tc tk tv σ H Q:=by
 refine⟨λi m σ kvs H=>m=xs.length - i∧i≤xs.length∧Pv i σ kvs H,⟨xs.length,by simp,Br _,h0⟩,?_⟩;rintro i m σ kvs H ⟨rfl,hi,pv⟩;obtain⟨q0,q1,q2⟩:=hl i σ kvs H hi pv;refine⟨q1,?_⟩;by_cases lt:i<xs.length
 · refine .inr ⟨⟨xs,xs[i],q0,by simp[lt]⟩,q2,λx H' y=>?_⟩;obtain⟨e,y⟩:=y;subst e;exact hs i x σ kvs H' (λσ2 kvs2 H2=>∃m',m'<xs.length - i∧m'=xs.length - (i+1)∧i+1≤xs.length∧Pv (i+1) σ2 kvs2 H2) (y xs q0) pv λσ' ys' H' p'=>⟨xs.length - (i+1),by omega,rfl,lt,p'⟩
 · have e:i=xs.length:=by omega
   subst e;exact .inl ⟨⟨xs,q0,Ag _⟩,hd σ kvs H pv⟩
theorem Wu{y:Str}(h:x.cps.toList=y.cps.toList):x=y:=by obtain⟨a⟩:=x;obtain⟨b⟩:=y;congr;exact Array.toList_inj.mp h
theorem Sa{y:Str}(h:¬Ix x y)(n:x≠y):Ix y x:=by
 unfold Ix at*;rcases Std.lt_trichotomy (α:=List Nat) x.cps.toList y.cps.toList with h1 | h1 | h1
 · exact absurd h1 h
 · exact absurd (Wu h1) n
 · exact h1
theorem NT{y z:Str}(h:Ix x y)(h2:Ix y z):Ix x z:=List.lt_trans h h2
theorem Tq:∀(r:List Str)(p:Str),risingS p r=true→(p::r).Nodup→(p::r).Pairwise Ix
 | [],p,_,_=>List.pairwise_singleton _ _
 | x::r,p,h,n=>by
  unfold risingS at h;rw[A8,DK,ltCps_eq,decide_eq_false_iff_not] at h;rw[List.nodup_cons] at n;have px:Ix p x:=Sa (x:=x) (y:=p) h.1 (λe=>n.1 (by rw[←e];exact AA));have ih:=Tq r x h.2 n.2;rw[BU];refine⟨λy hy=>?_,ih⟩;rcases Ak.mp hy with rfl | hy
  · exact px
  · exact NT px ((List.pairwise_cons.mp ih).1 y hy)
theorem MC{ms:List Str}(h:sortedS ms=true)(n:ms.Nodup):ms.Pairwise Ix:=by
 cases ms with
 | nil=>exact .nil
 | cons x r=>exact Tq r x h n
theorem PieceAt.keep{H':Hp}{w:List PP}(h:PieceAt H a w)(s:Tups H H'):PieceAt H' a w:=by obtain⟨ps,e,h1,h2⟩:=h;exact⟨ps,e,s _ _ h1,λp hp=>s _ _ (h2 p hp)⟩
theorem PieceAt.same{H':Hp}{w:List PP}(h:PieceAt H a w)(s:Same H H'):PieceAt H' a w:=h.keep s.tups
structure POk(p:List PP):Prop where
 len:p.length≤100
 ok:∀x∈p,FieldOk x.1
 asc:(p.map (·.1)).Pairwise Ix
def IU(p:List PP)(f:Str):Option Int:=(p.find? (λx=>decide (x.1=f))).map (·.2)
theorem TX{w:List PP}{f:Str}(h:∀p∈w,p.1≠f):IU w f=none:=by unfold IU;rw[DD.mpr λp hp z=>h p hp (of_decide_eq_true z)];rfl
theorem Ps(w:List PP)(p:PP)(f:Str)(hn:IU w p.1=none):IU (w++[p]) f=if f=p.1 then some p.2 else IU w f:=by
 unfold IU at*;rw[List.find?_append];by_cases h:f=p.1
 · subst h;rw[if_pos rfl];cases e:w.find? (λq=>decide (q.1=p.1)) with
   | some q=>rw[e] at hn;cases hn
   | none=>simp
 · rw[if_neg h];cases e:w.find? (λq=>decide (q.1=f)) with
   | some q=>rfl
   | none=>simp;exact λz=>h z.symm
theorem POk.fresh{w:List PP}(h:POk w){p:PP}(hp:w[i]?=some p):IU (w.take i) p.1=none:=by
 refine TX λq hq e=>?_;obtain⟨j,hj⟩:=Gh hq;rw[EA] at hj
 split at hj
 · rename_i lt;have hi:i<w.length:=(Al.mp hp).1;have:=CV.mp h.asc j i (by rw[Ab];omega) (by rw[Ab];exact hi) lt;rw[Do,Do] at this;have e1:w[j]'(by omega)=q:=(Al.mp hj).2;have e2:w[i]=p:=(Al.mp hp).2;rw[e1,e2] at this;exact KP this e
 · cases hj
def JP(p:List PP)(x:WP):Bool:=match IU p x.1 with
 | none=>false
 | some n=>Im x.2.1 x.2.2 n
theorem Uk{p:List PP}{x:WP}(h:IU p x.1=none):JP p x=false:=by unfold JP;rw[h]
theorem N_{p:List PP}{x:WP}{n:Int}(h:IU p x.1=some n):JP p x=Im x.2.1 x.2.2 n:=by unfold JP;rw[h]
def HV(w:List WP)(p:List PP):Bool:=w.all (JP p)
theorem Yk{w:List WP}{p:List PP}{x:WP}(hx:x∈w)(h:JP p x=false):HV w p=false:=by unfold HV;rw[List.all_eq_false];exact⟨x,hx,by rw[h];exact As⟩
def Sm:Sp:=λvs H Q _=>∃(a b:Addr)(w:List WP)(p:List PP),vs=[.ref a,.ref b]∧WishAt H a w∧PieceAt H b p∧POk p∧∀H',Same H H'→Q (.bl (HV w p)) H'
theorem az:("abcdefghijklmnopqrstuvwxyz":Str).cps.toList=(Bc 26).map (· +97):=by decide+kernel
theorem QR{r:Int}(h0:0≤r)(h1:r<26):∃c,JW ("abcdefghijklmnopqrstuvwxyz":Str).cps.toList r=some c∧Lw c=true:=by
 rw[az];obtain⟨k,rfl⟩:∃k:Nat,r=k:=⟨r.toNat,by omega⟩;have hk:k<26:=by omega
 refine⟨k+97,?_,?_⟩
 · refine Mm ?_;rw[Af,List.getElem?_range hk];rfl
 · unfold Lw;rw[A8];exact⟨decide_eq_true (by omega),decide_eq_true (by omega)⟩
theorem TW:∀(cs:List Nat),(Txt.join ("":Str) (cs.map λc=>(⟨#[c]⟩:Str))).cps.toList=cs
 | []=>rfl
 | [c]=>rfl
 | c::d::r=>by
  have ih:=TW (d::r);have e:∀(ts:List Str),Txt.join ("":Str) ts=Str.join ("":Str) ts:=λts=>StrLaws.glued_eq_join _ _;rw[e] at ih ⊢;show((⟨#[c]⟩:Str)++("":Str)++Str.join ("":Str) ((d::r).map λc=>(⟨#[c]⟩:Str))).cps.toList=_;have:((⟨#[c]⟩:Str)++("":Str)++Str.join ("":Str) ((d::r).map λc=>(⟨#[c]⟩:Str))).cps.toList=c::(Str.join ("":Str) ((d::r).map λc=>(⟨#[c]⟩:Str))).cps.toList:=by show(#[c]++#[]++_:Array Nat).toList=_;simp
  rw[this,ih]
theorem Vz(cs:List Nat)(h:cs.length≤1000):JoinOk ("":Str) (cs.map λc=>(⟨#[c]⟩:Str))=true:=by
 unfold JoinOk;rw[DK];refine StrLaws.joinFits (B:=1) (λy hy=>?_) ?_
 · obtain⟨c,_,rfl⟩:=Ay.mp hy;exact Ag 1
 · rw[Ab];show cs.length*1+cs.length*0≤_;omega
theorem Y5{cs:List Nat}(h1:1≤cs.length)(h8:cs.length≤8)(ok:∀c∈cs,Lw c=true):FieldOk (Txt.join ("":Str) (cs.map λc=>(⟨#[c]⟩:Str))):=by
 have e:=TW cs;have hl:(Txt.join ("":Str) (cs.map λc=>(⟨#[c]⟩:Str))).length=cs.length:=by show Array.size _=_;rw[←AG,e]
 exact⟨by rw[hl];exact h1,by rw[hl];exact h8,by rw[e];exact ok⟩
theorem SameB.off{g p:Addr}{H':Hp}{o:HO}(s:SameB b g H H')(hp:H p=none):SameB b g H (HI H' p o):=λa x h n1 n2=>by
 have:a≠p:=λe=>by rw[e,hp] at h;cases h
 rw[Ij this];exact s a x h n1 n2
open PySem PySem.Spec PyProof.Rows PySem.W
open PySem.AutoSeq1 (wpAny_loadPart')
open PySem.MeetsSeq PySem.MeetsSeq2 PySem.MeetsSeq3 PySem.SeqRoads2
open PySem PySem.Spec PyProof.Rows PySem.W
section
variable{o:HO}
end
open PySem PySem.Spec PyProof.Rows PySem.W
section
variable{o:Obj}{kvs:List (Ic×V)}
end
section
variable{tg:Expr}
end
section
variable{p:Addr}{g:TG}{tc:TT}{te:TE}{Q:VK}{o:Obj}{kvs:List (Ic×V)}{fs:List Str}
end
def W1:List V→Hp→VK→Prop:=λxs H Q=>∃(a:Addr)(kvs:List (Ic×V))(fs:List Str),xs=[.ref a]∧Rd H a (.dK kvs)∧kvs.map (·.1)=fs.map Sum.inr∧fs.length<64∧
 ∀(p:Addr)(ms:List Str),ms.Perm fs→ms.Nodup→sortedS ms=true→H p=none→Q (.ref p) (HI H p (.lst (ms.map V.str)))
theorem ZG(hc:X.calm=true):J5 X (.builtin "sorted") W1:=by
 intro pins s σ H xs us Q I r h;obtain⟨a,kvs,fs,rfl,hH,hfs,h64,q⟩:=h;obtain⟨u,rfl,rx⟩:=J6 r;cases rx;obtain⟨hz,hS,vs,rk,m⟩:kvs.length≤Au∧(a==Cb)=false∧∃vs,KV kvs vs∧s.heap.DictOf (Jg X.prog X.w) a vs:=by
  rcases hH with hH | ⟨o,hH⟩
  · exact I.hok a _ hH
  · exact(show ObjOk X.prog X.w H s.heap a (.frz o (.dK kvs)) from I.hok a _ hH).2
 obtain⟨ep,D⟩:=m.dictAt;have hlen:kvs.length=vs.length:=DS rk;have hfl:kvs.length=fs.length:=by have:=congrArg Bi hfs;simpa using this
 have keys:vs.map (·.1)=fs.map Sum.inr:=by
  rw[←hfs];clear hfs D m hlen hfl hz hH;unfold KV at rk
  induction rk with
  | nil=>rfl
  | cons r t ih=>rw[A0,A0,ih,r.1]
 have hnd:fs.Nodup:=by have:=D.nodup;rw[keys] at this;exact Gi _ (λ_ _ z e=>z (by rw[e])) this
 refine Fb kind_sorted plain_sorted entry_sorted (args_sorted1 _) ?_;unfold Builtin.«sorted»;refine Aa (m:=checkCount "sorted" 1 1 _) (Ac ?_);refine Aa (YW (knd:=Jg X.prog X.w) (by simpa using I.ok.hd hc) hS D (by omega) λh1 tk1 ws hwl hws hsz hk=>?_);have hv:StrsAre ws fs:=PJ (prog:=X.prog) (w:=X.w) fs ws (by omega) λi v f h2 h3=>by
  obtain⟨k,u,h4,h5⟩:=hws i v h2;have:(vs.map (·.1))[i]?=some k:=by rw[Af,h4];rfl
  rw[keys,Af,h3] at this;cases this;exact h5
 refine Aa (wpAny_newList ?_ (by rw[sizeLine_eq];omega));have hoL:(h1.push (seqObj "list" ws.toArray 0)).get? h1.objs.size=some (seqObj "list" ws.toArray 0):=Am _ rfl;show wpAny _ _ (holding _ _>>=_) _ _ {s with heap:=h1.push (seqObj "list" ws.toArray 0),toks:=tk1}
 refine Aa (AS (AW slot_list_sort ⟨_,hoL,rfl⟩ entry_list_sort (list_sort_treeK strKind_oneLt hoL hv.keysOf (λv₁ v₂ rest e=>keyKind_strs (by rw[←e];exact hv)) (by omega) λst' a1 a2=>⟨_,rfl,?_⟩) (args_list_sort _)));obtain⟨ms,m1,m2,m3⟩:=sorted_out_str hv a1 a2;obtain⟨e,he⟩:=sortedHeap_at (out:=(arrOf st').map (·.2)) hoL;refine Ac ⟨_,rfl,?_⟩;have hn1:H h1.objs.size=none:=I.hok.fresh (AZ hsz);refine⟨.ref h1.objs.size,HI H h1.objs.size (.lst (ms.map V.str)),I.laid (t':=tk1) (λb o eb=>?_) (AZ hsz) ?_,rfl,q _ ms m2 (m2.nodup_iff.mpr hnd) m3 hn1⟩
 · have hb:b<h1.objs.size:=Ai (hk b o eb);rw[sortedHeap_old (Aq hb) (by rw[size_push'];exact Dh hb)];exact Ad _ (hk b o eb)
 · have hml:ms.length=fs.length:=m2.length_eq;exact⟨by rw[Ab,sizeLine_eq];omega,((arrOf st').map (·.2)).toList,e,Om m1,by rw[Array.toArray_toList];exact he⟩
end L2
set_option maxHeartbeats 2000000
namespace L2
open PySem PySem.Spec PyProof.Rows PySem.W
section
variable{κ:Type}[DecidableEq κ]{knd:PySem.KeyKind prog w κ}
theorem YG{R:Result→Shared→Prop}{kvs:List (κ×Value)}{ep:Nat}(hh:A.handled=none)(hs:(a==Cb)=false)(D:s.heap.DictAt knd a kvs ep)(hz:kvs.length≤Au)(S:Addr)(res:Value)(c₀:Nat)(hS:s.heap.get? S=some {cls:= .type "list",data:= .seq #[] c₀})
 (hR:∀h' tk acc' c',(∀b o,b≠S→s.heap.get? b=some o→h'.get? b=some o)→h'.get? S=some {cls:= .type "list",dict:=none,data:= .seq acc' c',slots:=#[]}→
  acc'.size=kvs.length→(∀(i:Nat)(v:Value),acc'[i]?=some v→∃k u,kvs[i]?=some (k,u)∧knd.is k v=true)→R (.ok (.ret res)) {s with heap:=h',toks:=tk}):
 wpAny (model prog w) A.in1 (Bz (.ref S) (.ref a) res)
  (λfin s'=>match fin with | .done f=>R (.ok f) s' | .again c'=>c'.quiet=true∧codeAny (model prog w) A c' R s') (λe s'=>R (.error e) s') s:=by
 have haS:a<s.heap.objs.size:=D.lt_size;have hSlt:S<s.heap.objs.size:=Ai hS;have hSa:S≠a:=λe=>by have:=D.dictOf.typeIs (s:=s);obtain⟨o,ho,hc⟩:=this;rw[←e,hS] at ho;cases ho;exact absurd (show Value.type "list"=Value.type "dict" from hc) (by decide)
 have hSI:S≠s.heap.objs.size:=Aq hSlt;unfold Bz;have hT1:s.TypeIs (.ref a) "dict":=D.dictOf.typeIs;refine Aa (Co hT1 ?_);have e1:BI (.ref S) (.ref a)=false:=by simp[BI,hSa]
 rw[if_neg (by rw[e1];decide)];refine Aa (wpAny_pyIter_dict (knd:=knd) hs D ?_);generalize hh2:s.heap.push {cls:= .type "dict_keyiterator",data:= .fields #[.ref a,.int 0 0,.int kvs.length 0,.int ep 0]}=h2;have hk2:∀b o,s.heap.get? b=some o→h2.get? b=some o:=λb o e=>by rw[←hh2];exact Ad _ e
 have hi:h2.IsKeyIter s.heap.objs.size a 0 kvs.length ep:=by rw[←hh2];exact⟨_,Am _ rfl,rfl,rfl⟩
 have D2:h2.DictAt knd a kvs ep:=D.keep hk2;show wpAny _ A.in1 _ _ _ {s with heap:=h2}
 refine Aa (AS (Te (s:={s with heap:=h2}) D2.dictOf.typeIs ?_))
 rw[if_pos (by decide)];refine Aa (BJ ?_);have hS2:=hk2 _ _ hS;refine Aa ?_;show wpAny _ A.in1 (updateSeq S (·.push .none)>>=λ_=>updateSeq S (·.pop)) _ _ {s with heap:=h2}
 refine Aa (BB hS2 rfl ?_);have hS3:=AM (Bm (·.push Value.none)) hS2 rfl;refine BB hS3 rfl ?_;have hS4:=AM (Bm (·.pop)) hS3 rfl;have oth:∀b o,b≠S→h2.get? b=some o→((h2.update S (Bm (·.push Value.none))).update S (Bm (·.pop))).get? b=some o:=
  λb o hb e=>(AI _ _ (Bq hb)).trans ((AI _ _ (Bq hb)).trans e)
 have hane:a≠s.heap.objs.size:=Aq haS;have ext:Dg S h2 ((h2.update S (Bm (·.push Value.none))).update S (Bm (·.pop))):=λb o hb e=>oth b o hb e;have W:=(Walks.dictKeys (prog:=prog) (w:=w) (knd:=knd) (A:=A.in1) (by simpa using hh) s.heap.objs.size a hane kvs ep).toS;refine Ac ⟨Bd D0 _,Ej W hz S ?_ _ kvs.length 0 _ _ _ rfl (Br _)
  ⟨hi.extBut ext (Bq hSI),D2.extBut ext (Bq hSa)⟩ hS4 (ItemsOf.nil _) λs' acc' c' hm hS' hacc=>?_⟩
 · intro hmem;rw[Ak,Ae] at hmem;rcases hmem with h | h
   · exact hSI h
   · exact hSa h
 · rw[Moved.eq_with hm];refine hR s'.heap s'.toks acc' c' (λb o hb e=>hm.heap b o (λhmem=>?_) (oth b o hb (hk2 _ _ e))) hS' hacc.1 hacc.2;simp only[Ak,AC,or_false] at hmem;rcases hmem with h | h
   · exact hb h
   · exact absurd (Ai e) (by rw[h];exact C3 _)
theorem ZW{R:Result→Shared→Prop}{kvs:List (κ×Value)}{ep:Nat}(hh:A.handled=none)(hs:(a==Cb)=false)(D:s.heap.DictAt knd a kvs ep)(hz:kvs.length≤Au)(S:Addr)(hS:s.heap.get? S=some {cls:= .type "list",data:= .seq #[]})
 (hR:∀h' tk acc' c',(∀b o,b≠S→s.heap.get? b=some o→h'.get? b=some o)→h'.get? S=some {cls:= .type "list",dict:=none,data:= .seq acc' c',slots:=#[]}→
  acc'.size=kvs.length→(∀(i:Nat)(v:Value),acc'[i]?=some v→∃k u,kvs[i]?=some (k,u)∧knd.is k v=true)→R (.ok (.ret .none)) {s with heap:=h',toks:=tk}):
 wpAny (model prog w) A.in1 (Builtin.«list.__init__» ⟨[.ref S,.ref a],[]⟩)
  (λfin s'=>match fin with | .done f=>R (.ok f) s' | .again c'=>c'.quiet=true∧codeAny (model prog w) A c' R s') (λe s'=>R (.error e) s') s:=by
 have hSa:a≠S:=λe=>by have:=D.dictOf.typeIs (s:=s);obtain⟨o,ho,hc⟩:=this;rw[e,hS] at ho;cases ho;exact absurd (show Value.type "list"=Value.type "dict" from hc) (by decide)
 show wpAny _ _ (do let old ←DM (.ref S);Builtin.List.listUpdate (.ref S) (λ_=>#[]);letGo old.toList.reverse;Bz (.ref S) (.ref a) .none) _ _ s
 refine Aa ?_;unfold DM;refine Aa (AQ hS rfl (Ac ?_));show wpAny _ _ (updateSeq S (λ_=>#[])>>=λ_=>letGo (#[]:Array Value).toList.reverse>>=λ_=>Bz (.ref S) (.ref a) .none) _ _ s;refine Aa (BB hS rfl ?_);have hS₂:=AM (Bm (λ_=>(#[]:Array Value))) hS rfl;have oth:∀b o,b≠S→s.heap.get? b=some o→(s.heap.update S (Bm (λ_=>(#[]:Array Value)))).get? b=some o:=
  λb o hb e=>(AI _ _ (Bq hb)).trans e
 have ext:Dg S s.heap (s.heap.update S (Bm (λ_=>(#[]:Array Value)))):=λb o hb e=>oth b o hb e;refine Aa (Cg ?_);refine YG hh hs (D.extBut ext hSa) hz S .none _ hS₂ λh' tk acc' c' hk hS' h1 h2=>?_;exact hR h' tk acc' c' (λb o hb e=>hk b o hb (oth b o hb e)) hS' h1 h2
theorem ZU{Q:Value→Shared→Prop}{kvs:List (κ×Value)}{ep:Nat}(hh:A.handled=none)(hs:(a==Cb)=false)(D:s.heap.DictAt knd a kvs ep)(hz:kvs.length≤Au)
 (hQ:∀h' tk acc' c',(∀b o,s.heap.get? b=some o→h'.get? b=some o)→
  h'.get? s.heap.objs.size=some {cls:= .type "list",dict:=none,data:= .seq acc' c',slots:=#[]}→acc'.size=kvs.length→(∀(i:Nat)(v:Value),acc'[i]?=some v→∃k u,kvs[i]?=some (k,u)∧knd.is k v=true)→Q (.ref s.heap.objs.size) {s with heap:=h',toks:=tk}):
 wpAny (model prog w) A (call (.type "list") [.ref a]) Q E s:=by
 refine callType_codes (Q₁:=λobj s₁=>obj= .ref s.heap.objs.size∧s₁={s with heap:=s.heap.push {cls:= .type "list",data:= .seq #[]}}) PySem.F.called_list (PySem.F.typeCall_list_1 _) PySem.F.entry_list_init
  (code_list_new _ ⟨rfl,rfl⟩) λobj s₁ h₁=>?_
 obtain⟨rfl,rfl⟩:=h₁;have hS:(s.heap.push {cls:= .type "list",data:= .seq #[]}).get? s.heap.objs.size=some {cls:= .type "list",data:= .seq #[]}:=Am _ rfl;refine⟨⟨_,hS,rfl⟩,PySem.F.args_list_init_2 _ _,ZW (A:=A.in1) hh hs (D.keep λb o e=>Ad _ e) hz _ hS λh' tk acc' c' hk hS' h1 h2=>?_⟩;exact⟨rfl,hQ h' tk acc' c' (λb o e=>hk b o (Aq (Ai e)) (Ad _ e)) hS' h1 h2⟩
end
theorem TB:∀{vs:List Value}{fs:List Str},StrsAre vs fs→Vals (fs.map V.str) vs
 | _,_,.nil=> .nil
 | _,_,.cons f t r=> .cons ⟨t,rfl⟩ (TB r)
theorem Y1(hc:X.calm=true):J5 X (.type "list") (λxs H Q=>∃(a:Addr)(kvs:List (Ic×V))(fs:List Str),xs=[.ref a]∧H a=some (.dK kvs)∧kvs.map (·.1)=fs.map Sum.inr∧(fs.Nodup→∀l,H l=none→Q (.ref l) (HI H l (.lst (fs.map V.str))))):=by
 intro pins s σ H xs us Q I r h;obtain⟨a,kvs,fs,rfl,hH,hfs,q⟩:=h;obtain⟨u,rfl,rx⟩:=J6 r;cases rx;obtain⟨hz,hS,vs,rk,m⟩:kvs.length≤Au∧(a==Cb)=false∧∃vs,KV kvs vs∧s.heap.DictOf (Jg X.prog X.w) a vs:=I.hok a _ hH;obtain⟨ep,D⟩:=m.dictAt;have hlen:kvs.length=vs.length:=DS rk;have hfl:kvs.length=fs.length:=by have:=congrArg Bi hfs;simpa using this
 have keys:vs.map (·.1)=fs.map Sum.inr:=by
  rw[←hfs];clear hfs D m hlen hfl hz hH;unfold KV at rk
  induction rk with
  | nil=>rfl
  | cons r t ih=>rw[A0,A0,ih,r.1]
 have hnd:fs.Nodup:=by have:=D.nodup;rw[keys] at this;exact Gi _ (λ_ _ z e=>z (by rw[e])) this
 refine ZU (knd:=Jg X.prog X.w) (I.ok.hd hc) hS D (by omega) λh' tk acc' c' kp e h1 h2=>?_;have hv:StrsAre acc'.toList fs:=PJ (prog:=X.prog) (w:=X.w) fs acc'.toList (by rw[AG];omega) λi v f h3 h4=>by
  obtain⟨k,u,h5,h6⟩:=h2 i v (by rw[←Cm];exact h3);have:(vs.map (·.1))[i]?=some k:=by rw[Af,h5];rfl
  rw[keys,Af,h4] at this;cases this;exact h6
 exact⟨.ref s.heap.objs.size,_,I.laid (t':=tk) kp (Ag _) (show ObjOk X.prog X.w _ h' _ (.lst (fs.map V.str)) from⟨by rw[Ab];omega,acc'.toList,c',TB hv,by simpa using e⟩),rfl,q hnd _ (I.hok.fresh (Ag _))⟩
theorem Zf(ns:List Int):preSum (λi=>ns.getD i 0) ns.length=ns.sum:=by
 have:∀n,n≤ns.length→preSum (λi=>ns.getD i 0) n=(ns.take n).sum:=by
  intro n
  induction n with
  | zero=>intro _;rfl
  | succ n ih=> intro hn;have e:ns[n]?=some ns[n]:=Av (by omega);rw[preSum,ih (by omega),IB e,F9];simp[AX,e]
 have:=this ns.length (Ag _);rw[Bb] at this;exact this
theorem UB:AV "sum"=some (.builtin "sum"):=by decide+kernel
theorem WJ(hc:X.calm=true):J5 X (.builtin "sum") (λxs H Q=>∃(p:Addr)(ns:List Int),xs=[.ref p]∧SqL X.K H p (ns.map V.int)∧Q (.int ns.sum) H):=by
 intro pins s σ H xs us Q I r h;obtain⟨p,ns,rfl,hq,q⟩:=h;obtain⟨u,rfl,rx⟩:=J6 r;cases rx;obtain⟨its,r',pl,hz⟩:=I.list hq;have hl:=pl.isList;have hlen:its.length=ns.length:=by have:=r'.length;simpa using this.symm
 have hpl:p<s.heap.objs.size:=by obtain⟨o,ho,_⟩:=hl;exact Ai ho
 refine call_sum_walkAnyS (CS hl ?_);have W:=(E_ (prog:=X.prog) (w:=X.w) (A:=X.A.in1) (by simpa using I.ok.hd hc) s.heap.objs.size p (Aq hpl) its.toArray).toS;refine⟨_,_,_,_,_,_,_,λi=>ns.getD i 0,rfl,W,⟨⟨_,Am _ rfl,rfl,rfl⟩,hl.push _⟩,λb hb=>?_,λi v hv=>?_,λs' t' hm=>?_⟩
 · show b<(s.heap.push _).objs.size;rw[Bj];rcases Ak.mp hb with rfl | hb
   · exact Cc _
   · rcases Ak.mp hb with rfl | hb
     · exact Dh hpl
     · cases hb
 · have hv:its[i]?=some v:=by simpa using hv
   obtain⟨n,en,t,rfl⟩:∃n,ns[i]?=some n∧∃t,v= .int n t:=by
    have hi:i<ns.length:=by have:=(Al.mp hv).1;omega
    have e1:(ns.map V.int)[i]?=some (.int ns[i]):=by rw[Af,Av hi];rfl
    obtain⟨u,h1,h2⟩:=Vals.get r' e1;rw[hv] at h1;cases h1;obtain⟨t,rfl⟩:=h2;exact⟨_,Av hi,t,rfl⟩
   refine⟨t,?_⟩;show Value.int n t=Value.int (ns.getD i 0) t;rw[AX,en];rfl
 · rw[Moved.eq_with hm];have e2:preSum (λi=>ns.getD i 0) its.toArray.size=ns.sum:=by rw[Ax,hlen];exact Zf ns
   rw[e2];refine⟨.int ns.sum,H,I.kept (h':=s'.heap) (t':=s'.toks) λb o e=>hm.heap b o (λhmem=>?_) (Ad _ e),⟨_,rfl⟩,q⟩;rcases Ak.mp hmem with e1 | hmem
   · exact absurd (e1 ▸ Ai e) (C3 _)
   · cases hmem
theorem UJ:U3 X .Mult (λx y H Q=>∃i j,x= .int i∧y= .int j∧CMul i j∧Q (.int (i*j)) H):=by intro pins s σ H x y v u Q I r1 r2 h;obtain⟨i,j,e1,e2,hc,q⟩:=h;subst e1;subst e2;obtain⟨t,rfl⟩:=r1;obtain⟨t',rfl⟩:=r2;exact imul_int ⟨.int _,H,I.tok _,⟨_,rfl⟩,q⟩ hc.ok
theorem We(hc:X.calm=true):J5 X (.builtin "any") (λxs H Q=>∃(a:Addr)(bs:List Bool),xs=[.ref a]∧SqL X.K H a (bs.map V.bl)∧Q (.bl (bs.any id)) H):=by
 intro pins s σ H xs us Q I r h;obtain⟨a,bs,rfl,hq,q⟩:=h;obtain⟨u,rfl,ru⟩:=J6 r;cases ru;obtain⟨its,rv,p,hzz⟩:=I.list hq;have ll:=rv.length;rw[Ab] at ll;refine call_any_walk (CS p.isList ?_);obtain⟨o,ho,_⟩:=id p.isList;have lt:=Ai ho;refine⟨s.heap.objs.size,_,_,_,_,_,λi=>bs.getD i false,rfl,E_ (A:=X.A.in1) (I.ok.hd hc) s.heap.objs.size a (Aq lt) its.toArray,⟨⟨_,Am _ rfl,rfl,rfl⟩,p.isList.at λo' e=>Ad _ e⟩,?_,λg t' k=>?_⟩
 · intro i v s' Q' E' hv q';have hi:its[i]?=some v:=by simpa using hv
   have hl:i<its.length:=(Al.mp hi).1;have e:(bs.map V.bl)[i]?=some (.bl (bs.getD i false)):=by rw[Af,Av (by omega),AX,Av (by omega)];rfl
   obtain⟨u,h1,h2⟩:=Vals.get rv e;rw[hi] at h1;cases h1;cases h2;exact Bu q'
 · refine⟨.bl (bs.any id),H,I.kept (λb o' e=>k b o' ?_ (Ad _ e)),?_,q⟩
   · intro z;exact absurd (Ae.mp z) (Aq (Ai e))
   · show Value.bool _=Value.bool _;congr 1;rw[Ax,←ll];clear rv ll hq q p ho lt hzz
     induction bs with
     | nil=>rfl
     | cons b r ih=> rw[AF,DO,BO,DE,BO,←ih];rfl
theorem V1{K:Ao}{t1 t2 p:Addr}{ys:List V}{g:TG}{tc:TT}{te:TE}{Q:VK}{js:IT}(h1:n≤xs.length)(h2:n≤ys.length)(h3:xs.length≤n∨ys.length≤n)(Pv:Nat→St→List V→Hp→Prop)(h0:Pv 0 (Jo js σ) [] (HI H p (.lst [])))
 (hl:∀i σ zs H,i≤n→Pv i σ zs H→SqL K H t1 xs∧SqL K H t2 ys∧H p=some (.lst zs)∧zs.length<Au)
 (hs:∀(i:Nat)x y σ zs H q(N:St→List V→Hp→Prop),xs[i]?=some x→ys[i]?=some y→H q=none→Pv i σ zs H→(∀σ' ys' H',Pv (i+1) σ' ys' H'→N σ' ys' H')→LF p g tc te zs (.ref q) σ (HI H q (.tup [x,y])) N)
 (hd:∀σ zs H,Pv n σ zs H→Q (.ref p) H):Kl (Le K t1 t2) p js g tc te σ H Q:=
 Mc (n:=n) (J:=Le K t1 t2) (js:=js) (σ:=σ) (H:=H) (p:=p) (Q:=Q) (g:=g) (tc:=tc) (te:=te) Pv h0 (λi σ zs H hi pv=>(hl i σ zs H hi pv).2.2)
  (λi σ zs H hi pv=>⟨xs,ys,xs[i],ys[i],(hl i σ zs H (AZ hi) pv).1,(hl i σ zs H (AZ hi) pv).2.1,by simp,by simp⟩)
  (λσ zs H pv=>⟨xs,ys,(hl _ σ zs H (Ag _) pv).1,(hl _ σ zs H (Ag _) pv).2.1,h3⟩)
  (λi v σ zs H H' N hi y pv hN=>by
   obtain⟨q,e,hq,y⟩:=y;subst e;have ex:xs[i]?=some xs[i]:=by simp
   have ey:ys[i]?=some ys[i]:=by simp
   have e2:=y xs ys _ _ (hl i σ zs H (AZ hi) pv).1 (hl i σ zs H (AZ hi) pv).2.1 ex ey;subst e2;exact hs i _ _ σ zs H q N ex ey hq pv hN) hd
theorem V9{tg:Expr}(K:Ao)(h:X.K=K){l:Expr}{tl:TE}(hl:PE X l tl)(hc:X.calm=true:=by rfl):PI X tg l (Nr K tl):=by subst h;exact Kn hl
theorem Pb{tg:Expr}(K:Ao)(h:X.K=K){l:Expr}{tl:TE}(hl:PE X l tl)(hc:X.calm=true:=by rfl):PI X tg l (QU K tl):=by subst h;exact Jh hl
theorem Wi(o:Option Int):Je (dE o)=0:=by cases o<;>rfl
def Kx(ps:List (Addr×PP)):List (Addr×Ic×V):=ps.map λp=>(p.1,(Sum.inr p.2.1:Ic),V.int p.2.2)
theorem Y4(ps:List (Addr×PP))(pok:POk (ps.map (·.2)))(f:Str):∀(n:Nat),n≤ps.length→Io ((Kx (ps.take n)).foldl (λacc p=>Ii acc p.2.1 p.2.2) []) (.inr f:Ic)=(IU ((ps.map (·.2)).take n) f).map V.int:=by
 intro n
 induction n with
 | zero=>intro _;rfl
 | succ n ih=>
  intro hn;have e1:ps[n]?=some ps[n]:=by simp
  have ew:(ps.map (·.2))[n]?=some ps[n].2:=by rw[Af,e1];rfl
  have fr:=pok.fresh ew;rw[IB e1,IB ew,Ps _ _ _ fr];unfold Kx at ih ⊢;rw[Ah,EX];show Io (Ii _ (Sum.inr ps[n].2.1:Ic) (V.int ps[n].2.2)) (.inr f)=_;rw[Pq];by_cases hf:f=ps[n].2.1
  · rw[if_pos hf,if_pos (by rw[hf])];rfl
  · rw[if_neg hf,if_neg (λz=>hf (by injection z))];exact ih (by omega)
theorem YH(ps:List (Addr×PP))(pok:POk (ps.map (·.2)))(f:Str):Io ((Kx ps).foldl (λacc p=>Ii acc p.2.1 p.2.2) []) (.inr f:Ic)=(IU (ps.map (·.2)) f).map V.int:=by have:=Y4 ps pok f ps.length (Ag _);rw[Bb,Ar (by simp)] at this;exact this
theorem K3{w:List WP}{f:Str}{s:Option Int×Option Int}(h:HZ w f=some s):∃p∈w,p.1=f∧p.2=s:=by
 unfold HZ at h;cases e:w.find? (λp=>decide (p.1=f)) with
 | none=>rw[e] at h;cases h
 | some p=> rw[e] at h;have h2:decide (p.1=f)=true:=FB (p:=λ(p:WP)=>decide (p.1=f)) e;exact⟨p,D3 e,of_decide_eq_true h2,Az h⟩
theorem TY{p:List PP}(h:(p.map (·.1)).Pairwise Ix){x:PP}(hx:x∈p):IU p x.1=some x.2:=by
 induction p with
 | nil=>simp at hx
 | cons y r ih=>
  rw[A0,BU] at h;rcases Ak.mp hx with rfl | hx
  · simp[IU]
  · have:Ix y.1 x.1:=h.1 _ (A3 hx);have ne:=KP this;have:=ih h.2 hx;simp[IU,Cy,ne] at this ⊢;exact this
theorem Tz{w:List WP}{f:Str}(h:HZ w f=none):∀p∈w,p.1≠f:=λp hp e=>by unfold HZ at h;rw[Option.map_eq_none_iff,List.find?_eq_none] at h;exact h p hp (decide_eq_true e)
theorem Vp{w:List WP}(h:(w.map (·.1)).Pairwise Ix):∀{x y:WP},x∈w→y∈w→x.1=y.1→x=y:=by
 induction w with
 | nil=>intro x y hx;simp at hx
 | cons z r ih=>
  rw[A0,BU] at h;intro x y hx hy e;rcases Ak.mp hx with e1 | hx1
  · rcases Ak.mp hy with e2 | hy1
    · rw[e1,e2]
    · rw[e1] at e;exact absurd e (KP (h.1 _ (A3 hy1)))
  · rcases Ak.mp hy with e2 | hy1
    · rw[e2] at e;exact absurd e.symm (KP (h.1 _ (A3 hx1)))
    · exact ih h.2 hx1 hy1 e
theorem WU{w:List WP}(h:(w.map (·.1)).Pairwise Ix){x:WP}(hx:x∈w):w.find? (λp=>decide (p.1=x.1))=some x:=by
 cases e:w.find? (λp=>decide (p.1=x.1)) with
 | none=>exact absurd (decide_eq_true rfl) (DD.mp e x hx)
 | some y=> have h2:decide (y.1=x.1)=true:=FB (p:=λ(p:WP)=>decide (p.1=x.1)) e;rw[Vp h (D3 e) hx (of_decide_eq_true h2)]
theorem KG{w:List WP}(h:(w.map (·.1)).Pairwise Ix){x:WP}(hx:x∈w):HZ w x.1=some x.2:=by unfold HZ;rw[WU h hx];rfl
theorem Xq{lo hi:Option Int}(h:IY lo hi=true):Im lo hi (Mw lo hi)=true:=by cases lo<;>cases hi<;>simp[IY,Im,Jb,Jd,Mw] at h ⊢;exact decide_eq_true h
def J0(bs:List (Str×V)):List (Ic×V):=bs.map λx=>((Sum.inr x.1:Ic),x.2)
def IP(bs:List (Str×V))(f:Str):Option V:=(bs.find? λx=>decide (x.1=f)).map (·.2)
theorem LJ(f:Str):∀bs:List (Str×V),Io (J0 bs) (.inr f:Ic)=IP bs f
 | []=>rfl
 | x::bs=>by
  have ih:=LJ f bs;unfold J0 Io IP at*;by_cases h:x.1=f
  · simp[Cy,h]
  · simp[Cy,h] at ih ⊢;exact ih
theorem SV(bs:List (Str×V)):(J0 bs).map (·.1)=(bs.map (·.1)).map Sum.inr:=by unfold J0;rw[BA,BA];rfl
def Jj(bs:List (Str×V))(f:Str)(v:V):List (Str×V):=if(bs.any λx=>decide (x.1=f))=true then bs.map (λx=>if x.1=f then(x.1,v) else x) else bs++[(f,v)]
theorem NV(bs:List (Str×V))(f:Str)(v:V):Ii (J0 bs) (.inr f:Ic) v=J0 (Jj bs f v):=by
 unfold Ii Jj J0;have e:((bs.map λx=>((Sum.inr x.1:Ic),x.2)).any λkv=>decide (kv.1=(Sum.inr f:Ic)))=bs.any λx=>decide (x.1=f):=by rw[DE];congr 1;funext x;simp
 rw[e]
 split
 · rw[BA,BA];refine Dc λx _=>?_;simp only[DU];by_cases h:x.1=f
   · rw[if_pos (by rw[h]),if_pos h]
   · rw[if_neg (λz=>h (by injection z)),if_neg h]
 · rw[Ah];rfl
theorem P8(bs:List (Str×V))(f:Str)(v:V):(Jj bs f v).map (·.1)=if f∈bs.map (·.1) then bs.map (·.1) else bs.map (·.1)++[f]:=by
 unfold Jj;have e:(bs.any λx=>decide (x.1=f))=true↔f∈bs.map (·.1):=by
  rw[Ct,Ay];constructor
  · rintro⟨x,hx,h⟩;exact⟨x,hx,of_decide_eq_true h⟩
  · rintro⟨x,hx,h⟩;exact⟨x,hx,decide_eq_true h⟩
 by_cases h:f∈bs.map (·.1)
 · rw[if_pos (e.mpr h),if_pos h,BA];refine Dc λx _=>?_;simp only[DU]
   split<;>rfl
 · rw[if_neg (λz=>h (e.mp z)),if_neg h,Ah];rfl
theorem Ye{bs:List (Str×V)}(h:(bs.map (·.1)).Nodup)(f:Str)(v:V):((Jj bs f v).map (·.1)).Nodup:=by
 rw[P8]
 split
 · exact h
 · rename_i hn;exact Sb h hn
theorem Sz(bs:List (Str×V))(f:Str)(v:V):(Jj bs f v).length≤bs.length+1:=by
 unfold Jj
 split
 · rw[Ab];omega
 · rw[A5];simp
theorem Wq(bs:List (Str×V))(f:Str)(v:V)(g:Str):IP (Jj bs f v) g=if g=f then some v else IP bs g:=by
 rw[←LJ,←NV,Pq,LJ];by_cases h:g=f
 · subst h;rw[if_pos rfl,if_pos rfl]
 · rw[if_neg h,if_neg (λz=>h (by injection z))]
theorem Wp{bs:List (Str×V)}{f:Str}:f∈bs.map (·.1)↔(IP bs f).isSome=true:=by
 unfold IP;rw[EU,List.find?_isSome,Ay];constructor
 · rintro⟨x,hx,h⟩;exact⟨x,hx,decide_eq_true h⟩
 · rintro⟨x,hx,h⟩;exact⟨x,hx,of_decide_eq_true h⟩
abbrev IE:=Option Int×Option Int
def Jt:Option IE→Option IE→Option IE
 | none,o=>o
 | some s,none=>some s
 | some s,some t=>some (Jm s.1 t.1,Jn s.2 t.2)
structure IsMet(w1 w2 m:List WP):Prop where
 len:m.length≤w1.length+w2.length
 asc:(m.map (·.1)).Pairwise Ix
 sp:∀f,HZ m f=Jt (HZ w1 f) (HZ w2 f)
def M3(w1:List WP)(p:WP):Bool:=match HZ w1 p.1 with
 | none=>false
 | some s=>IN (Jm s.1 p.2.1) (Jn s.2 p.2.2)
def JO(w1 w2:List WP):Bool:=w2.any (M3 w1)
theorem MD{w:List WP}(h:(w.map (·.1)).Pairwise Ix)(p:List PP):HV w p=true↔∀f s,HZ w f=some s→∃n,IU p f=some n∧Im s.1 s.2 n=true:=by
 unfold HV;rw[A9];constructor
 · intro q f s hs;obtain⟨x,hx,e1,e2⟩:=K3 hs;have:=q x hx;unfold JP at this;rw[e1] at this;cases e:IU p f with
   | none=>rw[e] at this;cases this
   | some n=>rw[e,e2] at this;exact⟨n,rfl,this⟩
 · intro q x hx;obtain⟨n,h1,h2⟩:=q x.1 x.2 (KG h hx);rw[N_ h1];exact h2
theorem T7{w1 w2 m:List WP}(h1:(w1.map (·.1)).Pairwise Ix)(h2:(w2.map (·.1)).Pairwise Ix)(h:IsMet w1 w2 m)(p:List PP):HV m p=(HV w1 p && HV w2 p):=by
 rw[Bt,A8,MD h.asc,MD h1,MD h2];constructor
 · intro q;refine⟨λf s hs=>?_,λf s hs=>?_⟩
   · cases e:HZ w2 f with
     | none=>exact q f s (by rw[h.sp,hs,e];rfl)
     | some t=> obtain⟨n,n1,n2⟩:=q f (Jm s.1 t.1,Jn s.2 t.2) (by rw[h.sp,hs,e];rfl);have:=Mz s.1 s.2 t.1 t.2 n;rw[this,A8] at n2;exact⟨n,n1,n2.1⟩
   · cases e:HZ w1 f with
     | none=>exact q f s (by rw[h.sp,hs,e];rfl)
     | some t=> obtain⟨n,n1,n2⟩:=q f (Jm t.1 s.1,Jn t.2 s.2) (by rw[h.sp,hs,e];rfl);have:=Mz t.1 t.2 s.1 s.2 n;rw[this,A8] at n2;exact⟨n,n1,n2.2⟩
 · rintro⟨q1,q2⟩ f s hs;rw[h.sp] at hs;cases e1:HZ w1 f with
   | none=> rw[e1] at hs;exact q2 f s hs
   | some t=>
    cases e2:HZ w2 f with
    | none=>rw[e1,e2] at hs;cases hs;exact q1 f _ e1
    | some u=> rw[e1,e2] at hs;cases hs;obtain⟨n,n1,n2⟩:=q1 f t e1;obtain⟨n',n1',n2'⟩:=q2 f u e2;rw[n1] at n1';cases n1';refine⟨n,n1,?_⟩;rw[Mz,n2,n2'];rfl
theorem T0{w:List WP}{x:WP}(h:(w.map (·.1)).Pairwise Ix)(hx:x∈w):HZ w x.1=some x.2:=KG h hx
theorem SL:∀{m m':List WP},(m.map (·.1)).Pairwise Ix→(m'.map (·.1)).Pairwise Ix→(∀f,HZ m f=HZ m' f)→m=m'
 | [],[],_,_,_=>rfl
 | [],y::r,_,_,h=>by have:=h y.1;simp[HZ] at this
 | x::r,[],_,_,h=>by have:=h x.1;simp[HZ] at this
 | x::r,y::r',h1,h2,h=>by
  have hx:=T0 h1 (x:=x) (by simp);have hy:=T0 h2 (x:=y) (by simp);have g1:=h1;have g2:=h2;rw[A0,BU] at g1 g2;have e:x.1=y.1:=by
   rw[h x.1] at hx;rw[←h y.1] at hy;obtain⟨u,hu,u1,_⟩:=K3 hx;obtain⟨v,hv,v1,_⟩:=K3 hy;rcases Ak.mp hu with rfl | hu
   · exact u1.symm
   · rcases Ak.mp hv with rfl | hv
     · exact v1
     · have k1:=g2.1 _ (A3 (f:=(·.1)) hu);have k2:=g1.1 _ (A3 (f:=(·.1)) hv);rw[u1] at k1;rw[v1] at k2;exact absurd (NT k1 k2) (Eu _)
  have e2:x=y:=by rw[h x.1,e,hy] at hx;exact Prod.ext e (Az hx).symm
  subst e2;have tails:∀f,HZ r f=HZ r' f:=λf=>by
   by_cases hf:x.1=f
   · have n1:HZ r f=none:=by
      cases e:HZ r f with
      | none=>rfl
      | some s=>obtain⟨u,hu,u1,_⟩:=K3 e;have:=g1.1 _ (A3 (f:=(·.1)) hu);rw[u1,hf] at this;exact absurd this (Eu _)
     have n2:HZ r' f=none:=by
      cases e:HZ r' f with
      | none=>rfl
      | some s=>obtain⟨u,hu,u1,_⟩:=K3 e;have:=g2.1 _ (A3 (f:=(·.1)) hu);rw[u1,hf] at this;exact absurd this (Eu _)
     rw[n1,n2]
   · have:=h f;unfold HZ at this ⊢;rw[DQ (by simpa using hf),DQ (by simpa using hf)] at this;exact this
  rw[SL g1.2 g2.2 tails]
theorem Ti{lo hi:Option Int}:IY lo hi=!IN lo hi:=by cases lo<;>cases hi<;>simp only[IY,IN,Bool.not_false];rw[Bt];simp
def LQ(p:WP):PD:= .tup [.str p.1,dE p.2.1,dE p.2.2]
def dW(w:List WP):PD:= .tup (w.map LQ)
theorem R3:∀ps:List (Addr×WP),(∀p∈ps,H p.1=some (.tup [.str p.2.1,eV p.2.2.1,eV p.2.2.2]))→Reps K H ((ps.map (·.2)).map LQ) (ps.map λp=>V.ref p.1)
 | [],_=>by show Reps K H [] [];rw[Reps]
 | p::ps,h=>by show Reps K H (LQ p.2::_) (V.ref p.1::_);rw[Reps];refine⟨_,_,rfl,?_,R3 ps λq hq=>h q (AB _ hq)⟩;unfold LQ;rw[HJ];refine⟨p.1,_,rfl,SqT.of (h p AA),?_⟩;rw[Reps];refine⟨_,_,rfl,by rw[HJ],?_⟩;rw[Reps];refine⟨_,_,rfl,R1 _,?_⟩;rw[Reps];exact⟨_,_,rfl,R1 _,by rw[Reps]⟩
theorem Vf{w:List WP}(h:WishAt H a w):HJ K H (dW w) (.ref a):=by obtain⟨ps,rfl,h1,h2⟩:=h;unfold dW;rw[HJ];exact⟨a,_,rfl,SqT.of h1,R3 ps h2⟩
theorem Wh(p:WP):Je (LQ p)=1:=by unfold LQ;simp[Je,Ja,Wi]
theorem SR:∀w:List WP,Ja (w.map LQ)≤1
 | []=>by show Ja []≤1;rw[Ja];omega
 | p::w=>by rw[A0,Ja,Wh];have:=SR w;omega
theorem Vw(w:List WP):Je (dW w)≤2:=by unfold dW;rw[Je];have:=SR w;omega
def Uy(a b:Int):Bool:=decide (a<b)
def Q9{α β:Type}[DecidableEq α](l:α→α→Bool)(m:β→β→Bool)(x y:α×β):Bool:=if x.1=y.1 then m x.2 y.2 else l x.1 y.1
def lpO:Option Int→Int×Int
 | none=>(0,0)
 | some l=>(1,l)
def hpO:Option Int→Int×Int
 | none=>(1,0)
 | some h=>(0,h)
def d2(p:Int×Int):PD:= .tup [.int p.1,.int p.2]
abbrev RKy:=Str×(Int×Int)×(Int×Int)
def ky(p:WP):RKy:=(p.1,lpO p.2.1,hpO p.2.2)
def Ms:Int×Int→Int×Int→Bool:=Q9 Uy Uy
def UR(H:Hp)(d:Addr)(w:List WP):Prop:=∃bs:List (Str×V),H d=some (.dK (J0 bs))∧bs.map (·.1)=w.map (·.1)∧∀f:Str,match HZ w f with
 | none=>IP bs f=none
 | some s=>∃t,IP bs f=some (.ref t)∧H t=some (.tup [eV s.1,eV s.2])
def Ub:Sp:=λvs H Q _=>∃(a:Addr)(w:List WP),vs=[.ref a]∧WishAt H a w∧WOk w∧∀d H',Same H H'→H d=none→UR H' d w→Q (.ref d) H'
def R9:Sp:=λvs H Q _=>∃(a b:Addr)(w1 w2:List WP),vs=[.ref a,.ref b]∧WishAt H a w1∧WishAt H b w2∧WOk w1∧WOk w2∧w1.length+w2.length≤60∧
 (JO w1 w2=true→∀H',Same H H'→Q .non H')∧(JO w1 w2=false→∀r m H',IsMet w1 w2 m→Same H H'→WishAt H' r m→Q (.ref r) H')
theorem Pg{l:List Str}(h:l.Pairwise Ix):l.Nodup:=h.imp λh e=>KP h e
theorem Tw(g:Str→IE)(f:Str):∀ms:List Str,HZ (ms.map λf=>(f,g f)) f=if f∈ms then some (g f) else none
 | []=>rfl
 | x::ms=>by
  have ih:=Tw g f ms;unfold HZ at*;by_cases h:x=f
  · subst h;simp
  · rw[A0,DQ (by simpa using h),ih];by_cases h2:f∈ms
    · rw[if_pos h2,if_pos (AB _ h2)]
    · rw[if_neg h2,if_neg (λz=>(Ak.mp z).elim (λe=>h e.symm) h2)]
def Mb(w1 w2:List WP)(f:Str):IE:=(Jt (HZ w1 f) (HZ w2 f)).getD (none,none)
def KA(w1 w2:List WP)(ms:List Str):List WP:=ms.map λf=>(f,Mb w1 w2 f)
theorem SU{w1 w2:List WP}{ms:List Str}(asc:ms.Pairwise Ix)(hk:∀f,f∈ms↔(Jt (HZ w1 f) (HZ w2 f)).isSome=true)(hl:ms.length≤w1.length+w2.length):IsMet w1 w2 (KA w1 w2 ms):=by
 refine⟨by unfold KA;rw[Ab];exact hl,?_,λf=>?_⟩
 · unfold KA;rw[BA];have:((λx:WP=>x.1)∘λf=>(f,Mb w1 w2 f))=id:=rfl;rw[this,List.map_id];exact asc
 · unfold KA;rw[Tw];cases e:Jt (HZ w1 f) (HZ w2 f) with
   | none=>rw[if_neg (λz=>by have:=(hk f).mp z;rw[e] at this;cases this)]
   | some s=> rw[if_pos ((hk f).mpr (by rw[e];rfl))];unfold Mb;rw[e];rfl
theorem Xn{z p:Addr}{Q:VK}{js:IT}{cap:St}{te:TE}(base:List WP)(hb:base.length≤100)(e:SqL K H z ((base.map (·.1)).map V.str))(hp:H p=none)(hσ:Jo js σ=none::cap)
 (he:∀x∈base,∀H'(R:VK),Same H H'→(∀t,H' t=none→R (.ref t) (HI H' t (.tup [.str x.1,eV x.2.1,eV x.2.2])))→te (some (.str x.1)::cap) H' R)
 (hq:∀H'(qs:List (Addr×WP)),Same H H'→qs.map (·.2)=base→H' p=some (.lst (qs.map λq=>V.ref q.1))→(∀q∈qs,H' q.1=some (.tup [.str q.2.1,eV q.2.2.1,eV q.2.2.2]))→Q (.ref p) H'):Kl (Kv K z) p js (JN 0) JD te σ H Q:=by
 have s0:=HU hp (.lst []);refine JR (xs:=(base.map (·.1)).map V.str) (λi σ' ys H'=>(∃v,σ'=v::cap)∧Same H H'∧H' p=some (.lst ys)∧∃qs:List (Addr×WP),ys=qs.map (λq=>V.ref q.1)∧qs.map (·.2)=base.take i∧∀q∈qs,H' q.1=some (.tup [.str q.2.1,eV q.2.2.1,eV q.2.2.2])) ⟨⟨_,hσ⟩,s0,HK,[],rfl,rfl,λq hq=>by simp at hq⟩ ?_ ?_ ?_
 · rintro i σ' ys H' hi ⟨_,s,h1,qs,rfl,h3,_⟩;refine⟨s.seq e,h1,?_⟩;have:=congrArg Bi h3;rw[Ab,A7] at this;rw[Ab];exact IQ (by omega)
 · rintro i x σ' ys H' N hx ⟨⟨v,rfl⟩,s,h1,qs,rfl,h3,h4⟩ hN;rw[Af,Af] at hx;cases e1:base[i]? with
   | none=>rw[e1] at hx;cases hx
   | some m=>
    rw[e1] at hx;obtain rfl:V.str m.1=x:=Az hx;refine he m (Aj e1) H' _ s λt ht=>?_;have st:=HU ht (.tup [.str m.1,eV m.2.1,eV m.2.2]);have h5:=st _ _ h1;have tl:=K0 (o:= .lst (qs.map (λq=>V.ref q.1)++[V.ref t])) h5;refine⟨h5,hN _ _ _ ⟨⟨_,rfl⟩,Ji (s.trans st) hp,HK,qs++[(t,m)],?_,?_,?_⟩⟩
    · rw[Ah];rfl
    · rw[Ah,h3,IB e1];rfl
    · intro q hq;rcases Aw.mp hq with z | z
      · exact tl _ _ (st _ _ (h4 q z))
      · rw[Ae.mp z];exact tl _ _ HK
 · rintro σ' ys H' ⟨_,s,h1,qs,rfl,h3,h4⟩;refine hq H' qs s ?_ h1 h4;rw[h3,Ar (by simp)]
theorem Xa{bs:List (Str×V)}{f:Str}{v:V}{g:Str}:g∈(Jj bs f v).map (·.1)↔g∈bs.map (·.1)∨g=f:=by
 rw[P8]
 split
 · rename_i h;constructor
   · exact λz=> .inl z
   · rintro(z | rfl)
     · exact z
     · exact h
 · rw[Aw,Ae]
theorem XO{bs:List PP}{f:Str}(h:f∈bs.map (·.1)):∃n,IU bs f=some n:=by
 unfold IU;cases e:bs.find? (λx=>decide (x.1=f)) with
 | none=> obtain⟨x,hx,hf⟩:=Ay.mp h;exact absurd (decide_eq_true hf) (DD.mp e x hx)
 | some x=>exact⟨x.2,rfl⟩
theorem SI{w:List WP}{f:Str}(h:f∈w.map (·.1)):∃s,HZ w f=some s:=by
 cases e:HZ w f with
 | some s=>exact⟨s,rfl⟩
 | none=> obtain⟨x,hx,hf⟩:=Ay.mp h;exact absurd hf (Tz e x hx)
end L2
set_option maxHeartbeats 1000000
namespace L2
open PySem PySem.Spec PyProof.Rows PySem.W
def Vc:R2:=λx y H Q=>∃a b xs ys,x= .ref a∧y= .ref b∧H a=some (.tup xs)∧H b=some (.tup ys)∧xs.length+ys.length≤Au∧∀p H',Same H H'→H' p=some (.tup (xs++ys))→Q (.ref p) H'
theorem M9:IL X (binaryOp .Add) Vc:=by
 intro pins s σ H x y v u Q I rx ry h;obtain⟨a,b,xs,ys,rfl,rfl,ha,hb,hz,q⟩:=h;cases rx;cases ry;obtain⟨its,r1,p1,_⟩:=I.tuple (SqT.of ha);obtain⟨its2,r2,p2,_⟩:=I.tuple (SqT.of hb);by_cases hx:xs=[]
 · subst hx;cases r1;obtain⟨⟨cls,dd,data,sl⟩,ho,hc,n,hd⟩:=id p1;obtain⟨⟨cls2,dd2,data2,sl2⟩,ho2,hc2,n2,hd2⟩:=id p2;simp only at hc hd hc2 hd2;subst hc hd hc2 hd2;exact concat_meets ⟨_,ho,rfl⟩ ⟨_,ho2,rfl⟩ noFill_tuple_add seq_tuple_add DL DI (D6 _ _)
    (tuple_addW0 a b _ _ n n2 dd dd2 sl sl2 rfl) ⟨ho,ho2,⟨.ref b,H,I,rfl,q b H (Same.refl _) hb⟩⟩
 · refine HT.cat_tup p1 p2 (λz=>hx (r1.nil_iff.mp z)) (λz=>⟨.ref a,H,I,rfl,q a H (Same.refl _) (by rw[r2.nil_iff.mp z,BY];exact ha)⟩) (λz=>?_) (by rw[←r1.length,←r2.length];exact hz);have hn:=I.hok.fresh (Ag _);refine⟨.ref s.heap.objs.size,_,I.laid (t':=s.toks) (o:= .tup (xs++ys)) (λb ob q=>Ad _ q) (Ag _) ?_,rfl,q _ _ (HU hn _) HK⟩;exact⟨by rw[A5];exact hz,_,r1.append r2,IsTupP.new _ _⟩
def Qv:V→Option Int→Option Int→Hp→VK→Prop:=λx lo hi H Q=>∃a xs,x= .ref a∧H a=some (.tup xs)∧∀p H',Same H H'→H' p=some (.tup (II xs lo hi))→Q (.ref p) H'
theorem Y2{lo hi:Option Int}(h:HT.sIx xs.length 0 lo=0∧HT.sIx xs.length xs.length hi=xs.length):II xs lo hi=xs:=by unfold II;rw[h.1,h.2,Et,Nat.sub_zero];exact Ar (Ag _)
theorem NN:Mv X Qv:=by intro pins s σ H x v vl vu lo hi sl Q I rx hs pl pu h;obtain⟨a,xs,rfl,ha,q⟩:=h;exact RU pins s σ H (.ref a) v vl vu lo hi sl Q I rx hs pl pu ⟨a,xs,rfl,SqT.of ha,λhw=>q a H (Same.refl _) (by rw[Y2 hw];exact ha),λ_ p hp=>q p _ (HU hp _) HK⟩
theorem Ph{k:Int}(e:k=(n:Int)):II xs none (some k)=xs.take n:=by
 subst e;unfold II;rw[HT.sIx_none,HT.sIx_nat,Et,Nat.sub_zero];by_cases h:n≤xs.length
 · rw[FC h]
 · rw[Fl (by omega),Ar (Ag _),Ar (by omega)]
theorem SZ{k:Int}(e:k=(n:Int)):II xs (some k) none=xs.drop n:=by
 subst e;unfold II;rw[HT.sIx_none,HT.sIx_nat];by_cases h:n≤xs.length
 · rw[FC h];exact Ar (by simp)
 · rw[Fl (by omega),Nat.sub_self,List.take_zero,FM (by omega)]
open PySem PySem.Spec PyProof.Rows PySem.W
section
variable{o:HO}
end
open PySem PySem.Spec PyProof.Rows PySem.W
section
variable{base:Heap}{l:List Env}{H':Hp}{s0 s':Shared}{C t:Addr}{B h':Heap}
end
section
variable{H':Hp}{s':Shared}{C:Addr}
end
def del(H:Hp)(a:Addr):Hp:=λb=>if b=a then none else H b
section
variable{e C:Addr}
end
section
variable{g:Array GenState}{d:Drawn}{t:Nat}{os:OsState}{nm q:Str}{C N:Addr}{bs bm bmB:List Value}{hdct:Bool}{sn:List Str}{sub:List Value}
variable{ab:Bool}{col:Option Bool}{dd:Option Addr}{k0 k1 k2 k3 k5:Option Value}{B newId initId:String}{rest:List Value}
end
section
variable{g:Array GenState}{d:Drawn}{t:Nat}{os:OsState}{nm q:Str}{C N:Addr}{bs bm bmB:List Value}{hdct:Bool}{sn:List Str}{sub:List Value}
variable{ab:Bool}{col:Option Bool}{dd:Option Addr}{k0 k1 k2 k3 k5:Option Value}{B newId initId:String}{rest:List Value}
end
section
variable{mg:Str→Option Value}{base:Heap}{N:List Str}{qual:Str}{f:Addr}{cd:Value}{outer:List Env}{E:XK}
end
section
variable{mg:Str→Option Value}{base:Heap}{N:List Str}{qual:Str}{f:Addr}{cd:Value}{outer:List Env}{E:XK}
end
section
variable{E:XK}{C fI:Addr}{fd:BD}{k:Nat}{e1:Expr}{t:TA}{np cpos:Pos}
end
section
variable{o:HO}
end
section
variable{pins':List (Addr×Obj)}{RR:St→Value→Hp→Prop}
end
section
variable{base:Heap}{l:List Env}{H':Hp}{s0 s':Shared}{C t:Addr}{B:Heap}
end
section
variable{M:Model}{g:Array GenState}{d:Drawn}{t:Nat}{os:OsState}{nm q nm0 q0:Str}{C N C0 N0 e:Addr}{bs bm bs0 bm0:List Value}{hdct hdct0:Bool}{sn sn0:List Str}{sub sub0:List Value}
variable{ab ab0:Bool}{col col0:Option Bool}{dd dd0:Option Addr}{k0 k1 k2 k3 k5 j0 j1 j2 j3 j5:Option Value}{newId newId0:String}{oe:Obj}
end
section
variable{C0:Addr}{n:Str}{body suite:List Stmt}{b₀:Stmt}{np hpos:Pos}{tb:(St→Value→Hp→Prop)→TS}{ts:TS}
end
open PySem.W (Looks looks_findIn looks_mroIn looks_typeIn)
section
variable{g:Array GenState}{d:Drawn}{t:Nat}{os:OsState}{C:Addr}
end
end L2
namespace WB
end WB
namespace WB
end WB
namespace L2
section
variable{te:TE}{p2 p3 p4:Pos}
end
end L2
namespace WB
end WB
namespace L2
inductive DX where
 | non
 | bl (b:Bool)
 | int (i:Int)
 | str (x:Str)
 | lst (ds:List DX)
 | tup (ds:List DX)
 | dic
mutual
def pd:DX→PyData
 | .non=> .none
 | .bl b=> .bool b
 | .int i=> .int i
 | .str x=> .str x
 | .lst ds=> .list (Q5 ds)
 | .tup ds=> .tuple (Q5 ds)
 | .dic=> .dict []
def Q5:List DX→List PyData
 | []=>[]
 | d::ds=>pd d::Q5 ds
end
open PySem.AutoSeq1 (wpAny_loadPart')
open PySem.MeetsSeq PySem.MeetsSeq2 PySem.MeetsSeq3 PySem.SeqRoads2
def Kg(P:Bv)(w:World)(A:BZ)(s:Shared)(y x:Value):Prop:=∀(E:Value→Shared→Prop)(Q:Bool→Shared→Prop),Q true s→wpAny (model P w) A (eqBool y x) Q E s
theorem YK(l b:Addr)(items items2:Array Value)(n n2:Nat)(dd dd2:Option Addr)(sl sl2:Array (Option Value))(hsz:items.size=items2.size)(k:Nat):
 ∀i:Nat,items.size - i=k→∀(A:BZ)(R:Result→Shared→Prop)(s:Shared),s.heap.get? l=some {cls:= .type "list",dict:=dd,data:= .seq items n,slots:=sl}→s.heap.get? b=some {cls:= .type "list",dict:=dd2,data:= .seq items2 n2,slots:=sl2}→
  (∀j(h1:j<items.size)(h2:j<items2.size),Kg P w A.in1 s items[j] items2[j])→R (.ok (.ret (.bool true))) s→
  wpAny (model P w) A.in1 (Builtin.«list.__eq__.loop» ⟨[.ref l,.ref b,rawInt i,rawInt 2],[]⟩) (λfin s'=>match fin with | .done f=>R (.ok f) s' | .again c'=>c'.quiet=true∧codeAny (model P w) A c' R s') (λe s'=>R (.error e) s') s:=by
 induction k with
 | zero=>
  intro i hk A R s hl hb he h;obtain⟨hp,g,d,tk,os⟩:=s
  wp_walk using Bo hl,Bo hb
  have o1:items[((i:Nat):Int).toNat]?=none:=by simp;omega
  have o2:items2[((i:Nat):Int).toNat]?=none:=by simp;omega
  rw[o1,o2]
  wp_walk using Bo hl,Bo hb
  show R (.ok (.ret (.bool (items.size==items2.size)))) _;rw[hsz];simpa using h
 | succ k ih=>
  intro i hk A R s hl hb he h;obtain⟨hp,g,d,tk,os⟩:=s
  wp_walk using Bo hl,Bo hb
  have lt1:i<items.size:=by omega
  have Ms:i<items2.size:=by omega
  have o1:items[((i:Nat):Int).toNat]?=some items[i]:=by simp[lt1]
  have o2:items2[((i:Nat):Int).toNat]?=some items2[i]:=by simp[Ms]
  have hc:((i:Int)+1)=((i+1:Nat):Int):=by push_cast;rfl
  rw[o1,o2];refine Aa (he i lt1 Ms _ _ ?_)
  wp_walk
  rw[hc];exact⟨Bd plain_eq_loop _,Bf entry_eq_loop (by rw[AK plain_eq_loop _];exact ih (i+1) (by omega) A R _ hl hb he h)⟩
theorem UI(l b:Addr)(items items2:Array Value)(n n2:Nat)(dd dd2:Option Addr)(sl sl2:Array (Option Value))(hsz:items.size=items2.size)(A:BZ)(R:Result→Shared→Prop)(s:Shared)
 (hl:s.heap.get? l=some {cls:= .type "list",dict:=dd,data:= .seq items n,slots:=sl}) (hb:s.heap.get? b=some {cls:= .type "list",dict:=dd2,data:= .seq items2 n2,slots:=sl2})
 (he:∀j(h1:j<items.size)(h2:j<items2.size),Kg P w A.in1 s items[j] items2[j]) (h:R (.ok (.ret (.bool true))) s):
 wpAny (model P w) A.in1 (Builtin.«list.__eq__» ⟨[.ref l,.ref b],[]⟩) (λfin s'=>match fin with | .done f=>R (.ok f) s' | .again c'=>c'.quiet=true∧codeAny (model P w) A c' R s') (λe s'=>R (.error e) s') s:=by
 obtain⟨hp,g,d,tk,os⟩:=s;have f3:=FN;have hne:¬(items.size !=items2.size)=true:=by simp[hsz]
 wp_walk using Bo hl,Bo hb
 exact⟨Bd plain_eq_loop _,Bf entry_eq_loop (by rw[AK plain_eq_loop _];exact YK l b items items2 n n2 dd dd2 sl sl2 hsz _ 0 rfl A R _ hl hb he h)⟩
theorem W2{l:Addr}{items items2:Array Value}{E:Value→Shared→Prop}{Q:Value→Shared→Prop}(hl:s.heap.IsList l items)(hb:s.heap.IsList b items2)(hsz:items.size=items2.size)(hu:A.units<cLine)
 (he:∀j(h1:j<items.size)(h2:j<items2.size),Kg P w A.in1 s items[j] items2[j]) (h:Q (.bool true) s):wpAny (model P w) A (richCompare .Eq (.ref l) (.ref b)) Q E s:=by
 obtain⟨⟨c1,dd,data,sl⟩,ho,hc,n,hd⟩:=id hl;obtain⟨⟨c2,dd2,data2,sl2⟩,ho2,hc2,n2,hd2⟩:=id hb;simp only at hc hd hc2 hd2;subst hc hd hc2 hd2;refine EB (op:= .Eq) ⟨_,ho,rfl⟩ ⟨_,ho2,rfl⟩ F.slot_list_eq ?_ hu;refine Eb (Dm F.slot_list_eq.plain F.entry_list_eq (F.slot_list_eq.check _ _ _ _ _ _ _ _ ⟨_,ho,rfl⟩ (F.args_list_eq_2 _ _) ?_));exact UI l b items items2 n n2 dd dd2 sl sl2 hsz A (wants (λv s'=>v≠ .notImplemented∧Q v s') E) s ho ho2 he (show Value.bool true≠Value.notImplemented∧Q (.bool true) s from⟨(λx=>nomatch x),h⟩)
open PySem PySem.Spec PyProof.Rows PySem.Calls
section
variable{κ:Type}[DecidableEq κ]{knd:KeyKind P w κ}
end
inductive DY where
 | non
 | bl (b:Bool)
 | int (i:Int)
 | str (x:Str)
 | lst (ds:List DY)
 | tup (ds:List DY)
 | dic
 | da (d:DY)
mutual
def Ld(H:Hp):DY→V→Prop
 | .non,v=>v= .non
 | .bl b,v=>v= .bl b
 | .int i,v=>v= .int i
 | .str x,v=>v= .str x∧x.length≤900
 | .lst ds,v=>∃a xs,v= .ref a∧H a=some (.lst xs)∧ds.length≤900∧O6 H ds xs
 | .tup ds,v=>∃a xs,v= .ref a∧H a=some (.tup xs)∧ds.length≤900∧O6 H ds xs
 | .dic,v=>∃a,v= .ref a∧H a=some (.dK [])
 | .da d,v=>∃a u,v= .ref a∧H a=some (.dK [(.inr "a",u)])∧Ld H d u
def O6(H:Hp):List DY→List V→Prop
 | [],xs=>xs=[]
 | d::ds,xs=>∃x r,xs=x::r∧Ld H d x∧O6 H ds r
end
mutual
def O8:DY→Nat
 | .lst ds=>OL ds+1
 | .tup ds=>OL ds+1
 | .da d=>O8 d+1
 | _=>0
def OL:List DY→Nat
 | []=>0
 | d::ds=>max (O8 d) (OL ds)
end
def Mu(b g:Addr)(H:Hp):Hp:=λa=>if a=b∨a=g then none else H a
section
variable{mg:Str→Option Value}{base:Heap}
end
theorem Rv{a b:Option Int}(h:eV a=eV b):a=b:=by cases a<;>cases b<;>simp[eV] at h ⊢;exact h
theorem Ku{t u:TS}{D:Ends}(M:St→Hp→Prop)(h1:∀Z:St→Hp→Prop,(∀σ' H',M σ' H'→Z σ' H')→t {D with nx:=Z} σ H)(h2:∀σ' H',M σ' H'→u D σ' H'):LO t u D σ H:=h1 (u D) h2
theorem LM{v:V}{Q:St→Hp→Prop}(h:Q (σ.set i (some v)) H):JN i v σ H Q:=h
theorem WishAt.tyN{w:List WP}(h:WishAt H a w):∃xs,H a=some (.tup xs)∧xs.length=w.length:=by obtain⟨ps,rfl,e,_⟩:=h;exact⟨_,e,by simp⟩
structure WsAt(H:Hp)(l:Addr)(ws:List (Addr×List WP)):Prop where
 at':H l=some (.lst (ws.map λx=>V.ref x.1))
 ok:∀x∈ws,WishAt H x.1 x.2∧WOk x.2
 len:ws.length≤800
theorem WsAt.same{H':Hp}{l:Addr}{ws:List (Addr×List WP)}(h:WsAt H l ws)(s:Same H H'):WsAt H' l ws:=⟨s _ _ h.at',λx hx=>⟨(h.ok x hx).1.same s,(h.ok x hx).2⟩,h.len⟩
def RV:Sp:=λvs H Q _=>∃(l:Addr)(ws:List (Addr×List WP)),vs=[.ref l]∧WsAt H l ws∧∀H',Same H H'→Q (.bl true) H'
def SC:Sp:=λvs H Q _=>∃(l:Addr)(ws:List (Addr×List WP)),vs=[.ref l]∧WsAt H l ws∧∀H',Same H H'→Q .non H'
open PySem.AutoSeq1 (wpAny_loadPart')
open PySem.MeetsSeq PySem.MeetsSeq2 PySem.MeetsSeq3 PySem.SeqRoads2 PySem.Calls
theorem YT(l b:Addr)(items items2:Array Value)(n n2:Nat)(dd dd2:Option Addr)(sl sl2:Array (Option Value))(hsz:items.size=items2.size)(k:Nat):
 ∀i:Nat,items.size - i=k→∀(A:BZ)(R:Result→Shared→Prop)(s:Shared),s.heap.get? l=some {cls:= .type "list",dict:=dd,data:= .seq items n,slots:=sl}→s.heap.get? b=some {cls:= .type "list",dict:=dd2,data:= .seq items2 n2,slots:=sl2}→
  (∀j(h1:j<items.size)(h2:j<items2.size),Kg P w A.in1 s items[j] items2[j])→R (.ok (.ret (.bool false))) s→
  wpAny (model P w) A.in1 (Builtin.«list.__eq__.loop» ⟨[.ref l,.ref b,rawInt i,rawInt 3],[]⟩) (λfin s'=>match fin with | .done f=>R (.ok f) s' | .again c'=>c'.quiet=true∧codeAny (model P w) A c' R s') (λe s'=>R (.error e) s') s:=by
 induction k with
 | zero=>
  intro i hk A R s hl hb he h;obtain⟨hp,g,d,tk,os⟩:=s
  wp_walk using Bo hl,Bo hb
  have o1:items[((i:Nat):Int).toNat]?=none:=by simp;omega
  have o2:items2[((i:Nat):Int).toNat]?=none:=by simp;omega
  rw[o1,o2]
  wp_walk using Bo hl,Bo hb
  show R (.ok (.ret (.bool (items.size !=items2.size)))) _;rw[hsz];simpa using h
 | succ k ih=>
  intro i hk A R s hl hb he h;obtain⟨hp,g,d,tk,os⟩:=s
  wp_walk using Bo hl,Bo hb
  have lt1:i<items.size:=by omega
  have Ms:i<items2.size:=by omega
  have o1:items[((i:Nat):Int).toNat]?=some items[i]:=by simp[lt1]
  have o2:items2[((i:Nat):Int).toNat]?=some items2[i]:=by simp[Ms]
  have hc:((i:Int)+1)=((i+1:Nat):Int):=by push_cast;rfl
  rw[o1,o2];refine Aa (he i lt1 Ms _ _ ?_)
  wp_walk
  rw[hc];exact⟨Bd plain_eq_loop _,Bf entry_eq_loop (by rw[AK plain_eq_loop _];exact ih (i+1) (by omega) A R _ hl hb he h)⟩
theorem VT(l b:Addr)(items items2:Array Value)(n n2:Nat)(dd dd2:Option Addr)(sl sl2:Array (Option Value))(hsz:items.size=items2.size)(A:BZ)(R:Result→Shared→Prop)(s:Shared)
 (hl:s.heap.get? l=some {cls:= .type "list",dict:=dd,data:= .seq items n,slots:=sl}) (hb:s.heap.get? b=some {cls:= .type "list",dict:=dd2,data:= .seq items2 n2,slots:=sl2})
 (he:∀j(h1:j<items.size)(h2:j<items2.size),Kg P w A.in1 s items[j] items2[j]) (h:R (.ok (.ret (.bool false))) s):
 wpAny (model P w) A.in1 (Builtin.«list.__ne__» ⟨[.ref l,.ref b],[]⟩) (λfin s'=>match fin with | .done f=>R (.ok f) s' | .again c'=>c'.quiet=true∧codeAny (model P w) A c' R s') (λe s'=>R (.error e) s') s:=by
 obtain⟨hp,g,d,tk,os⟩:=s;have f3:=FN;have hne:¬(items.size !=items2.size)=true:=by simp[hsz]
 wp_walk using Bo hl,Bo hb
 exact⟨Bd plain_eq_loop _,Bf entry_eq_loop (by rw[AK plain_eq_loop _];exact YT l b items items2 n n2 dd dd2 sl sl2 hsz _ 0 rfl A R _ hl hb he h)⟩
theorem W6{l:Addr}{items items2:Array Value}{E:Value→Shared→Prop}{Q:Value→Shared→Prop}(hl:s.heap.IsList l items)(hb:s.heap.IsList b items2)(hsz:items.size=items2.size)(hu:A.units<cLine)
 (he:∀j(h1:j<items.size)(h2:j<items2.size),Kg P w A.in1 s items[j] items2[j]) (h:Q (.bool false) s):wpAny (model P w) A (richCompare .NotEq (.ref l) (.ref b)) Q E s:=by
 obtain⟨⟨c1,dd,data,sl⟩,ho,hc,n,hd⟩:=id hl;obtain⟨⟨c2,dd2,data2,sl2⟩,ho2,hc2,n2,hd2⟩:=id hb;simp only at hc hd hc2 hd2;subst hc hd hc2 hd2;refine EB (op:= .NotEq) ⟨_,ho,rfl⟩ ⟨_,ho2,rfl⟩ F.slot_list_ne ?_ hu;refine Eb (Dm F.slot_list_ne.plain F.entry_list_ne (F.slot_list_ne.check _ _ _ _ _ _ _ _ ⟨_,ho,rfl⟩ (F.args_list_ne_2 _ _) ?_));exact VT l b items items2 n n2 dd dd2 sl sl2 hsz A (wants (λv s'=>v≠ .notImplemented∧Q v s') E) s ho ho2 he (show Value.bool false≠Value.notImplemented∧Q (.bool false) s from⟨(λx=>nomatch x),h⟩)
section
variable{κ:Type}[DecidableEq κ]{knd:KeyKind P w κ}
end
theorem OJ{α:Type}(f:α→Bool)(l:List α):(l.map f).all id=l.all f:=by
 induction l with
 | nil=>rfl
 | cons x l ih=>rw[A0,CF,CF,ih];rfl
theorem SA:∀ts:List Str,Reps K H (ts.map PD.str) (ts.map V.str)
 | []=>by show Reps K H [] [];rw[Reps]
 | n::ns=>by show Reps K H (.str n::ns.map PD.str) (.str n::ns.map V.str);rw[Reps];exact⟨_,_,rfl,by rw[HJ],SA ns⟩
theorem Uh:∀ts:List Str,Ja (ts.map PD.str)=0
 | []=>by show Ja []=0;rw[Ja]
 | n::ns=>by
  show Ja (.str n::ns.map PD.str)=0;rw[Ja,Uh ns,Je]
  all_goals simp
def Q2:R2:=λx y H Q=>∃a b xs,x= .ref a∧y= .ref b∧H a=some (.lst xs)∧H b=some (.lst [])∧Q (.bl xs.isEmpty) H
def Qy:R2:=λx y H Q=>∃a b xs,x= .ref a∧y= .ref b∧H a=some (.lst xs)∧H b=some (.lst [])∧Q (.bl (!xs.isEmpty)) H
theorem VX(hr:Lk X):IL X (By .Eq) Q2:=by
 intro pins s σ H x y v u Q I rx ry h;obtain⟨a,b,xs,rfl,rfl,ha,hb,q⟩:=h;cases(show v=Value.ref a from rx);cases(show u=Value.ref b from ry);unfold Lk at hr;obtain⟨_,its,n,rv,hg⟩:=(show ObjOk X.prog X.w H s.heap a (.lst xs) from I.hok a _ ha);obtain⟨_,its',n',rv',hg'⟩:=(show ObjOk X.prog X.w H s.heap b (.lst []) from I.hok b _ hb);cases rv';cases xs with
 | nil=> cases rv;exact W2 ⟨_,hg,rfl,_,rfl⟩ ⟨_,hg',rfl,_,rfl⟩ rfl (by omega) (λj k1 k2=>absurd k1 (by simp)) ⟨.bl true,H,I,rfl,q⟩
 | cons x xs=> have l:=rv.length;exact DB (l:=a) (b:=b) ⟨_,hg,rfl,_,rfl⟩ ⟨_,hg',rfl,_,rfl⟩ (by simp;intro z;rw[z] at l;simp at l) (by omega) X.prog X.w _ _ ⟨.bl false,H,I,rfl,q⟩
theorem OF(hr:Lk X):IL X (By .NotEq) Qy:=by
 intro pins s σ H x y v u Q I rx ry h;obtain⟨a,b,xs,rfl,rfl,ha,hb,q⟩:=h;cases(show v=Value.ref a from rx);cases(show u=Value.ref b from ry);unfold Lk at hr;obtain⟨_,its,n,rv,hg⟩:=(show ObjOk X.prog X.w H s.heap a (.lst xs) from I.hok a _ ha);obtain⟨_,its',n',rv',hg'⟩:=(show ObjOk X.prog X.w H s.heap b (.lst []) from I.hok b _ hb);cases rv';cases xs with
 | nil=> cases rv;exact W6 ⟨_,hg,rfl,_,rfl⟩ ⟨_,hg',rfl,_,rfl⟩ rfl (by omega) (λj k1 k2=>absurd k1 (by simp)) ⟨.bl false,H,I,rfl,q⟩
 | cons x xs=> have l:=rv.length;exact EI (l:=a) (b:=b) ⟨_,hg,rfl,_,rfl⟩ ⟨_,hg',rfl,_,rfl⟩ (by simp;intro z;rw[z] at l;simp at l) (by omega) X.prog X.w _ _ ⟨.bl true,H,I,rfl,q⟩
theorem UC(xs:List V)(k:Nat):II xs (some (k:Int)) none=xs.drop k:=by
 unfold II;rw[show HT.sIx xs.length xs.length none=xs.length from rfl,show HT.sIx xs.length 0 (some (k:Int))=min k xs.length from HT.sIx_nat _ _ k];rcases Nat.le_total k xs.length with h | h
 · rw[FC h];exact Ar (by rw[C5];exact Ag _)
 · rw[Fl h,FP h,FP (Ag _)];simp
theorem Xc{v:V}{u:TS}{D:Ends}(h:u D (σ.set i (some v)) H):LO (K4 (tC v) (JN i)) u D σ H:=h
theorem O7:AV "abs"=some (.builtin "abs"):=by decide+kernel
abbrev wM:Int:=2147483563
structure Well(H:Hp)(b g l:Addr)(n:Int):Prop where
 ex:∃(gs ls:List Int)(sd c:Int),H b=some (.lst [.ref g,.ref l,.int sd,.int c])∧H g=some (.lst (gs.map V.int))∧H l=some (.lst (ls.map V.int))∧
  gs.length≤63∧ls.length≤63∧(∀x∈ls,0≤x∧x<wM)∧0≤sd∧sd<wM∧0≤c∧c≤n
 gl:g≠l
 bg:b≠g
 bl:b≠l
theorem Well.mono{g l:Addr}{n m:Int}(B:Well H b g l n)(h:n≤m):Well H b g l m:=by obtain⟨⟨gs,ls,sd,c,h1,h2,h3,h4,h5,h6,h7,h8,h9,h10⟩,gl,bg,bl⟩:=B;exact⟨⟨gs,ls,sd,c,h1,h2,h3,h4,h5,h6,h7,h8,h9,Fg h10 h⟩,gl,bg,bl⟩
theorem Well.same{H':Hp}{g l:Addr}{n:Int}(B:Well H b g l n)(h:Same H H'):Well H' b g l n:=by obtain⟨⟨gs,ls,sd,c,h1,h2,h3,h4⟩,gl,bg,bl⟩:=B;exact⟨⟨gs,ls,sd,c,h _ _ h1,h _ _ h2,h _ _ h3,h4⟩,gl,bg,bl⟩
theorem Well.tup{g l:Addr}{n:Int}{H':Hp}(B:Well H b g l n)(s:SameB b g H H')(h:H a=some (.tup xs)):H' a=some (.tup xs):=by obtain⟨gs,ls,c,st,h1,h2,_⟩:=B.ex;exact s a _ h (Ki h h1 (by intro z;cases z)) (Ki h h2 (by intro z;cases z))
theorem Well.free{g l:Addr}{n:Int}(B:Well H b g l n){p:Addr}(h:H p=none):p≠b∧p≠g∧p≠l:=by obtain⟨gs,ls,c,st,h1,h2,h3,_⟩:=B.ex;exact⟨(J8 h1 h).symm,(J8 h2 h).symm,(J8 h3 h).symm⟩
theorem Well.trk{g l:Addr}{n:Int}(B:Well H b g l n):H b≠none∧H g≠none:=by
 obtain⟨gs,ls,c,st,h1,h2,_⟩:=B.ex;refine⟨?_,?_⟩
 · rw[h1];exact Gw _
 · rw[h2];exact Gw _
theorem Well.back{H':Hp}{g l:Addr}{n:Int}(B:Well H' b g l n)(s:SameB b g H H'):∀a,H' a=Option.none→H a=Option.none:=λa h=>by
 cases e:H a with
 | none=>rfl
 | some o=> have h1:a≠b:=λz=>B.trk.1 (z ▸ h);have h2:a≠g:=λz=>B.trk.2 (z ▸ h);rw[s a o e h1 h2] at h;cases h
theorem Well.off{g l p:Addr}{n:Int}{o:HO}(B:Well H b g l n)(pb:p≠b)(pg:p≠g)(pl:p≠l):Well (HI H p o) b g l n:=by obtain⟨gs,ls,c,st,e1,e2,e3,r⟩:=B.ex;exact⟨⟨gs,ls,c,st,by rw[Ij pb.symm];exact e1,by rw[Ij pg.symm];exact e2,by rw[Ij pl.symm];exact e3,r⟩,B.gl,B.bg,B.bl⟩
theorem WishAt.sameW{H':Hp}{g l:Addr}{n:Int}{w:List WP}(h:WishAt H a w)(B:Well H b g l n)(s:SameB b g H H'):WishAt H' a w:=h.keep λ_ _ e=>B.tup s e
theorem WsAt.sameW{H':Hp}{g m:Addr}{n:Int}{l:Addr}{ws:List (Addr×List WP)}(h:WsAt H l ws)(B:Well H b g m n)(lb:l≠b)(lg:l≠g)(s:SameB b g H H'):WsAt H' l ws:=⟨s _ _ h.at' lb lg,λx hx=>⟨(h.ok x hx).1.sameW B s,(h.ok x hx).2⟩,h.len⟩
theorem Lj{m:Int}(h:m≤10^6):m<2^500:=Int.lt_of_le_of_lt h (by decide)
def Rm(K:Ao):Sp:=λvs H Q _=>∃(a:Addr)(ns:List Int),vs=[.ref a]∧SqL K H a (ns.map V.int)∧ns.length≤63∧
 ∀(b g l:Addr)(H':Hp),Well H' b g l 0→Same H H'→H b=none→H g=none→Q (.ref b) H'
def Rj:Sp:=λvs H Q _=>∃(b g l:Addr)(n many:Int),vs=[.ref b,.int many]∧Well H b g l n∧n≤2^40∧0<many∧many<2^500∧
 ∀(r:Int)(H':Hp),0≤r→r<many→Well H' b g l (n+1)→SameB b g H H'→Q (.int r) H'
def Ri:Sp:=λvs H Q _=>∃(b g l:Addr)(n most:Int),vs=[.ref b,.int most]∧Well H b g l n∧n≤10^8∧1≤most∧most≤8∧
 ∀(x:Str)(H':Hp),FieldOk x→Well H' b g l (n+12)→SameB b g H H'→Q (.str x) H'
def Tu:Sp:=λvs H Q _=>∃(b g l:Addr)(n many:Int),vs=[.ref b,.int many]∧Well H b g l n∧n≤10^7∧1≤many∧many≤6∧
 ∀(r:Addr)(fs:List Str)(H':Hp),H r=none→H' r=some (.lst (fs.map V.str))→fs.Pairwise Ix→(∀f∈fs,FieldOk f)→1≤fs.length→(fs.length:Int)≤many→Well H' b g l (n+200)→SameB b g H H'→Q (.ref r) H'
def R4:Sp:=λvs H Q _=>∃(b g l:Addr)(n:Int),vs=[.ref b]∧Well H b g l n∧n≤10^9∧∀(r:Int)(H':Hp), -(10^15)<r→r<10^15→Well H' b g l (n+5)→SameB b g H H'→Q (.int r) H'
def R8:Sp:=λvs H Q _=>∃(b g l:Addr)(n:Int),vs=[.ref b]∧Well H b g l n∧n≤10^8∧
 ∀(t:Addr)(lo sz:Int)(H':Hp),H' t=some (.tup [.int lo,.int sz])→ -(10^15)<lo→lo<10^15→1≤sz→sz≤10^10→Well H' b g l (n+12)→SameB b g H H'→Q (.ref t) H'
def Nq(fs:List Str)(w:List WP):Prop:=∀p∈w,p.1∈fs
structure NamesAt(H:Hp)(b g:Addr)(a:Addr)(fs:List Str):Prop where
 at':H a=some (.lst (fs.map V.str))
 nb:a≠b
 ng:a≠g
 len:fs.length≤6
 ok:∀f∈fs,FieldOk f
 asc:fs.Pairwise Ix
theorem NamesAt.sameB{H':Hp}{g:Addr}{fs:List Str}(h:NamesAt H b g a fs)(s:SameB b g H H'):NamesAt H' b g a fs:=⟨s _ _ h.at' h.nb h.ng,h.nb,h.ng,h.len,h.ok,h.asc⟩
def W0:V→Option Int→Option Int→Hp→VK→Prop:=λx lo hi H Q=>∃y:Str,x= .str y∧y.length≤100000∧∀z:Str,z.length≤y.length→(∀j,hi=some j→0≤j→(z.length:Int)≤j)→(∀c∈z.cps.toList,c∈y.cps.toList)→(∀j,lo=none→hi=some j→1≤j→1≤y.length→1≤z.length)→Q (.str z) H
theorem Yb(lo hi:Option Int)(n:Nat):(AU lo hi 1 n).length≤n∧(∀j,hi=some j→0≤j→((AU lo hi 1 n).length:Int)≤j)∧(∀j,lo=none→hi=some j→1≤j→1≤n→0∈AU lo hi 1 n):=by
 refine⟨indices_len_le lo hi n,λj e h0=>?_,λj e1 e2 h1 h2=>?_⟩
 · subst e;unfold AU sliceRange;cases lo<;>simp only[show(1:Int)>0 by decide,if_true,Ab,CB]<;>(split<;>(try split)<;>(try split)<;>(try simp only[Int.ediv_one])<;>omega)
 · subst e1 e2;unfold AU sliceRange;simp only[show(1:Int)>0 by decide,if_true];refine Ay.mpr ⟨0,CH.mpr ?_,?_⟩
   · have:¬j<0:=by omega
     simp only[this,if_false,Int.ediv_one]
     split<;>omega
   · simp
theorem OV:Mv X W0:=by
 intro pins s σ H x v vl vu lo hi sl Q I rx hs pl pu h;obtain⟨y,rfl,hl,q⟩:=h;obtain⟨t,rfl⟩:=(show ∃t,v=Value.str y t from rx);obtain⟨l,el,e1⟩:∃l:Option (Int×Tok),vl=partValue l∧l.map (·.1)=lo:=by
  cases pl with
  | none=>exact⟨none,rfl,rfl⟩
  | int i t=>exact⟨some (i,t),rfl,rfl⟩
 obtain⟨u,eu,e2⟩:∃l:Option (Int×Tok),vu=partValue l∧l.map (·.1)=hi:=by
  cases pu with
  | none=>exact⟨none,rfl,rfl⟩
  | int i t=>exact⟨some (i,t),rfl,rfl⟩
 have hS:s.heap.IsSlice sl l u none:=by obtain⟨o,h1,h2,h3⟩:=hs;exact⟨o,h1,h2,by rw[h3,el,eu];rfl⟩
 have pk:slicePicked y l u none=AU lo hi 1 y.length:=by unfold slicePicked;rw[e1,e2];rfl
 obtain⟨p1,p2,p3⟩:=Yb lo hi y.length;have hsz:(100000:Nat)≤Au:=by decide
 refine⟨"str",_,F.slot_str_getitem.lookup,typeIs_str s y t,?_⟩;refine getItem_meets (typeIs_str s y t) (by decide) F.slot_str_getitem F.entry_str_getitem (F.args_str_getitem_2 _ _) (meets_str_getitem_slice y t sl l u none rfl) ⟨hS,?_⟩;unfold sliceMade;rw[pk]
 split
 · rename_i hc;have hc:(AU lo hi 1 y.length).length=y.length:=by simpa using hc
   exact⟨.str y,H,I,⟨t,rfl⟩,q y (Ag _) (λj e h0=>by have:=p2 j e h0;omega) (λc hc=>hc) λ_ _ _ _ z=>z⟩
 · have hz:(⟨((AU lo hi 1 y.length).filterMap (y.cps[·]?)).toArray⟩:Str).length≤(AU lo hi 1 y.length).length:=by
    show(List.filterMap _ _).toArray.size≤_;rw[Ax];exact List.length_filterMap_le _ _
   refine⟨by omega,⟨.str _,H,I.tok _,⟨_,rfl⟩,q _ (by omega) (λj e h0=>by have:=p2 j e h0;omega) (λc hc=>?_) λj f1 f2 f3 f4=>?_⟩⟩
   · have hc:c∈(AU lo hi 1 y.length).filterMap (y.cps[·]?):=by simpa using hc
     obtain⟨i,_,hi'⟩:=D4.mp hc;exact Array.mem_toList_iff.mpr (Array.mem_of_getElem? hi')
   · have m0:=p3 j f1 f2 f3 f4;show 1≤(List.filterMap _ _).toArray.size;rw[Ax];have h0:0<y.cps.size:=f4;have:y.cps[0]'h0∈(AU lo hi 1 y.length).filterMap (y.cps[·]?):=D4.mpr ⟨0,m0,by simp[h0]⟩;exact FQ this
theorem ZK(elt t0 i0 t1 i1:Expr)(f0 f1:List Expr)(scope:Scope)(pos:Pos)(it acc:Value)(env:Env):
 compTurn (.ListComp elt [⟨t0,i0,f0,0⟩,⟨t1,i1,f1,0⟩] scope pos) 0 it acc env=(do
  standAt i0.pos
  match ←pyNext it with
  | none=>pure (.done .next)
  | some v=>
   BH t0 it v
   assign t0 env v
   let mut ok:=true
   for c in f0 do
    if ok then ok ←isTrue c env (eval c env)
   if ok then
    let x ←eval i1 env
    standAt i1.pos
    let x ←A_ i1 env x
    let _ ←runOwn (.compStart (.ListComp elt [⟨t0,i0,f0,0⟩,⟨t1,i1,f1,0⟩] scope pos) 1 (←holding [x] (pyIter x)) acc env) env
   again (.compLoop (.ListComp elt [⟨t0,i0,f0,0⟩,⟨t1,i1,f1,0⟩] scope pos) 0 it acc env)):=by rfl
theorem Z0(elt t0 i0 t1 i1:Expr)(f0 f1:List Expr)(scope:Scope)(pos:Pos)(it acc:Value)(env:Env):
 compTurn (.ListComp elt [⟨t0,i0,f0,0⟩,⟨t1,i1,f1,0⟩] scope pos) 1 it acc env=(do
  standAt i1.pos
  match ←pyNext it with
  | none=>pure (.done .next)
  | some v=>
   BH t1 it v
   assign t1 env v
   let mut ok:=true
   for c in f1 do
    if ok then ok ←isTrue c env (eval c env)
   if ok then
    (do let _ ←call (.builtin "list.append") [acc,←eval elt env])
   again (.compLoop (.ListComp elt [⟨t0,i0,f0,0⟩,⟨t1,i1,f1,0⟩] scope pos) 1 it acc env)):=by rfl
section
variable{R:Result→Shared→Prop}
variable{elt t0 i0 t1 i1:Expr}{f0 f1:List Expr}{it acc:Value}{env:Env}
theorem ZJ(I:Nat→Shared→Prop)
 (turn:∀n s,I n s→wpAny (model prog w) A (pyNext it) (λr s₁=>match r with
  | none=>R (.ok .next) s₁
  | some v=>wpAny (model prog w) A (BH t1 it v) (λ_ s₁'=>wpAny (model prog w) A (assign t1 env v) (λ_ s₂=>
   wpAny (model prog w) A (forIn f1 true λc r=>if r=true then do let ok ←isTrue c env (eval c env);pure (ForInStep.yield ok) else pure (ForInStep.yield r)) (λok s₃=>
    if ok=true then wpAny (model prog w) A (eval elt env) (λx s₄=> wpAny (model prog w) A (call (.builtin "list.append") [acc,x]) (λ_ s₅=>∃m,m<n∧I m s₅) (λ_ _=>False) s₄) (λ_ _=>False) s₃
    else ∃m,m<n∧I m s₃) (λ_ _=>False) s₂) (λ_ _=>False) s₁') (λ_ _=>False) s₁) (λ_ _=>False) s)
 (n:Nat) (h:I n s):
 codeAny (model prog w) A (.compLoop (.ListComp elt [⟨t0,i0,f0,0⟩,⟨t1,i1,f1,0⟩] scope pos) 1 it acc env) R s:=by
 refine D9 rfl I (λn s hI=>?_) n h;show wpAny _ A ((compTurn (.ListComp elt [⟨t0,i0,f0,0⟩,⟨t1,i1,f1,0⟩] scope pos) 1 it acc env).onRaise (λx=>do noteFrame x env;theTreesLotGoes x)) _ _ s
 refine DN ?_;rw[Z0];refine Aa (Bp (Aa (A4 (turn n s hI) (λr s₁ h₁=>?_) λ_ _ h'=>h'.elim)));cases r with
 | none=>exact Ac h₁
 | some v=>
  refine Aa (A4 h₁ (λ_ s₁' h₁'=>?_) λ_ _ h'=>h'.elim);refine Aa (A4 h₁' (λ_ s₂ h₂=>Aa (A4 h₂ (λok s₃ h₃=>?_) λ_ _ h'=>h'.elim)) λ_ _ h'=>h'.elim);cases ok with
  | false=>exact Ac ⟨rfl,h₃⟩
  | true=> exact Aa (Aa (A4 h₃ (λx s₄ h₄=>Aa (A4 h₄ (λ_ s₅ h₅=>Ac (Ac ⟨rfl,h₅⟩)) λ_ _ h'=>h'.elim)) λ_ _ h'=>h'.elim))
theorem ZI(hs:∀x,A_ i1 env x=pure x)(I:Nat→Shared→Prop)
 (turn:∀n s,I n s→wpAny (model prog w) A (pyNext it) (λr s₁=>match r with
  | none=>R (.ok .next) s₁
  | some v=>wpAny (model prog w) A (BH t0 it v) (λ_ s₁'=>wpAny (model prog w) A (assign t0 env v) (λ_ s₂=>
   wpAny (model prog w) A (forIn f0 true λc r=>if r=true then do let ok ←isTrue c env (eval c env);pure (ForInStep.yield ok) else pure (ForInStep.yield r)) (λok s₃=>
    if ok=true then wpAny (model prog w) A (eval i1 env) (λx s₄=>wpAny (model prog w) A (pyIter x) (λj s₅=> codeAny (model prog w) A (.compStart (.ListComp elt [⟨t0,i0,f0,0⟩,⟨t1,i1,f1,0⟩] scope pos) 1 j acc env) (λr s₆=>r= .ok .next∧∃m,m<n∧I m s₆) s₅) (λ_ _=>False) s₄) (λ_ _=>False) s₃
    else ∃m,m<n∧I m s₃) (λ_ _=>False) s₂) (λ_ _=>False) s₁') (λ_ _=>False) s₁) (λ_ _=>False) s)
 (n:Nat) (h:I n s):
 codeAny (model prog w) A (.compLoop (.ListComp elt [⟨t0,i0,f0,0⟩,⟨t1,i1,f1,0⟩] scope pos) 0 it acc env) R s:=by
 refine D9 rfl I (λn s hI=>?_) n h;show wpAny _ A ((compTurn (.ListComp elt [⟨t0,i0,f0,0⟩,⟨t1,i1,f1,0⟩] scope pos) 0 it acc env).onRaise (λx=>do noteFrame x env;theTreesLotGoes x)) _ _ s
 refine DN ?_;rw[ZK];refine Aa (Bp (Aa (A4 (turn n s hI) (λr s₁ h₁=>?_) λ_ _ h'=>h'.elim)));cases r with
 | none=>exact Ac h₁
 | some v=>
  refine Aa (A4 h₁ (λ_ s₁' h₁'=>?_) λ_ _ h'=>h'.elim);refine Aa (A4 h₁' (λ_ s₂ h₂=>Aa (A4 h₂ (λok s₃ h₃=>?_) λ_ _ h'=>h'.elim)) λ_ _ h'=>h'.elim);cases ok with
  | false=>exact Ac ⟨rfl,h₃⟩
  | true=> refine Aa (A4 h₃ (λx s₄ h₄=>?_) λ_ _ h'=>h'.elim);refine Aa (Bp ?_);rw[hs];refine Aa (Ac ?_);refine Aa (AS (A4 h₄ (λj s₅ h₅=>?_) λ_ _ h'=>h'.elim));refine Aa (wpAny_runOwn (Ce h₅ λr s₆ h₆=>?_));obtain⟨rfl,h₆⟩:=h₆;exact Ac ⟨rfl,h₆⟩
theorem ZV(h0:codeAny (model prog w) A (.compLoop (.ListComp elt [⟨t0,i0,f0,0⟩,⟨t1,i1,f1,0⟩] scope pos) 1 it acc env) R s)
 (h:wpAny (model prog w) A (pyIter it) (λit' s'=>codeAny (model prog w) A (.compLoop (.ListComp elt [⟨t0,i0,f0,0⟩,⟨t1,i1,f1,0⟩] scope pos) 1 it' acc env) R s')
  (notedBy (model prog w) A env λx s'=>R (.error x) s') s):
 codeAny (model prog w) A (.compStart (.ListComp elt [⟨t0,i0,f0,0⟩,⟨t1,i1,f1,0⟩] scope pos) 1 it acc env) R s:=by
 refine F7 ?_;show wpAny _ _ ((Cq (.ListComp elt [⟨t0,i0,f0,0⟩,⟨t1,i1,f1,0⟩] scope pos) 1 it acc env).onRaise (λx=>do noteFrame x env;standAt theWindowsPlace)) _ _ s
 refine wpAny_notedAt ?_;unfold Cq;show wpAny _ _ (ask>>=_) _ _ s;refine Aa (Da (wpAny_ite ?_))
 split
 · first
    | exact Aa (Ac (Ac (And.intro rfl h0)))
    | exact Ac (And.intro rfl h0)
 · first
    | exact Aa (BJ (Aa (Bp (Aa (A4 h (λit' s' h'=>Ac (And.intro rfl h')) λ_ _ x=>x)))))
    | (refine Aa (BJ ?_);show wpAny _ _ (standAt i1.pos>>=_) _ _ s;exact Aa (Bp (Aa (A4 h (λit' s' h'=>Ac (And.intro rfl h')) λ_ _ x=>x))))
end
def Rp(J:It)(p:Addr)(g:TG)(tc:TT)(te:TE)(σ:St)(ys:List V)(H:Hp)(M:St→List V→Hp→Prop):Prop:=
 ∃W:Nat→Nat→St→List V→Hp→Prop,(∃m,W 0 m σ ys H)∧∀i m σ' zs H,W i m σ' zs H→H p=some (.lst zs)∧
  ((J.stop i H∧M σ' zs H)∨(J.go i H∧zs.length<Au∧∀x H',J.yld i H x H'→g x σ' H' λσ2 H2=>tc σ2 H2 λb H3=>
    if b=true then te σ2 H3 λy H4=>H4 p=some (.lst zs)∧∃m',m'<m∧W (i+1) m' σ2 (zs++[y]) (HI H4 p (.lst (zs++[y])))
    else ∃m',m'<m∧W (i+1) m' σ2 zs H3))
def OP(J:It)(p:Addr)(js:IT)(g:TG)(tc:TT)(wi1:TI)(g1:TG)(tc1:TT)(te:TE)(σ:St)(H:Hp)(Q:VK):Prop:=
 ∃W:Nat→Nat→St→List V→Hp→Prop,(∃m,W 0 m (Jo js σ) [] (HI H p (.lst [])))∧∀i m σ' ys H,W i m σ' ys H→H p=some (.lst ys)∧
  ((J.stop i H∧Q (.ref p) H)∨(J.go i H∧∀x H',J.yld i H x H'→g x σ' H' λσ2 H2=>tc σ2 H2 λb H3=>
    if b=true then wi1 σ2 H3 λJ1 H4=>Rp J1 p g1 tc1 te σ2 ys H4 λσ3 zs H5=>∃m',m'<m∧W (i+1) m' σ3 zs H5
    else ∃m',m'<m∧W (i+1) m' σ2 ys H3))
def Qo(wi:TI)(js:IT)(g:TG)(tc:TT)(wi1:TI)(g1:TG)(tc1:TT)(te:TE):TE:=λσ H Q=>wi σ H λJ H1=>∀p,H1 p=none→OP J p js g tc wi1 g1 tc1 te σ H1 Q
theorem Xl{X:Cx}{elt t0 i0 t1 i1:Expr}{f0 f1:List Expr}{scope:Scope}{pos:Pos}{g1:TG}{tc1:TT}{te:TE}{pins:List (Addr×Obj)}{σ:St}{H:Hp}{s:Shared}{p:Addr}{ys:List V}{J:It}{it:Addr}{fp:List Addr}{tn:Nat→Heap→Prop}{M:St→List V→Hp→Prop}
 (hc:X.calm=true) (hx:X.xe=λ_ _=>False) (hg:PG X t1 g1) (ht:Iw X f1 tc1) (he:PE X elt te) (I:Inv X pins σ H s) (T:Turn X.prog X.w X.K t1 J fp it tn) (st:tn 0 s.heap) (hf:∀b∈fp,HS X pins H b) (hw:Rp J p g1 tc1 te σ ys H M):
 codeAny (model X.prog X.w) X.A (.compStart (.ListComp elt [⟨t0,i0,f0,0⟩,⟨t1,i1,f1,0⟩] scope pos) 1 (.ref it) (.ref p) X.env) (λr s'=>r= .ok .next∧∃σ' zs H',Inv X pins σ' H' s'∧M σ' zs H') s:=by
 obtain⟨W,⟨m0,w0⟩,turn⟩:=hw;have stat:∀{H':Hp},(∀b∈fp,H' b=none)→∀b∈fp,HS X pins H' b:=λhn b hb=>⟨hn b hb,(hf b hb).2⟩;have loop:codeAny (model X.prog X.w) X.A (.compLoop (.ListComp elt [⟨t0,i0,f0,0⟩,⟨t1,i1,f1,0⟩] scope pos) 1 (.ref it) (.ref p) X.env) (λr s'=>r= .ok .next∧∃σ' zs H',Inv X pins σ' H' s'∧M σ' zs H') s:=by
  refine ZJ (λn s'=>∃i σ' ys H',Inv X pins σ' H' s'∧tn i s'.heap∧(∀b∈fp,H' b=none)∧W i n σ' ys H') ?_ m0 ⟨0,σ,ys,H,I,st,λb hb=>(hf b hb).1,w0⟩;rintro n s5 ⟨i,σ5,zs,H5,I5,st5,fr5,w5⟩;obtain⟨hp5,tu⟩:=turn i n σ5 zs H5 w5;rcases tu with⟨stop,qn⟩ | ⟨go,hz,step⟩
  · refine HN (T.done X rfl rfl rfl hc i pins s5 σ5 H5 (λ_ _=>False) I5 (stat fr5) st5 stop) λr s6 ⟨hr,I6⟩=>?_;subst hr;exact⟨rfl,σ5,zs,H5,I6,qn⟩
  · refine HN (T.item X rfl rfl rfl hc i pins s5 σ5 H5 (λ_ _=>False) I5 (stat fr5) st5 go) λr s6 ⟨u,hr,h6⟩=>?_;subst hr;refine HN h6 λ_ s7 ⟨x,H7,I7,r7,y7,st7,fr7⟩=>?_;have I7':=I7.pinned (stat fr7) (T.obj _ _ st7);have G:=hg _ s7 σ5 H7 x u _ I7' r7 (step x H7 y7);rw[hx] at G;refine HN G λ_ s8 ⟨σ8,H8,I8,q8⟩=>?_;have Tt:=ht _ s8 σ8 H8 _ I8 q8;rw[hx] at Tt;refine HN Tt λb s9 ⟨H9,I9,q9⟩=>?_;have again:∀{s':Shared}{ys':List V}{H':Hp},Inv X (pins++Js fp s7.heap) σ8 H' s'→(∃m',m'<n∧W (i+1) m' σ8 ys' H')→
     ∃m,m<n∧∃i σ' ys H',Inv X pins σ' H' s'∧tn i s'.heap∧(∀b∈fp,H' b=none)∧W i m σ' ys H':=λ{s' ys' H'}I' ⟨m',hm,w'⟩=>by
     refine⟨m',hm,i+1,σ8,ys',H',I'.unpinned,T.keep _ _ _ st7 λb hb o e=>(I'.pin (b,o) (An _ (An _ (JK hb e)))).1,λb hb=>?_,w'⟩;obtain⟨o,e,d⟩:=T.obj _ _ st7 b hb;exact(I'.pin (b,o) (An _ (An _ (JK hb e)))).2.1
    cases b with
    | false=>exact again I9 q9
    | true=> have Ee:=he _ s9 σ8 H9 _ I9 q9;rw[hx] at Ee;show wpAny _ _ _ _ _ _;refine HN Ee λxv s10 ⟨y,H10,I10,r10,hp10,q10⟩=>?_;have Ap:=Lq (X:=X) _ s10 σ8 H10 (.ref p) [y] (.ref p) [xv] (λ_ H'=>H'=HI H10 p (.lst (zs++[y]))) I10 rfl (.cons r10 .nil) ⟨p,zs,y,rfl,rfl,hp10,hz,rfl⟩;rw[hx] at Ap;refine HN Ap λ_ s11 ⟨_,H11,I11,_,e11⟩=>?_;subst e11;exact again I11 q10
 exact ZV loop (T.self _ 0 _ _ _ st loop)
section
variable{tg iter tg1 iter1 elt:Expr}{ifs ifs1:List Expr}{wi wi1:TI}{js:IT}{g g1:TG}{tc tc1:TT}{te:TE}{N':List Str}
theorem XA{pins:List (Addr×Obj)}{σ:St}{H:Hp}{s:Shared}{E:Value→Shared→Prop}{Q:VK}{J:It}{it:Addr}{fp:List Addr}{tn:Nat→Heap→Prop}{cl:List (Str×Addr)}
 (hc:X.calm=true) (ok:CapOk X N' js scope) (hs1:∀(e:Env)x,A_ iter1 e x=pure x)
 (h2:∀x c,cl.lookup x=some c→X.env.cells.lookup x=some c) (h3:∀p∈scope.names,p.2= .free→(cl.lookup p.1).isSome=true)
 (hg:∀cl C s₀ H₀ ex,PG (Iu X N' scope cl C s₀ H₀ ex) tg g) (ht:∀cl C s₀ H₀ ex,Iw (Iu X N' scope cl C s₀ H₀ ex) ifs tc) (hi1:∀cl C s₀ H₀ ex,PI (Iu X N' scope cl C s₀ H₀ ex) tg1 iter1 wi1) (hg1:∀cl C s₀ H₀ ex,PG (Iu X N' scope cl C s₀ H₀ ex) tg1 g1) (ht1:∀cl C s₀ H₀ ex,Iw (Iu X N' scope cl C s₀ H₀ ex) ifs1 tc1) (he:∀cl C s₀ H₀ ex,PE (Iu X N' scope cl C s₀ H₀ ex) elt te)
 (I:Inv X pins σ H s) (T:Turn X.prog X.w X.K tg J fp it tn) (st:tn 0 s.heap) (hf:∀b∈fp,HS X pins H b)
 (hw:∀p,H p=none→OP J p js g tc wi1 g1 tc1 te σ H Q):
 wpAny (model X.prog X.w) X.A (newList []) (λacc s₃=>wpAny (model X.prog X.w) X.A (newFunctionEnv scope X.env.globals cl [] X.env.qual none .none (some X.env)) (λcenv s₄=>
  codeAny (model X.prog X.w) X.A (.compStart (.ListComp elt [⟨tg,iter,ifs,0⟩,⟨tg1,iter1,ifs1,0⟩] scope pos) 0 (.ref it) acc {cenv with scope:=relabel scope X.env})
   (λr s'=>r= .ok .next∧(∃m,s'.heap.Ns cenv.locals m)∧∃v H',RelV v acc∧Inv X pins σ H' s'∧HS X pins H' cenv.locals∧Q v H') s₄) E s₃) E s:=by
 have objs:=T.obj _ _ st;refine AN ?_ (by show 0≤Au;decide);obtain⟨W,⟨m0,w0⟩,turn⟩:=hw s.heap.objs.size (I.hok.fresh (Ag _));generalize hp:s.heap.objs.size=p at*;have kp:∀b u,s.heap.get? b=some u→(s.heap.push {cls:= .type "list",dict:=none,data:= .seq ([]:List Value).toArray}).get? b=some u:=λb u e=>Ad _ e;have I3:Inv X pins σ (HI H p (.lst [])) {s with heap:=s.heap.push {cls:= .type "list",dict:=none,data:= .seq ([]:List Value).toArray}}:=by refine I.laid (t':=s.toks) kp (by rw[hp];exact Ag _) ⟨Br _,[],0,.nil,?_⟩;have:=Am s.heap (o:={cls:= .type "list",dict:=none,data:= .seq ([]:List Value).toArray}) rfl;rw[hp] at this;exact this
 have fne:∀b∈fp,b≠p:=λb hb=>by obtain⟨o,e,_⟩:=objs b hb;have:=Ai e;rw[←hp];exact Aq this
 have hf3:∀b∈fp,HS X pins (HI H p (.lst [])) b:=λb hb=>⟨by rw[Ij (fne b hb)];exact(hf b hb).1,(hf b hb).2⟩;have st3:tn 0 (s.heap.push {cls:= .type "list",dict:=none,data:= .seq ([]:List Value).toArray}):=T.keep _ _ _ st λb _ o e=>kp b o e;have lt3:∀b∈fp,b<(s.heap.push {cls:= .type "list",dict:=none,data:= .seq ([]:List Value).toArray}).objs.size:=λb hb=>by obtain⟨o,e,_⟩:=objs b hb;exact Ai (kp b o e)
 generalize hs3:({s with heap:=s.heap.push {cls:= .type "list",dict:=none,data:= .seq ([]:List Value).toArray}}:Shared)=s3 at*
 have eh:s.heap.push {cls:= .type "list",dict:=none,data:= .seq ([]:List Value).toArray}=s3.heap:=by rw[←hs3]
 rw[eh] at st3 lt3;refine Os ok.cells λcl h₁ hns₁ k4 oc=>?_;have I4:=NS (cl:=cl) (h₁:=h₁) (t':=s3.toks+([]:List (Str×Value)).length) ok I3 h2 h3 hf3 lt3 k4 hns₁ oc;have st4:tn 0 h₁:=T.keep _ _ _ st3 λb _ o e=>k4 b o e;generalize hX:Iu X N' scope cl s3.heap.objs.size s3 (HI H p (.lst [])) fp=X' at I4;have hg':PG X' tg g:=by rw[←hX];exact hg _ _ _ _ _
 have ht':Iw X' ifs tc:=by rw[←hX];exact ht _ _ _ _ _
 have he':PE X' elt te:=by rw[←hX];exact he _ _ _ _ _
 have hi1':PI X' tg1 iter1 wi1:=by rw[←hX];exact hi1 _ _ _ _ _
 have hg1':PG X' tg1 g1:=by rw[←hX];exact hg1 _ _ _ _ _
 have ht1':Iw X' ifs1 tc1:=by rw[←hX];exact ht1 _ _ _ _ _
 have hs1':∀x,A_ iter1 (compEnvC scope cl s3.heap.objs.size X.env) x=pure x:=hs1 _;have eP:X'.prog=X.prog:=by rw[←hX];rfl
 have ew:X'.w=X.w:=by rw[←hX];rfl
 have eK:X'.K=X.K:=by rw[←hX];rfl
 have ec:X'.calm=true:=by rw[←hX];exact hc
 have eA:X'.A=X.A:=by rw[←hX];rfl
 have ex:X'.xe=λ_ _=>False:=by rw[←hX];rfl
 have eE:X'.env=compEnvC scope cl s3.heap.objs.size X.env:=by rw[←hX];rfl
 have eEx:X'.ex=fp:=by rw[←hX];rfl
 have eN:X'.pn=[]:=by rw[←hX];rfl
 have stat:∀{H':Hp},(∀b∈fp,H' b=none)→∀b∈fp,HS X' [] H' b:=λ{H'}hn b hb=>by have okc:=I4.ok;refine⟨hn b hb,(okc.exf b (by rw[eEx];exact hb)).1,okc.exfs b (by rw[eEx];exact hb),.inl (by rw[eEx];exact hb),(okc.exf b (by rw[eEx];exact hb)).2,λq hq=>?_⟩;rw[eN] at hq;cases hq
 have loop:∀s₄:Shared,s₄={s3 with heap:=h₁,toks:=s3.toks+([]:List (Str×Value)).length}→
  codeAny (model X.prog X.w) X.A (.compLoop (.ListComp elt [⟨tg,iter,ifs,0⟩,⟨tg1,iter1,ifs1,0⟩] scope pos) 0 (.ref it) (.ref p) (compEnvC scope cl s3.heap.objs.size X.env))
   (λr s'=>r= .ok .next∧(∃m,s'.heap.Ns s3.heap.objs.size m)∧∃v H',RelV v (.ref p)∧Inv X pins σ H' s'∧HS X pins H' s3.heap.objs.size∧Q v H') s₄:=by
  rintro s₄ rfl;refine ZI hs1' (λn s'=>∃i σ' ys H',Inv X' [] σ' H' s'∧tn i s'.heap∧(∀b∈fp,H' b=none)∧W i n σ' ys H') ?_ m0 ⟨0,_,[],_,I4,st4,λb hb=>(hf3 b hb).1,w0⟩;rintro n s5 ⟨i,σ5,ys,H5,I5,st5,fr5,w5⟩;obtain⟨hp5,tu⟩:=turn i n σ5 ys H5 w5;rcases tu with⟨stop,qn⟩ | ⟨go,step⟩
  · have D:=T.done X' eP ew eK ec i [] s5 σ5 H5 (λ_ _=>False) I5 (stat fr5) st5 stop;rw[eA] at D;refine HN D λr s6 ⟨hr,I6⟩=>?_;subst hr;refine⟨rfl,?_,.ref p,H5,rfl,?_,?_,qn⟩
    · obtain⟨m,hm,_⟩:=I6.loc;rw[eE] at hm;exact⟨m,hm⟩
    · have b6:=I6.base;have ho:=I6.os;have hk:=I6.hok;have hb:=I6.bare;subst hX;exact I3.call' (ch:=fp) ho b6 hk hb λb hb'=>⟨(hf b hb').2.2.2.1,(hf b hb').2.1,(hf b hb').2.2.2.2.1,(hf b hb').2.2.2.2.2⟩
    · have fr:=I6.free;rw[eE] at fr;exact I3.fpOk (Ag _) fr
  · have D:=T.item X' eP ew eK ec i [] s5 σ5 H5 (λ_ _=>False) I5 (stat fr5) st5 go;rw[eA] at D;refine HN D λr s6 ⟨u,hr,h6⟩=>?_;subst hr;refine HN h6 λ_ s7 ⟨x,H7,I7,r7,y7,st7,fr7⟩=>?_;have I7':=I7.pinned (stat fr7) (T.obj _ _ st7);have G:=hg' _ s7 σ5 H7 x u _ I7' r7 (step x H7 y7);rw[eP,ew,eA,ex,eE] at G;refine HN G λ_ s8 ⟨σ8,H8,I8,q8⟩=>?_;have Tt:=ht' _ s8 σ8 H8 _ I8 q8;rw[eP,ew,eA,ex,eE] at Tt;refine HN Tt λb s9 ⟨H9,I9,q9⟩=>?_;have again:∀{s':Shared}{σ8:St}{ys':List V}{H':Hp},Inv X' ([]++Js fp s7.heap) σ8 H' s'→(∃m',m'<n∧W (i+1) m' σ8 ys' H')→
     ∃m,m<n∧∃i σ' ys H',Inv X' [] σ' H' s'∧tn i s'.heap∧(∀b∈fp,H' b=none)∧W i m σ' ys H':=λ{s' σ8 ys' H'}I' ⟨m',hm,w'⟩=>by
     refine⟨m',hm,i+1,σ8,ys',H',I'.unpinned,T.keep _ _ _ st7 λb hb o e=>(I'.pin (b,o) (An _ (An _ (JK hb e)))).1,λb hb=>?_,w'⟩;obtain⟨o,e,d⟩:=T.obj _ _ st7 b hb;exact(I'.pin (b,o) (An _ (An _ (JK hb e)))).2.1
    cases b with
    | false=>exact again I9 q9
    | true=> have Ei:=hi1' _ s9 σ8 H9 _ I9 q9;rw[eP,ew,eA,ex,eE] at Ei;show wpAny _ _ _ _ _ _;refine HN Ei λxv s10 h10=>HN h10 λitv s11 h11=>?_;obtain⟨it1,fp1,tn1,J1,H11,e11,I11,T1,st11,f11,hw11⟩:=h11;subst e11;have In:=Xl (X:=X') (elt:=elt) (t0:=tg) (i0:=iter) (t1:=tg1) (i1:=iter1) (f0:=ifs) (f1:=ifs1) (scope:=scope) (pos:=pos) ec ex hg1' ht1' he' I11 T1 st11 f11 hw11;rw[eP,ew,eA,eE] at In;refine Ce In λr s12 ⟨hr,σ12,zs,H12,I12,m12⟩=>⟨hr,?_⟩;exact again I12 m12
 exact FK (loop _ rfl) (T.self _ 0 _ _ _ st4 (loop _ rfl))
theorem Xw{px:Pos}{spos:Pos}(hN:X.N.Nodup)(hi':X.N[i]?=some x)(hx:LW X.env.scope x)(hc:X.calm=true)(ok:CapOk X N' js scope)(hi:PI X tg iter wi)
 (hg:∀cl C s₀ H₀ ex,PG (Iu X N' scope cl C s₀ H₀ ex) tg g) (ht:∀cl C s₀ H₀ ex,Iw (Iu X N' scope cl C s₀ H₀ ex) ifs tc) (hi1:∀cl C s₀ H₀ ex,PI (Iu X N' scope cl C s₀ H₀ ex) tg1 iter1 wi1) (hg1:∀cl C s₀ H₀ ex,PG (Iu X N' scope cl C s₀ H₀ ex) tg1 g1) (ht1:∀cl C s₀ H₀ ex,Iw (Iu X N' scope cl C s₀ H₀ ex) ifs1 tc1) (he:∀cl C s₀ H₀ ex,PE (Iu X N' scope cl C s₀ H₀ ex) elt te)
 (hsw:swapsWith (.ListComp elt [⟨tg,iter,ifs,0⟩,⟨tg1,iter1,ifs1,0⟩] scope pos) (some (.Name x px)) spos.line X.env=pure true:=by rfl)
 (hs:∀x,A_ iter X.env x=pure x:=by intro _;rfl) (hs1:∀(e:Env)x,A_ iter1 e x=pure x:=by intro _ _;rfl) (hf:X.fn x=true∨X.env.scope.names.lookup x=some .local:=by first | exact .inl rfl | exact .inr rfl | assumption):
 PS X (.Assign [.Name x px] (.ListComp elt [⟨tg,iter,ifs,0⟩,⟨tg1,iter1,ifs1,0⟩] scope pos) spos) (K4 (Qo wi js g tc wi1 g1 tc1 te) (JN i)):=by
 intro pins s σ H D I h;obtain⟨cl,c1,c2,c3⟩:=M7 (scope:=scope) I.ok.has ok.free;rw[exec_Assign_Name_used _ _ _ _ hsw];refine Aa (Bp (Aa ?_));show wpAny _ X.A (do let _ ←comprehension (.ListComp elt [⟨tg,iter,ifs,0⟩,⟨tg1,iter1,ifs1,0⟩] scope pos) scope X.env _ (newList []) false (eval iter X.env) (some (assign (.Name x px) X.env))) _ _ s
 refine Aa (A4 (C9 (use:=some (assign (.Name x px) X.env)) (Q:=λ_ s'=>SP X pins D .next s') rfl hs c1 ok.kind ok.names
  (HN (hi pins s σ H _ I h) λv s1 h1=>HN h1 λitv s2 h2=>?_)) (λ_ s' hq=>Ac (Ac hq)) λ_ _ e=>e)
 obtain⟨it,fp,tn,J,H2,e,I2,T,st2,f2,hw⟩:=h2;subst e;refine A4 (XA (Q:=λx H1=>JN i x σ H1 D.nx) (iter:=iter) (pos:=pos) hc ok hs1 c2 c3 hg ht hi1 hg1 ht1 he I2 T st2 f2 hw) (λacc s3 h3=>A4 h3 (λcenv s4 h4=>?_) λ_ _ z=>z) λ_ _ z=>z;refine Ce h4 λr s5 h5=>?_;obtain⟨rfl,⟨m,hm⟩,v,H5,rv,I5,f5,q5⟩:=h5;obtain⟨f0,f1,f2',f3,f4,f6⟩:=f5;show wpAny _ X.A (assign (.Name x px) X.env acc) _ _ _;refine EQ (PB I5 hN hi' hx rv (λs6 I6 ch=>?_) hf);obtain⟨a,sb,ha⟩:=ch;have na:cenv.locals≠a:=by
  rcases ha with z | z
  · rw[z];exact f1
  · exact λy=>f4 x a z y.symm
 refine⟨m,hm.sameBut sb na,λh' sb'=>⟨_,H5,I6.turned (t':=s6.toks) (λb o hb e=>(sb'.2 b hb).trans e) f0 f1 f3 f4 f6,q5⟩⟩
end
theorem WC(elt t0 i0 t1 i1:Expr)(f0 f1:List Expr)(scope:Scope)(pos:Pos)(it acc:Value)(env:Env):
 compTurn (.SetComp elt [⟨t0,i0,f0,0⟩,⟨t1,i1,f1,0⟩] scope pos) 0 it acc env=(do
  standAt i0.pos
  match ←pyNext it with
  | none=>pure (.done .next)
  | some v=>
   BH t0 it v
   assign t0 env v
   let mut ok:=true
   for c in f0 do
    if ok then ok ←isTrue c env (eval c env)
   if ok then
    let x ←eval i1 env
    standAt i1.pos
    let x ←A_ i1 env x
    let _ ←runOwn (.compStart (.SetComp elt [⟨t0,i0,f0,0⟩,⟨t1,i1,f1,0⟩] scope pos) 1 (←holding [x] (pyIter x)) acc env) env
   again (.compLoop (.SetComp elt [⟨t0,i0,f0,0⟩,⟨t1,i1,f1,0⟩] scope pos) 0 it acc env)):=by rfl
theorem WD(elt t0 i0 t1 i1:Expr)(f0 f1:List Expr)(scope:Scope)(pos:Pos)(it acc:Value)(env:Env):
 compTurn (.SetComp elt [⟨t0,i0,f0,0⟩,⟨t1,i1,f1,0⟩] scope pos) 1 it acc env=(do
  standAt i1.pos
  match ←pyNext it with
  | none=>pure (.done .next)
  | some v=>
   BH t1 it v
   assign t1 env v
   let mut ok:=true
   for c in f1 do
    if ok then ok ←isTrue c env (eval c env)
   if ok then
    (do let v ←eval elt env;standAt elt.pos;let _ ←call (.builtin "set.add") [acc,v])
   again (.compLoop (.SetComp elt [⟨t0,i0,f0,0⟩,⟨t1,i1,f1,0⟩] scope pos) 1 it acc env)):=by rfl
section
variable{R:Result→Shared→Prop}
variable{elt t0 i0 t1 i1:Expr}{f0 f1:List Expr}{it acc:Value}{env:Env}
theorem WB(I:Nat→Shared→Prop)
 (turn:∀n s,I n s→wpAny (model prog w) A (pyNext it) (λr s₁=>match r with
  | none=>R (.ok .next) s₁
  | some v=>wpAny (model prog w) A (BH t1 it v) (λ_ s₁'=>wpAny (model prog w) A (assign t1 env v) (λ_ s₂=>
   wpAny (model prog w) A (forIn f1 true λc r=>if r=true then do let ok ←isTrue c env (eval c env);pure (ForInStep.yield ok) else pure (ForInStep.yield r)) (λok s₃=>
    if ok=true then wpAny (model prog w) A (eval elt env) (λx s₄=> wpAny (model prog w) A (call (.builtin "set.add") [acc,x]) (λ_ s₅=>∃m,m<n∧I m s₅) (λ_ _=>False) s₄) (λ_ _=>False) s₃
    else ∃m,m<n∧I m s₃) (λ_ _=>False) s₂) (λ_ _=>False) s₁') (λ_ _=>False) s₁) (λ_ _=>False) s)
 (n:Nat) (h:I n s):
 codeAny (model prog w) A (.compLoop (.SetComp elt [⟨t0,i0,f0,0⟩,⟨t1,i1,f1,0⟩] scope pos) 1 it acc env) R s:=by
 refine D9 rfl I (λn s hI=>?_) n h;show wpAny _ A ((compTurn (.SetComp elt [⟨t0,i0,f0,0⟩,⟨t1,i1,f1,0⟩] scope pos) 1 it acc env).onRaise (λx=>do noteFrame x env;theTreesLotGoes x)) _ _ s
 refine DN ?_;rw[WD];refine Aa (Bp (Aa (A4 (turn n s hI) (λr s₁ h₁=>?_) λ_ _ h'=>h'.elim)));cases r with
 | none=>exact Ac h₁
 | some v=>
  refine Aa (A4 h₁ (λ_ s₁' h₁'=>?_) λ_ _ h'=>h'.elim);refine Aa (A4 h₁' (λ_ s₂ h₂=>Aa (A4 h₂ (λok s₃ h₃=>?_) λ_ _ h'=>h'.elim)) λ_ _ h'=>h'.elim);cases ok with
  | false=>exact Ac ⟨rfl,h₃⟩
  | true=> exact Aa (Aa (A4 h₃ (λx s₄ h₄=>Aa (Bp (Aa (A4 h₄ (λ_ s₅ h₅=>Ac (Ac ⟨rfl,h₅⟩)) λ_ _ h'=>h'.elim)))) λ_ _ h'=>h'.elim))
theorem WA(hs:∀x,A_ i1 env x=pure x)(I:Nat→Shared→Prop)
 (turn:∀n s,I n s→wpAny (model prog w) A (pyNext it) (λr s₁=>match r with
  | none=>R (.ok .next) s₁
  | some v=>wpAny (model prog w) A (BH t0 it v) (λ_ s₁'=>wpAny (model prog w) A (assign t0 env v) (λ_ s₂=>
   wpAny (model prog w) A (forIn f0 true λc r=>if r=true then do let ok ←isTrue c env (eval c env);pure (ForInStep.yield ok) else pure (ForInStep.yield r)) (λok s₃=>
    if ok=true then wpAny (model prog w) A (eval i1 env) (λx s₄=>wpAny (model prog w) A (pyIter x) (λj s₅=> codeAny (model prog w) A (.compStart (.SetComp elt [⟨t0,i0,f0,0⟩,⟨t1,i1,f1,0⟩] scope pos) 1 j acc env) (λr s₆=>r= .ok .next∧∃m,m<n∧I m s₆) s₅) (λ_ _=>False) s₄) (λ_ _=>False) s₃
    else ∃m,m<n∧I m s₃) (λ_ _=>False) s₂) (λ_ _=>False) s₁') (λ_ _=>False) s₁) (λ_ _=>False) s)
 (n:Nat) (h:I n s):
 codeAny (model prog w) A (.compLoop (.SetComp elt [⟨t0,i0,f0,0⟩,⟨t1,i1,f1,0⟩] scope pos) 0 it acc env) R s:=by
 refine D9 rfl I (λn s hI=>?_) n h;show wpAny _ A ((compTurn (.SetComp elt [⟨t0,i0,f0,0⟩,⟨t1,i1,f1,0⟩] scope pos) 0 it acc env).onRaise (λx=>do noteFrame x env;theTreesLotGoes x)) _ _ s
 refine DN ?_;rw[WC];refine Aa (Bp (Aa (A4 (turn n s hI) (λr s₁ h₁=>?_) λ_ _ h'=>h'.elim)));cases r with
 | none=>exact Ac h₁
 | some v=>
  refine Aa (A4 h₁ (λ_ s₁' h₁'=>?_) λ_ _ h'=>h'.elim);refine Aa (A4 h₁' (λ_ s₂ h₂=>Aa (A4 h₂ (λok s₃ h₃=>?_) λ_ _ h'=>h'.elim)) λ_ _ h'=>h'.elim);cases ok with
  | false=>exact Ac ⟨rfl,h₃⟩
  | true=> refine Aa (A4 h₃ (λx s₄ h₄=>?_) λ_ _ h'=>h'.elim);refine Aa (Bp ?_);rw[hs];refine Aa (Ac ?_);refine Aa (AS (A4 h₄ (λj s₅ h₅=>?_) λ_ _ h'=>h'.elim));refine Aa (wpAny_runOwn (Ce h₅ λr s₆ h₆=>?_));obtain⟨rfl,h₆⟩:=h₆;exact Ac ⟨rfl,h₆⟩
theorem RT(d:Nat)(hd:d=0∨d=1)(h0:codeAny (model prog w) A (.compLoop (.SetComp elt [⟨t0,i0,f0,0⟩,⟨t1,i1,f1,0⟩] scope pos) d it acc env) R s)
 (h:wpAny (model prog w) A (pyIter it) (λit' s'=>codeAny (model prog w) A (.compLoop (.SetComp elt [⟨t0,i0,f0,0⟩,⟨t1,i1,f1,0⟩] scope pos) d it' acc env) R s')
  (notedBy (model prog w) A env λx s'=>R (.error x) s') s):
 codeAny (model prog w) A (.compStart (.SetComp elt [⟨t0,i0,f0,0⟩,⟨t1,i1,f1,0⟩] scope pos) d it acc env) R s:=by
 rcases hd with rfl | rfl
 all_goals
  refine F7 ?_;show wpAny _ _ ((Cq (.SetComp elt [⟨t0,i0,f0,0⟩,⟨t1,i1,f1,0⟩] scope pos) _ it acc env).onRaise (λx=>do noteFrame x env;standAt theWindowsPlace)) _ _ s
  refine wpAny_notedAt ?_;unfold Cq;show wpAny _ _ (ask>>=_) _ _ s;refine Aa (Da (wpAny_ite ?_))
  split
  · first
     | exact Aa (Ac (Ac (And.intro rfl h0)))
     | exact Ac (And.intro rfl h0)
  · first
     | exact Aa (BJ (Aa (Bp (Aa (A4 h (λit' s' h'=>Ac (And.intro rfl h')) λ_ _ x=>x)))))
     | (refine Aa (BJ ?_);show wpAny _ _ (standAt _>>=_) _ _ s;exact Aa (Bp (Aa (A4 h (λit' s' h'=>Ac (And.intro rfl h')) λ_ _ x=>x))))
theorem Pp{ks:List Str}(T:TxSet prog w h a ks):∃o,h.get? a=some o∧∀v,o.data≠ .cell v:=by obtain⟨es,ep,t,ho,_⟩:=T.at';exact⟨_,ho,λv z=>by cases z⟩
theorem Ys{ks:List Str}(T:TxSet prog w s.heap a ks):s.TypeIs (.ref a) "set":=by obtain⟨es,ep,t,ho,_⟩:=T.at';exact⟨_,ho,rfl⟩
theorem ZH{ks:List Str}{k:Str}{tk:Tok}{Q:Value→Shared→Prop}(T:TxSet prog w s.heap a ks)(hroom:ks.length+1<scanBound)
 (h:∀h' ks',Bx a s.heap h'→TxSet prog w h' a ks'→ks'.length≤ks.length+1→(∀x,x∈ks'↔x∈ks∨x=k)→Q .none {s with heap:=h',toks:=s.toks+1}):
 wpAny (model prog w) A (call (.builtin "set.add") [.ref a,.str k tk]) Q E s:=by
 refine AW PySem.F.slot_set_add (Ys T) PySem.F.entry_set_add ?_ (PySem.F.args_set_add_2 _ _);unfold Builtin.«set.add» Builtin.Frozenset.oneOther;simp only[List.isEmpty_nil,bind_assoc];unfold Builtin.Frozenset.addrOf setAdd;refine Aa (Ac ?_)
 try dsimp only
 refine Aa (Ac ?_)
 try dsimp only
 refine Aa ?_;refine AS ?_;refine Aa ((strKind prog w).pyHash (OW k tk) ?_);refine Xe (s:={s with toks:=s.toks+1}) T hroom λh' ks' sb T' l m b=>?_
 show wpAny _ _ (ret Value.none) _ _ _;exact Ac ⟨_,rfl,h h' ks' sb T' l m⟩
theorem XI{Q:Value→Shared→Prop}(h:Q (.ref s.heap.objs.size) {s with heap:=s.heap.push {cls:= .type "set",dict:=none,data:= .set #[] 0 (.fresh 0 0 (!Iz w))}}):
 wpAny (model prog w) A (newSet (.type "set")) Q E s:=by
 unfold newSet;obtain⟨hp,g,d,tk,os⟩:=s;dsimp only
 wp_walk
 refine Da (Ac ?_);dsimp only;simp only[newObj];refine Aa (wpAny_alloc (Ac ?_));exact h
end
def RH(J:It)(g:TG)(tc:TT)(te:TE)(σ:St)(ks:List Str)(H:Hp)(M:St→List Str→Hp→Prop):Prop:=
 ∃W:Nat→Nat→St→List Str→Hp→Prop,(∃m,W 0 m σ ks H)∧∀i m σ' zs H,W i m σ' zs H→
  ((J.stop i H∧M σ' zs H)∨(J.go i H∧zs.length<200∧∀x H',J.yld i H x H'→g x σ' H' λσ2 H2=>tc σ2 H2 λb H3=>
    if b=true then te σ2 H3 λy H4=>∃k,y= .str k∧∀zs',zs'.length≤zs.length+1→(∀x,x∈zs'↔x∈zs∨x=k)→zs'.Nodup→∃m',m'<m∧W (i+1) m' σ2 zs' H4
    else ∃m',m'<m∧W (i+1) m' σ2 zs H3))
def OQ(J:It)(js:IT)(g:TG)(tc:TT)(wi1:TI)(g1:TG)(tc1:TT)(te:TE)(σ:St)(H:Hp)(M:List Str→Hp→Prop):Prop:=
 ∃W:Nat→Nat→St→List Str→Hp→Prop,(∃m,W 0 m (Jo js σ) [] H)∧∀i m σ' ys H,W i m σ' ys H→
  ((J.stop i H∧M ys H)∨(J.go i H∧∀x H',J.yld i H x H'→g x σ' H' λσ2 H2=>tc σ2 H2 λb H3=>
    if b=true then wi1 σ2 H3 λJ1 H4=>RH J1 g1 tc1 te σ2 ys H4 λσ3 zs H5=>∃m',m'<m∧W (i+1) m' σ3 zs H5
    else ∃m',m'<m∧W (i+1) m' σ2 ys H3))
section
variable{p:Addr}{ks:List Str}
theorem Tf(I:Inv X pins σ H s)(f:HS X pins H p)(T:TxSet X.prog X.w s.heap p ks):Inv X (pins++Js [p] s.heap) σ H s:=
 I.pinned (λb hb=>by rw[Ae.mp hb];exact f) (λb hb=>by rw[Ae.mp hb];exact Pp T)
theorem NQ{s':Shared}{σ':St}{H':Hp}(I:Inv X (pins++Js [p] s.heap) σ' H' s')(f:HS X pins H p)(T:TxSet X.prog X.w s.heap p ks):Inv X pins σ' H' s'∧HS X pins H' p∧TxSet X.prog X.w s'.heap p ks:=by obtain⟨o,ho,_⟩:=Pp T;have hp:=I.pin (p,o) (An _ (An _ (JK (Ae.mpr rfl) ho)));exact⟨I.unpinned,⟨hp.2.1,f.2⟩,T.kept λo' e=>by rw[ho] at e;cases e;exact hp.1⟩
theorem Sc(f:HS X pins H b)(n:b≠p):HS X (pins++Js [p] h) H b:=by
 obtain⟨f0,f1,f2,f3,f4,f5⟩:=f;refine⟨f0,f1,f2,f3,f4,λq hq=>?_⟩;rcases Aw.mp hq with z | z
 · exact f5 q (Bn _ z)
 · rcases Aw.mp z with z | z
   · exact f5 q (An _ z)
   · have:=(Pl z).1;rw[Ae.mp this];exact n.symm
theorem XX{elt t0 i0 t1 i1:Expr}{f0 f1:List Expr}{scope:Scope}{pos:Pos}{g1:TG}{tc1:TT}{te:TE}{J:It}{it:Addr}{fp:List Addr}{tn:Nat→Heap→Prop}{M:St→List Str→Hp→Prop}
 (hc:X.calm=true) (hx:X.xe=λ_ _=>False) (hg:PG X t1 g1) (ht:Iw X f1 tc1) (he:PE X elt te) (I:Inv X pins σ H s) (T:Turn X.prog X.w X.K t1 J fp it tn) (st:tn 0 s.heap) (hf:∀b∈fp,HS X pins H b) (hnp:p ∉ fp) (fp0:HS X pins H p) (Tx:TxSet X.prog X.w s.heap p ks) (hw:RH J g1 tc1 te σ ks H M):
 codeAny (model X.prog X.w) X.A (.compStart (.SetComp elt [⟨t0,i0,f0,0⟩,⟨t1,i1,f1,0⟩] scope pos) 1 (.ref it) (.ref p) X.env) (λr s'=>r= .ok .next∧∃σ' zs H',Inv X pins σ' H' s'∧HS X pins H' p∧TxSet X.prog X.w s'.heap p zs∧M σ' zs H') s:=by
 obtain⟨W,⟨m0,w0⟩,turn⟩:=hw;have nep:∀b∈fp,b≠p:=λb hb z=>hnp (z ▸ hb);have stat:∀{H':Hp}{h:Heap},(∀b∈fp,H' b=none)→∀b∈fp,HS X (pins++Js [p] h) H' b:=λhn b hb=>Sc ⟨hn b hb,(hf b hb).2⟩ (nep b hb);have loop:codeAny (model X.prog X.w) X.A (.compLoop (.SetComp elt [⟨t0,i0,f0,0⟩,⟨t1,i1,f1,0⟩] scope pos) 1 (.ref it) (.ref p) X.env) (λr s'=>r= .ok .next∧∃σ' zs H',Inv X pins σ' H' s'∧HS X pins H' p∧TxSet X.prog X.w s'.heap p zs∧M σ' zs H') s:=by
  refine WB (λn s'=>∃i σ' ys H',Inv X pins σ' H' s'∧tn i s'.heap∧(∀b∈fp,H' b=none)∧HS X pins H' p∧TxSet X.prog X.w s'.heap p ys∧W i n σ' ys H') ?_ m0 ⟨0,σ,ks,H,I,st,λb hb=>(hf b hb).1,fp0,Tx,w0⟩;rintro n s5 ⟨i,σ5,zs,H5,I5,st5,fr5,fp5,T5,w5⟩;have I5p:=Tf I5 fp5 T5;rcases turn i n σ5 zs H5 w5 with⟨stop,qn⟩ | ⟨go,hz,step⟩
  · refine HN (T.done X rfl rfl rfl hc i _ s5 σ5 H5 (λ_ _=>False) I5p (stat fr5) st5 stop) λr s6 ⟨hr,I6⟩=>?_;subst hr;obtain⟨I6',f6,T6⟩:=NQ I6 fp5 T5;exact⟨rfl,σ5,zs,H5,I6',f6,T6,qn⟩
  · refine HN (T.item X rfl rfl rfl hc i _ s5 σ5 H5 (λ_ _=>False) I5p (stat fr5) st5 go) λr s6 ⟨u,hr,h6⟩=>?_;subst hr;refine HN h6 λ_ s7 ⟨x,H7,I7,r7,y7,st7,fr7⟩=>?_;have I7':=I7.pinned (stat fr7) (T.obj _ _ st7);have G:=hg _ s7 σ5 H7 x u _ I7' r7 (step x H7 y7);rw[hx] at G;refine HN G λ_ s8 ⟨σ8,H8,I8,q8⟩=>?_;have Tt:=ht _ s8 σ8 H8 _ I8 q8;rw[hx] at Tt;refine HN Tt λb s9 ⟨H9,I9,q9⟩=>?_;have again:∀{s':Shared}{H':Hp},Inv X (pins++Js [p] s5.heap++Js fp s7.heap) σ8 H' s'→tn (i+1) s'.heap∧(∀b∈fp,H' b=none)∧Inv X pins σ8 H' s'∧HS X pins H' p∧TxSet X.prog X.w s'.heap p zs:=λ{s' H'}I'=>by
     obtain⟨a1,a2,a3⟩:=NQ I'.unpinned fp5 T5;refine⟨T.keep _ _ _ st7 λb hb o e=>(I'.pin (b,o) (An _ (An _ (JK hb e)))).1,λb hb=>?_,a1,a2,a3⟩;obtain⟨o,e,d⟩:=T.obj _ _ st7 b hb;exact(I'.pin (b,o) (An _ (An _ (JK hb e)))).2.1
    cases b with
    | false=> obtain⟨m',hm,w'⟩:=q9;obtain⟨a1,a2,a3,a4,a5⟩:=again I9;exact⟨m',hm,i+1,σ8,zs,H9,a3,a1,a2,a4,a5,w'⟩
    | true=> have Ee:=he _ s9 σ8 H9 _ I9 q9;rw[hx] at Ee;show wpAny _ _ _ _ _ _;refine HN Ee λxv s10 ⟨y,H10,I10,r10,k,hk,q10⟩=>?_;subst hk;obtain⟨tk,rfl⟩:=(show ∃t,xv=Value.str k t from r10);obtain⟨a1,a2,a3,a4,a5⟩:=again I10;refine ZH a5 (by unfold scanBound;omega) λh' zs' sb T' l m=>?_;obtain⟨m',hm,w'⟩:=q10 zs' l m T'.nodup;obtain⟨g0,g1',g2,g3,g4,g5⟩:=a4;refine⟨m',hm,i+1,σ8,zs',H10,a3.turned (t':=s10.toks+1) (λb o hb e=>(sb.2 b hb).trans e) g0 g1' g3 g4 g5,T.keep _ _ _ a1 λb hb o e=>(sb.2 b (nep b hb)).trans e,a2,⟨g0,g1',g2,g3,g4,g5⟩,T',w'⟩
 exact RT 1 (.inr rfl) loop (T.self _ 0 _ _ _ st loop)
end
section
variable{tg iter tg1 iter1 elt:Expr}{ifs ifs1:List Expr}{wi wi1:TI}{js:IT}{g g1:TG}{tc tc1:TT}{te:TE}{N':List Str}
theorem Xy{pins:List (Addr×Obj)}{σ:St}{H:Hp}{s:Shared}{E:Value→Shared→Prop}{M:List Str→Hp→Prop}{J:It}{it:Addr}{fp:List Addr}{tn:Nat→Heap→Prop}{cl:List (Str×Addr)}
 (hc:X.calm=true) (ok:CapOk X N' js scope) (hs1:∀(e:Env)x,A_ iter1 e x=pure x)
 (h2:∀x c,cl.lookup x=some c→X.env.cells.lookup x=some c) (h3:∀p∈scope.names,p.2= .free→(cl.lookup p.1).isSome=true)
 (hg:∀cl C s₀ H₀ ex,PG (Iu X N' scope cl C s₀ H₀ ex) tg g) (ht:∀cl C s₀ H₀ ex,Iw (Iu X N' scope cl C s₀ H₀ ex) ifs tc) (hi1:∀cl C s₀ H₀ ex,PI (Iu X N' scope cl C s₀ H₀ ex) tg1 iter1 wi1) (hg1:∀cl C s₀ H₀ ex,PG (Iu X N' scope cl C s₀ H₀ ex) tg1 g1) (ht1:∀cl C s₀ H₀ ex,Iw (Iu X N' scope cl C s₀ H₀ ex) ifs1 tc1) (he:∀cl C s₀ H₀ ex,PE (Iu X N' scope cl C s₀ H₀ ex) elt te)
 (I:Inv X pins σ H s) (T:Turn X.prog X.w X.K tg J fp it tn) (st:tn 0 s.heap) (hf:∀b∈fp,HS X pins H b)
 (hw:OQ J js g tc wi1 g1 tc1 te σ H M):
 wpAny (model X.prog X.w) X.A (newSet (.type "set")) (λacc s₃=>wpAny (model X.prog X.w) X.A (newFunctionEnv scope X.env.globals cl [] X.env.qual none .none (some X.env)) (λcenv s₄=>
  codeAny (model X.prog X.w) X.A (.compStart (.SetComp elt [⟨tg,iter,ifs,0⟩,⟨tg1,iter1,ifs1,0⟩] scope pos) 0 (.ref it) acc {cenv with scope:=relabel scope X.env})
   (λr s'=>r= .ok .next∧(∃m,s'.heap.Ns cenv.locals m)∧∃p ks H',acc= .ref p∧p≠cenv.locals∧Inv X pins σ H' s'∧HS X pins H' cenv.locals∧TxSet X.prog X.w s'.heap p ks∧M ks H') s₄) E s₃) E s:=by
 have objs:=T.obj _ _ st;refine XI ?_;obtain⟨W,⟨m0,w0⟩,turn⟩:=hw;have fpP:HS X pins H s.heap.objs.size:=I.fpOk (Ag _) (I.hok.fresh (Ag _));have kp:∀b u,s.heap.get? b=some u→(s.heap.push {cls:= .type "set",dict:=none,data:= .set #[] 0 (.fresh 0 0 (!Iz X.w))}).get? b=some u:=λb u e=>Ad _ e;have T3:TxSet X.prog X.w (s.heap.push {cls:= .type "set",dict:=none,data:= .set #[] 0 (.fresh 0 0 (!Iz X.w))}) s.heap.objs.size []:=Yl (Am s.heap rfl);have lt0:s.heap.objs.size<(s.heap.push {cls:= .type "set",dict:=none,data:= .set #[] 0 (.fresh 0 0 (!Iz X.w))}).objs.size:=Ai (Am s.heap (o:={cls:= .type "set",dict:=none,data:= .set #[] 0 (.fresh 0 0 (!Iz X.w))}) rfl);have I3:Inv X pins σ H {s with heap:=s.heap.push {cls:= .type "set",dict:=none,data:= .set #[] 0 (.fresh 0 0 (!Iz X.w))}}:=I.kept (t':=s.toks) kp
 generalize hp:s.heap.objs.size=p at*;have fne:∀b∈fp,b≠p:=λb hb=>by obtain⟨o,e,_⟩:=objs b hb;have:=Ai e;rw[←hp];exact Aq this
 have hf3:∀b∈p::fp,HS X pins H b:=λb hb=>(Ak.mp hb).elim (λz=>z ▸ fpP) (hf b);have st3:tn 0 (s.heap.push {cls:= .type "set",dict:=none,data:= .set #[] 0 (.fresh 0 0 (!Iz X.w))}):=T.keep _ _ _ st λb _ o e=>kp b o e;have lt3:∀b∈p::fp,b<(s.heap.push {cls:= .type "set",dict:=none,data:= .set #[] 0 (.fresh 0 0 (!Iz X.w))}).objs.size:=λb hb=>by
  rcases Ak.mp hb with rfl | hb
  · exact lt0
  · obtain⟨o,e,_⟩:=objs b hb;exact Ai (kp b o e)
 generalize hs3:({s with heap:=s.heap.push {cls:= .type "set",dict:=none,data:= .set #[] 0 (.fresh 0 0 (!Iz X.w))}}:Shared)=s3 at*
 have eh:s.heap.push {cls:= .type "set",dict:=none,data:= .set #[] 0 (.fresh 0 0 (!Iz X.w))}=s3.heap:=by rw[←hs3]
 rw[eh] at st3 lt3 T3 lt0;refine Os ok.cells λcl h₁ hns₁ k4 oc=>?_;have I4:=NS (cl:=cl) (h₁:=h₁) (t':=s3.toks+([]:List (Str×Value)).length) ok I3 h2 h3 hf3 lt3 k4 hns₁ oc;have T4:TxSet X.prog X.w h₁ p []:=T3.kept λo e=>k4 p o e;have st4:tn 0 h₁:=T.keep _ _ _ st3 λb _ o e=>k4 b o e;generalize hX:Iu X N' scope cl s3.heap.objs.size s3 H (p::fp)=X' at I4;have hg':PG X' tg g:=by rw[←hX];exact hg _ _ _ _ _
 have ht':Iw X' ifs tc:=by rw[←hX];exact ht _ _ _ _ _
 have he':PE X' elt te:=by rw[←hX];exact he _ _ _ _ _
 have hi1':PI X' tg1 iter1 wi1:=by rw[←hX];exact hi1 _ _ _ _ _
 have hg1':PG X' tg1 g1:=by rw[←hX];exact hg1 _ _ _ _ _
 have ht1':Iw X' ifs1 tc1:=by rw[←hX];exact ht1 _ _ _ _ _
 have hs1':∀x,A_ iter1 (compEnvC scope cl s3.heap.objs.size X.env) x=pure x:=hs1 _;have eP:X'.prog=X.prog:=by rw[←hX];rfl
 have ew:X'.w=X.w:=by rw[←hX];rfl
 have eK:X'.K=X.K:=by rw[←hX];rfl
 have ec:X'.calm=true:=by rw[←hX];exact hc
 have eA:X'.A=X.A:=by rw[←hX];rfl
 have ex:X'.xe=λ_ _=>False:=by rw[←hX];rfl
 have eE:X'.env=compEnvC scope cl s3.heap.objs.size X.env:=by rw[←hX];rfl
 have eEx:X'.ex=p::fp:=by rw[←hX];rfl
 have eN:X'.pn=[]:=by rw[←hX];rfl
 have stat:∀{H':Hp}{b:Addr},b∈p::fp→H' b=none→HS X' [] H' b:=λ{H' b}hb hn=>by have okc:=I4.ok;refine⟨hn,(okc.exf b (by rw[eEx];exact hb)).1,okc.exfs b (by rw[eEx];exact hb),.inl (by rw[eEx];exact hb),(okc.exf b (by rw[eEx];exact hb)).2,λq hq=>?_⟩;rw[eN] at hq;cases hq
 have loop:∀s₄:Shared,s₄={s3 with heap:=h₁,toks:=s3.toks+([]:List (Str×Value)).length}→
  codeAny (model X.prog X.w) X.A (.compLoop (.SetComp elt [⟨tg,iter,ifs,0⟩,⟨tg1,iter1,ifs1,0⟩] scope pos) 0 (.ref it) (.ref p) (compEnvC scope cl s3.heap.objs.size X.env))
   (λr s'=>r= .ok .next∧(∃m,s'.heap.Ns s3.heap.objs.size m)∧∃p' ks H',Value.ref p= .ref p'∧p'≠s3.heap.objs.size∧Inv X pins σ H' s'∧HS X pins H' s3.heap.objs.size∧TxSet X.prog X.w s'.heap p' ks∧M ks H') s₄:=by
  rintro s₄ rfl;have wpin:∀{h:Heap}{H':Hp},(∀b∈fp,H' b=none)→∀b∈fp,HS X' ([]++Js [p] h) H' b:=λ{h H'}hn b hb=>Sc (stat (AB _ hb) (hn b hb)) (fne b hb);refine WA hs1' (λn s'=>∃i σ' ys H',Inv X' [] σ' H' s'∧tn i s'.heap∧(∀b∈fp,H' b=none)∧HS X' [] H' p∧TxSet X'.prog X'.w s'.heap p ys∧W i n σ' ys H') ?_ m0 ⟨0,_,[],_,I4,st4,λb hb=>(hf b hb).1,stat AA fpP.1,by rw[eP,ew];exact T4,w0⟩;rintro n s5 ⟨i,σ5,ys,H5,I5,st5,fr5,fp5,T5,w5⟩;have I5p:=Tf I5 fp5 T5;rcases turn i n σ5 ys H5 w5 with⟨stop,qn⟩ | ⟨go,step⟩
  · have D:=T.done X' eP ew eK ec i _ s5 σ5 H5 (λ_ _=>False) I5p (wpin fr5) st5 stop;rw[eA] at D;refine HN D λr s6 ⟨hr,I6p⟩=>?_;subst hr;obtain⟨I6,f6,T6⟩:=NQ I6p fp5 T5;refine⟨rfl,?_,p,ys,H5,rfl,Aq lt0,?_,?_,by rw[eP,ew] at T6;exact T6,qn⟩
    · obtain⟨m,hm,_⟩:=I6.loc;rw[eE] at hm;exact⟨m,hm⟩
    · have b6:=I6.base;have ho:=I6.os;have hk:=I6.hok;have hb:=I6.bare;subst hX;exact I3.call' (ch:=p::fp) ho b6 hk hb λb hb'=>⟨(hf3 b hb').2.2.2.1,(hf3 b hb').2.1,(hf3 b hb').2.2.2.2.1,(hf3 b hb').2.2.2.2.2⟩
    · have fr:=I6.free;rw[eE] at fr;exact I3.fpOk (Ag _) fr
  · have D:=T.item X' eP ew eK ec i _ s5 σ5 H5 (λ_ _=>False) I5p (wpin fr5) st5 go;rw[eA] at D;refine HN D λr s6 ⟨u,hr,h6⟩=>?_;subst hr;refine HN h6 λ_ s7 ⟨x,H7,I7,r7,y7,st7,fr7⟩=>?_;have I7':=I7.pinned (wpin fr7) (T.obj _ _ st7);have G:=hg' _ s7 σ5 H7 x u _ I7' r7 (step x H7 y7);rw[eP,ew,eA,ex,eE] at G;refine HN G λ_ s8 ⟨σ8,H8,I8,q8⟩=>?_;have Tt:=ht' _ s8 σ8 H8 _ I8 q8;rw[eP,ew,eA,ex,eE] at Tt;refine HN Tt λb s9 ⟨H9,I9,q9⟩=>?_;have again:∀{s':Shared}{σ8:St}{ys':List Str}{H':Hp},Inv X' ([]++Js fp s7.heap) σ8 H' s'→HS X' [] H' p→TxSet X'.prog X'.w s'.heap p ys'→(∃m',m'<n∧W (i+1) m' σ8 ys' H')→
     ∃m,m<n∧∃i σ' ys H',Inv X' [] σ' H' s'∧tn i s'.heap∧(∀b∈fp,H' b=none)∧HS X' [] H' p∧TxSet X'.prog X'.w s'.heap p ys∧W i m σ' ys H':=λ{s' σ8 ys' H'}I' f' T' ⟨m',hm,w'⟩=>by
     refine⟨m',hm,i+1,σ8,ys',H',I'.unpinned,T.keep _ _ _ st7 λb hb o e=>(I'.pin (b,o) (An _ (An _ (JK hb e)))).1,λb hb=>?_,f',T',w'⟩;obtain⟨o,e,d⟩:=T.obj _ _ st7 b hb;exact(I'.pin (b,o) (An _ (An _ (JK hb e)))).2.1
    have drop:∀{s':Shared}{σ8:St}{H':Hp},Inv X' ([]++Js [p] s5.heap++Js fp s7.heap) σ8 H' s'→Inv X' ([]++Js fp s7.heap) σ8 H' s'∧HS X' [] H' p∧TxSet X'.prog X'.w s'.heap p ys:=λ{s' σ8 H'}I'=>by obtain⟨a1,a2,a3⟩:=NQ I'.unpinned fp5 T5;exact⟨I'.pins_of λq hq=>I'.pin q (An _ ((Aw.mp hq).elim (λz=>nomatch z) λz=>An _ z)),a2,a3⟩
    cases b with
    | false=> obtain⟨a1,a2,a3⟩:=drop I9;exact again a1 a2 a3 q9
    | true=>
     have Ei:=hi1' _ s9 σ8 H9 _ I9 q9;rw[eP,ew,eA,ex,eE] at Ei;show wpAny _ _ _ _ _ _;refine HN Ei λxv s10 h10=>HN h10 λitv s11 h11=>?_;obtain⟨it1,fp1,tn1,J1,H11,e11,I11,T1,st11,f11,hw11⟩:=h11;subst e11;obtain⟨a1,a2,a3⟩:=drop I11;obtain⟨o5,ho5,_⟩:=Pp T5;have npp:p ∉ fp1:=λhb=>(f11 p hb).2.2.2.2.2 (p,o5) (An _ (Bn _ (An _ (JK (Ae.mpr rfl) ho5)))) rfl;have f11':∀b∈fp1,HS X' ([]++Js fp s7.heap) H11 b:=λb hb=>by
      obtain⟨g0,g1',g2,g3,g4,g5⟩:=f11 b hb;refine⟨g0,g1',g2,g3,g4,λq hq=>g5 q ?_⟩;rcases Aw.mp hq with z | z
      · exact Bn _ z
      · exact An _ ((Aw.mp z).elim (λz=>nomatch z) λz=>An _ z)
     have a2':HS X' ([]++Js fp s7.heap) H11 p:=by
      obtain⟨g0,g1',g2,g3,g4,g5⟩:=a2;refine⟨g0,g1',g2,g3,g4,λq hq=>?_⟩;rcases Aw.mp hq with z | z
      · exact g5 q (Bn _ z)
      · have:=(Pl ((Aw.mp z).elim (λz=>nomatch z) id)).1;exact fne _ this
     have In:=XX (X:=X') (elt:=elt) (t0:=tg) (i0:=iter) (t1:=tg1) (i1:=iter1) (f0:=ifs) (f1:=ifs1) (scope:=scope) (pos:=pos) ec ex hg1' ht1' he' a1 T1 st11 f11' npp a2' a3 hw11;rw[eP,ew,eA,eE] at In;refine Ce In λr s12 ⟨hr,σ12,zs,H12,I12,f12,T12,m12⟩=>⟨hr,?_⟩;exact again I12 (stat AA f12.1) (by rw[eP,ew];exact T12) m12
 exact RT 0 (.inl rfl) (loop _ rfl) (T.self _ 0 _ _ _ st4 (loop _ rfl))
def Xd(wi:TI)(js:IT)(g:TG)(tc:TT)(wi1:TI)(g1:TG)(tc1:TT)(te:TE):TE:=λσ H Q=>wi σ H λJ H1=>OQ J js g tc wi1 g1 tc1 te σ H1 λks H2=>ks.length<64∧
 ∀(p:Addr)(ms:List Str),ms.Perm ks→ms.Nodup→sortedS ms=true→H2 p=none→Q (.ref p) (HI H2 p (.lst (ms.map V.str)))
theorem Ya{p4 pos':Pos}(hg0:Gl X "sorted")(hm0:X.mg "sorted"=none)(hc:X.calm=true)(ok:CapOk X N' js scope)(hi:PI X tg iter wi)
 (hg:∀cl C s₀ H₀ ex,PG (Iu X N' scope cl C s₀ H₀ ex) tg g) (ht:∀cl C s₀ H₀ ex,Iw (Iu X N' scope cl C s₀ H₀ ex) ifs tc) (hi1:∀cl C s₀ H₀ ex,PI (Iu X N' scope cl C s₀ H₀ ex) tg1 iter1 wi1) (hg1:∀cl C s₀ H₀ ex,PG (Iu X N' scope cl C s₀ H₀ ex) tg1 g1) (ht1:∀cl C s₀ H₀ ex,Iw (Iu X N' scope cl C s₀ H₀ ex) ifs1 tc1) (he:∀cl C s₀ H₀ ex,PE (Iu X N' scope cl C s₀ H₀ ex) elt te)
 (hs:∀x,A_ iter X.env x=pure x:=by intro _;rfl) (hs1:∀(e:Env)x,A_ iter1 e x=pure x:=by intro _ _;rfl)
 (h2:AD [.SetComp elt [⟨tg,iter,ifs,0⟩,⟨tg1,iter1,ifs1,0⟩] scope pos'] X.env=(false,eval (.SetComp elt [⟨tg,iter,ifs,0⟩,⟨tg1,iter1,ifs1,0⟩] scope pos') X.env)::AD [] X.env:=by rfl)
 (h4:(backTo pos (AD [] X.env)).any (·.1)=false:=by rfl):
 PE X (.Call (.Name "sorted" p4) [.SetComp elt [⟨tg,iter,ifs,0⟩,⟨tg1,iter1,ifs1,0⟩] scope pos'] [] pos) (Xd wi js g tc wi1 g1 tc1 te):=by
 intro pins s σ H Q I h;refine BQ (Ky I hg0 hm0 MI ?_ (by decide) (by decide));refine Ec ?_ h2 h4;rw[h2];show wpAny _ _ (spliced ((false,eval (.SetComp elt [⟨tg,iter,ifs,0⟩,⟨tg1,iter1,ifs1,0⟩] scope pos') X.env)::backTo pos (AD [] X.env))) _ _ s;refine D5 ?_;obtain⟨cl,c1,c2,c3⟩:=M7 (scope:=scope) I.ok.has ok.free;rw[arm_eval_SetComp];refine C9 (use:=none) rfl hs c1 ok.kind ok.names (HN (hi pins s σ H _ I h) λv s1 h1=>HN h1 λitv s2 h2=>?_);obtain⟨it,fp,tn,J,H2,e,I2,T,st2,f2,hw⟩:=h2;subst e;refine A4 (Xy (iter:=iter) (pos:=pos') hc ok hs1 c2 c3 hg ht hi1 hg1 ht1 he I2 T st2 f2 hw) (λacc s3 h3=>A4 h3 (λcenv s4 h4=>?_) λ_ _ z=>z) λ_ _ z=>z;refine Ce h4 λr s5 h5=>?_;obtain⟨rfl,⟨m,hm⟩,p,ks,H5,rfl,npl,I5,f5,T5,h64,q5⟩:=h5;refine⟨m,hm,λh' sb=>?_⟩;obtain⟨f0,f1,_,f3,f4,f6⟩:=f5;have I6:Inv X pins σ H5 {s5 with heap:=h',toks:=s5.toks}:=I5.turned (t':=s5.toks) (λb o hb e=>(sb.2 b hb).trans e) f0 f1 f3 f4 f6
 have T6:TxSet X.prog X.w h' p ks:=T5.kept λo e=>(sb.2 p npl).trans e;refine ER ?_;refine Zl (s:={s5 with heap:=h'}) (I.ok.hd hc) T6 h64 λp' h2 d2 tk2 out ms ee a1 a2 a3 a4 a5 a6=>?_
 have hn1:H5 p'=none:=I6.hok.fresh a4;have I7:Inv X pins σ H5 {s5 with heap:=h',drawn:=d2,toks:=s5.toks}:=⟨I6.ok,I6.os,I6.bare,I6.base,I6.loc,I6.cell,I6.free,I6.freeC,I6.pin,I6.hok,I6.len⟩
 refine⟨.ref p',HI H5 p' (.lst (ms.map V.str)),I7.laid (t':=tk2) a6 a4 ?_,rfl,q5 p' ms a2 (a2.nodup_iff.mpr T6.nodup) a3 hn1⟩;have hlen:ms.length<64:=by rw[a2.length_eq];exact h64
 exact⟨by rw[Ab,sizeLine_eq];omega,out.toList,ee,Om a1,by simpa [seqObj] using a5⟩
end
open PySem.AutoSeq1 (wpAny_loadPart')
theorem WS(l:Addr)(xs:Array Value):
 Meets (Builtin.«enumerate.__new__» ⟨[.type "enumerate",.ref l],[]⟩) (λ_ R s=>s.heap.IsTuple l xs∧R (.ok (.ret (.ref (s.heap.push {cls:= .type "tuple_iterator",data:= .fields #[.ref l,.int 0 0]}).objs.size)))
  {s with heap:=(s.heap.push {cls:= .type "tuple_iterator",data:= .fields #[.ref l,.int 0 0]}).push {cls:= .type "enumerate",data:= .fields #[.none,.bool false,.ref s.heap.objs.size,rawInt 0,.none,.none]}}):=
 .of_wp λprog w A R s h=>by
  obtain⟨hp,g,d,tk,os⟩:=s;have f0:=sub_enumerate;have f1:Heap.IsTuple (Shared.heap ⟨hp,g,d,tk,os⟩) l xs:=h.1
  wp_walk
  refine wpAny_stack_any λst=>Ac ?_
  split
  · rename_i c _ _ _ _ _;by_cases hc:(c==Value.type "enumerate")=true
    · rw[hc]
      wp_walk using C6 f1
      exact⟨_,rfl,h.2⟩
    · have hc':(c==Value.type "enumerate")=false:=by simpa using hc
      rw[hc']
      wp_walk using C6 f1
      exact⟨_,rfl,h.2⟩
  · wp_walk using C6 f1
    exact⟨_,rfl,h.2⟩
section
variable{it l e:Addr}{xs:Array Value}{x old:Value}
theorem V4{Q:Value→Shared→Prop}(hi:s.heap.IsTupleIter it l i)(hl:s.heap.IsTuple l xs)(hx:xs[i]?=some x)
 (q:∀h',h'.IsTupleIter it l (i+1)→Bx it s.heap h'→Q x {s with heap:=h'}):wpAny (model prog w) A (AR (.ref it)) Q E s:=by
 obtain⟨o,h1,h2,h3⟩:=id hi;obtain⟨u,g1,_,n,g2⟩:=hl;unfold AR;refine Aa (AT (name:=Cf "__next__") hi.typeIs Be (AW Be hi.typeIs C2 ?go (Cw _)))
 case go=> show wpAny _ _ (field (Value.ref it) 0>>=_) _ _ s;refine Aa (AO h1 h3 (x:= .ref l) rfl ?_);rw[if_neg (by intro z;cases z)];show wpAny _ _ (field (Value.ref it) 1>>=_) _ _ s;refine Aa (AO h1 h3 (x:= .int i 0) rfl ?_);show wpAny _ _ (seqItems? (Value.ref l)>>=_) _ _ s;refine Aa (AQ g1 g2 ?_);simp only[Ba,hx];refine Aa (BP h1 h3 (by simp) (Ac ⟨x,rfl,Ac (q _ ⟨_,AM _ h1 (FV (DC h3 _)),(Obj.cls_mapFields ..).trans h2,?_⟩ (AY ..))⟩));rw[DC h3];simp[rawInt]
theorem YS{Q:Value→Shared→Prop}(hh:A.handled=none)(hi:s.heap.IsTupleIter it l i)(hl:s.heap.IsTuple l xs)(hx:xs[i]?=none)
 (q:∀h' e,Dg it s.heap h'→(∃o,h'.get? e=some o∧o.cls= .type "StopIteration")→E (.ref e) {s with heap:=h'}):wpAny (model prog w) A (AR (.ref it)) Q E s:=by
 obtain⟨o,h1,h2,h3⟩:=id hi;obtain⟨u,g1,_,n,g2⟩:=hl;unfold AR;refine Aa (AT (name:=Cf "__next__") hi.typeIs Be (AW Be hi.typeIs C2 ?go (Cw _)))
 case go=>
  show wpAny _ _ (field (Value.ref it) 0>>=_) _ _ s;refine Aa (AO h1 h3 (x:= .ref l) rfl ?_);rw[if_neg (by intro z;cases z)];show wpAny _ _ (field (Value.ref it) 1>>=_) _ _ s;refine Aa (AO h1 h3 (x:= .int i 0) rfl ?_);show wpAny _ _ (seqItems? (Value.ref l)>>=_) _ _ s;refine Aa (AQ g1 g2 ?_);simp only[Ba,hx];refine Aa (BJ (Aa (BP h1 h3 (by simp) ?_)));show wpAny _ _ (newExc (Value.type "StopIteration") []>>=_) _ _ _;refine Aa ?_;unfold newExc newTuple;refine Aa (AN ?_ (by size_fits));refine Aa (m:=firstArgMember _ _) (Du (a:=Value.none) (by first | rfl | (simp only[firstArgMember];rfl)) ?_)
  refine AN ?_ (by size_fits);unfold raiseNew;refine Aa (wpAny_handled ?_)
  first | rw[show A.in1.handled=none from hh] | rw[hh]
  exact Aa (Ac (wpAny_throw (q _ _ (((AY ..).extBut.push _).push _) ⟨_,Am _ rfl,rfl⟩)))
theorem Y3{Q:Option Value→Shared→Prop}(he:IsEnum s.heap e it i old)(hi:s.heap.IsTupleIter it l i)(hl:s.heap.IsTuple l xs)(hx:xs[i]?=some x)(ne:e≠it)
 (q:∀h',IsEnumOut h' e it ((i:Int)+1) x s.heap.objs.size→h'.IsTupleIter it l (i+1)→h'.get? s.heap.objs.size=some {cls:= .type "tuple",data:= .seq #[.int i s.toks,x]}→
  (∀b o,b≠e→b≠it→s.heap.get? b=some o→h'.get? b=some o)→Q (some (.ref s.heap.objs.size)) {s with heap:=h',toks:=s.toks+1}):
 wpAny (model prog w) A (pyNext (.ref e)) Q E s:=by
 have ty:s.TypeIs (.ref e) "enumerate":=⟨_,he,rfl⟩;unfold pyNext;refine Aa (Dt (AT (name:=Cf "__next__") ty CP (AW CP ty Ew ?go (Em _))))
 case go=>
  obtain⟨hp,g,d,tk,os⟩:=s;have lte:e<hp.objs.size:=Ai he;have nT:hp.objs.size≠e:=C1 lte;show wpAny _ _ (field (Value.ref e) 2>>=_) _ _ _;refine Aa (AO he rfl (x:= .ref it) rfl ?_);refine Aa (V4 hi hl hx λk1 i1 b1=>?_)
  replace b1:Bx it hp k1:=b1
  have e1:IsEnum k1 e it i old:=(b1.2 e ne).trans he;show wpAny _ _ (field (Value.ref e) 3>>=_) _ _ ⟨k1,g,d,tk,os⟩;refine Aa (AO e1 rfl (x:=rawInt i) rfl ?_);show wpAny _ _ (field (Value.ref e) 4>>=_) _ _ ⟨k1,g,d,tk,os⟩;refine Aa (AO e1 rfl (x:= .none) rfl ?_);show wpAny _ _ (mkInt i>>=_) _ _ ⟨k1,g,d,tk,os⟩;refine Aa (wpAny_mkInt ?_);show wpAny _ _ (setField (Value.ref e) 3 (rawInt ((i:Int)+1))>>=_) _ _ ⟨k1,g,d,tk+1,os⟩;refine Aa (BG e1 (by simp) λk2 e2 b2=>?_)
  replace b2:Bx e k1 k2:=b2
  replace e2:IsEnum k2 e it ((i:Int)+1) old:=e2
  show wpAny _ _ (setField (Value.ref e) 4 .none>>=_) _ _ ⟨k2,g,d,tk+1,os⟩;refine Aa (BG e2 (by simp) λk3 e3 b3=>?_)
  replace b3:Bx e k2 k3:=b3
  replace e3:IsEnum k3 e it ((i:Int)+1) old:=e3
  show wpAny _ _ (newTuple [.int i tk,x]>>=_) _ _ ⟨k3,g,d,tk+1,os⟩;refine Aa (FW ?_);have z3:k3.objs.size=hp.objs.size:=by rw[b3.1,b2.1,b1.1]
  have k13:∀b o,b≠e→k1.get? b=some o→k3.get? b=some o:=λb o n h=>b3.extBut b o n (b2.extBut b o n h);have e4:IsEnum (k3.push {cls:= .type "tuple",data:= .seq #[.int i tk,x]}) e it ((i:Int)+1) old:=Ad _ e3;have t4:(k3.push {cls:= .type "tuple",data:= .seq #[.int i tk,x]}).get? hp.objs.size=some {cls:= .type "tuple",data:= .seq #[.int i tk,x]}:=by rw[←z3];exact Am _ rfl
  have k4:∀b o,b≠e→k1.get? b=some o→(k3.push {cls:= .type "tuple",data:= .seq #[.int i tk,x]}).get? b=some o:=λb o n h=>Ad _ (k13 b o n h);show wpAny _ _ (BC (.ref e)>>=_) _ _ ⟨k3.push {cls:= .type "tuple",data:= .seq #[.int i tk,x]},g,d,tk+1,os⟩;rw[z3];generalize k3.push {cls:= .type "tuple",data:= .seq #[.int i tk,x]}=h4 at*;refine Aa ?_;unfold BC;refine Aa (AO e4 rfl (x:= .none) rfl (Ac ?_));rw[if_pos rfl];refine Aa (BJ (Aa (AO e4 rfl (x:=old) rfl (Aa (BG e4 (by simp) λh5 e5 b5=>?_)))))
  replace b5:Bx e h4 h5:=b5
  replace e5:IsEnum h5 e it ((i:Int)+1) x:=e5
  show wpAny _ _ (Cr (.ref e) (.ref hp.objs.size)>>=_) _ _ ⟨h5,g,d,tk+1,os⟩;refine Aa ?_;unfold Cr;refine Aa (BG e5 (by simp) λh6 e6 b6=>?_)
  replace b6:Bx e h5 h6:=b6
  replace e6:IsEnumOut h6 e it ((i:Int)+1) x hp.objs.size:=e6
  refine BG e6 (by simp) λh7 e7 b7=>?_
  replace b7:Bx e h6 h7:=b7
  replace e7:IsEnumOut h7 e it ((i:Int)+1) x hp.objs.size:=e7
  have k7:∀b o,b≠e→h4.get? b=some o→h7.get? b=some o:=λb o n h=>b7.extBut b o n (b6.extBut b o n (b5.extBut b o n h));obtain⟨oi,g1,g2⟩:=i1;exact Aa (Cg (Ac ⟨_,rfl,Ac (q h7 e7 ⟨oi,k7 _ _ ne.symm (k4 _ _ ne.symm g1),g2⟩ (k7 _ _ nT t4) λb o n1 n2 h=>k7 b o n1 (k4 b o n1 (b1.extBut b o n2 h)))⟩))
theorem WR{Q:Option Value→Shared→Prop}(hh:A.handled=none)(he:IsEnum s.heap e it i old)(hi:s.heap.IsTupleIter it l i)(hl:s.heap.IsTuple l xs)(hx:xs[i]?=none)
 (q:∀h',Dg it s.heap h'→Q none {s with heap:=h'}):wpAny (model prog w) A (pyNext (.ref e)) Q E s:=by
 have ty:s.TypeIs (.ref e) "enumerate":=⟨_,he,rfl⟩;unfold pyNext;refine Aa (Dt (AT (name:=Cf "__next__") ty CP (AW CP ty Ew ?go (Em _))))
 case go=> show wpAny _ _ (field (Value.ref e) 2>>=_) _ _ _;refine Aa (AO he rfl (x:= .ref it) rfl (Aa (YS hh hi hl hx λh' x k ⟨o,g1,g2⟩=>?_)));exact Aa (Dn (T:="StopIteration") (b:=true) ⟨o,g1,g2⟩ isSubtype_stop (Ac (q _ k)))
end
def K7(K:Ao)(a:Addr):It:=
 ⟨λk H=>∃(xs:List V)(x:V),SqT K H a xs∧xs[k]?=some x,
  λk H v H'=>∃p,v= .ref p∧H p=none∧∀(xs:List V)(x:V),SqT K H a xs→xs[k]?=some x→H'=HI H p (.tup [.int k,x]),
  λk H=>∃(xs:List V),SqT K H a xs∧xs.length≤k⟩
theorem Ym{P:Bv}{w:World}{K:Ao}{es:List Expr}{kk:Nat}{pos:Pos}(a e it:Addr)(D:e≠it):
 Turn P w K (.Tuple es kk pos) (K7 K a) [e,it] e (λk h=>(∃old,IsEnum h e it k old)∧h.IsTupleIter it a k) where
 mem:=by simp
 obj:=λk h st c hc=>by
  obtain⟨⟨old,hz⟩,⟨oi,ei,_,di⟩⟩:=st;simp only[Ak,AC,or_false] at hc;rcases hc with rfl | rfl
  · exact⟨_,hz,λv e=>by cases e⟩
  · exact⟨oi,ei,λv e=>by rw[di] at e;cases e⟩
 keep:=λk h h' st kp=>by obtain⟨⟨old,hz⟩,⟨oi,ei,ri⟩⟩:=st;exact⟨⟨old,kp e (by simp) _ hz⟩,⟨oi,kp it (by simp) _ ei,ri⟩⟩
 item:=by
  intro X hP hw hK hc k pins s σ H E I hf st hg;subst hP hw hK;obtain⟨xs,x,q1,hx⟩:=hg;obtain⟨⟨old,hz⟩,h1⟩:=st;obtain⟨its1,r1,g1,_⟩:=I.tuple q1;obtain⟨u1,hu1,v1⟩:=r1.get hx;have fz:=hf e (by simp);have fi:=hf it (by simp);refine Y3 hz h1 g1 (by simpa using hu1) D λg a1 a2 a3 a5=>?_;refine⟨_,rfl,EK a1 λg' z' m'=>?_⟩;have zT:e≠s.heap.objs.size:=Aq (Ai hz);have up:∀c o,c≠e→g.get? c=some o→g'.get? c=some o:=λc o hc e=>m'.extBut c o hc e;have fr:H s.heap.objs.size=none:=I.hok.fresh (Ag _);have I1:Inv X pins σ (HI H s.heap.objs.size (.tup [.int k,x])) {s with heap:=g',toks:=s.toks+1}:=by
   refine I.newTup (t':=s.toks+1) [e,it] (λc hc=>?_) (λc o hc e=>?_) (Ag _) ⟨[.int k s.toks,u1],.cons ⟨_,rfl⟩ (.cons v1 .nil),_,up _ _ zT.symm a3,rfl,rfl,_,rfl⟩
   · simp only[Ak,AC,or_false] at hc;rcases hc with rfl | rfl
     · exact fz
     · exact fi
   · simp only[Ak,AC,or_false,not_or] at hc;exact up c o hc.1 (a5 c o hc.1 hc.2 e)
  obtain⟨oi,ei,ri⟩:=a2;refine⟨.ref s.heap.objs.size,_,I1,rfl,⟨_,rfl,fr,λxs' x' s1 e1=>?_⟩,⟨⟨_,z'⟩,⟨oi,up _ _ D.symm ei,ri⟩⟩,λc hc=>?_⟩
  · rw[I.tuple_inj s1 q1,hx] at e1;cases e1;rfl
  · have fc:=hf c hc;have:c≠s.heap.objs.size:=by
     simp only[Ak,AC,or_false] at hc;obtain⟨oi',ei',_⟩:=h1;rcases hc with rfl | rfl
     · exact zT
     · exact Aq (Ai ei')
    rw[Ij this];exact fc.1
 done:=by
  intro X hP hw hK hc k pins s σ H E I hf st hg;subst hP hw hK;obtain⟨xs,q1,hend⟩:=hg;obtain⟨⟨old,hz⟩,h1⟩:=st;obtain⟨its1,r1,g1,_⟩:=I.tuple q1;have l1:=r1.length;refine WR (I.ok.hd hc) hz h1 g1 (by simp;omega) λg kp=>?_;refine⟨rfl,I.turnedN (t':=s.toks) [it] (λc hc=>?_) (λc o hc e=>?_)⟩
  · simp only[Ak,AC,or_false] at hc;subst hc;exact hf c (by simp)
  · simp only[Ak,AC,or_false] at hc;exact kp c o hc e
 self:=λ_ _ _ _ _ st h=>by obtain⟨⟨old,hz⟩,_⟩:=st;exact DJ hz h
def UH(K:Ao)(ta:TA):TI:=λσ H R=>ta σ H λvs H1=>∃t,vs=[.ref t]∧(∃xs,SqT K H1 t xs)∧R (K7 K t) H1
theorem WY{es:List Expr}{kk:Nat}{tpos:Pos}{a:Expr}{ta:TA}{p pos:Pos}(hg:Gl X "enumerate")(hm:X.mg "enumerate"=none)(ha:PA X [a] ta)
 (he:AD [a] X.env=(false,eval a X.env)::AD [] X.env:=by rfl) (hpl:(backTo pos (AD [] X.env)).any (·.1)=false:=by rfl):
 PI X (.Tuple es kk tpos) (.Call (.Name "enumerate" p) [a] [] pos) (UH X.K ta):=by
 intro pins s σ H R I h;refine BQ (Ky I hg hm Ul ?_ (by decide) (by decide));refine BK (HN (ha pos pins s σ H _ I h) λus s1 ⟨vs,H1,I1,r1,t,e,⟨xs,q1⟩,q⟩=>?_) he hpl;subst e;obtain⟨u1,rfl,v1⟩:=J6 r1;cases v1;obtain⟨its1,rv1,g0,_⟩:=I1.tuple q1;refine callType_new Fj (by decide) (Es _) (E6 _) (λobj=>EL obj _) E7 (WS t its1.toArray) ⟨g0,?_⟩;generalize hh5:((s1.heap.push {cls:= .type "tuple_iterator",data:= .fields #[.ref t,.int 0 0]}).push {cls:= .type "enumerate",data:= .fields #[.none,.bool false,.ref s1.heap.objs.size,rawInt 0,.none,.none]})=h5;have y1:(s1.heap.push {cls:= .type "tuple_iterator",data:= .fields #[.ref t,.int 0 0]}).objs.size=s1.heap.objs.size+1:=Bj ..;have k5:∀c o,s1.heap.get? c=some o→h5.get? c=some o:=λc o e=>by rw[←hh5];exact Ad _ (Ad _ e)
 have e5:IsEnum h5 (s1.heap.objs.size+1) s1.heap.objs.size 0 .none:=by have:=Am (s1.heap.push {cls:= .type "tuple_iterator",data:= .fields #[.ref t,.int 0 0]}) (o:={cls:= .type "enumerate",data:= .fields #[.none,.bool false,.ref s1.heap.objs.size,rawInt 0,.none,.none]}) rfl;rw[y1,hh5] at this;exact this
 have e1:h5.IsTupleIter s1.heap.objs.size t 0:=by rw[←hh5];exact⟨_,Ad _ (Am _ rfl),rfl,rfl⟩
 have I2:Inv X pins σ H1 {s1 with heap:=h5}:=I1.kept (t':=s1.toks) k5
 have fp:∀c,s1.heap.objs.size≤c→HS X pins H1 c:=λc hc=>I1.fpOk hc (I1.hok.fresh hc);show _∧_;rw[y1];refine⟨⟨_,e5,rfl⟩,DJ e5 ?_⟩;refine⟨_,_,_,_,H1,rfl,I2,Ym t _ _ (C1 (Cc _)),⟨⟨_,e5⟩,e1⟩,λc hc=>fp c ?_,q⟩;simp only[Ak,AC,or_false] at hc;rcases hc with rfl | rfl
 · exact CW _
 · exact Ag _
theorem XS{g:TG}{tb:TS}{D:Ends}(Pv:Nat→St→Hp→Prop)(h0:Pv 0 σ H)(hl:∀i σ H,i≤xs.length→Pv i σ H→SqT K H a xs)
 (hs:∀i x q σ H,xs[i]?=some x→H q=none→Pv i σ H→g (.ref q) σ (HI H q (.tup [.int i,x])) λσ2 H2=>tb {D with nx:=Pv (i+1),ct:=Pv (i+1),bk:=D.nx} σ2 H2) (hd:∀σ H,Pv xs.length σ H→D.nx σ H):
 ∃W:Nat→Nat→St→Hp→Prop,(∃m,W 0 m σ H)∧∀i m σ H,W i m σ H→
  ((K7 K a).stop i H∧D.nx σ H)∨((K7 K a).go i H∧∃N:St→Hp→Prop,(∀σ' H',N σ' H'→∃m',m'<m∧W (i+1) m' σ' H')∧∀x H',(K7 K a).yld i H x H'→g x σ H' λσ2 H2=>tb {D with nx:=N,ct:=N,bk:=D.nx} σ2 H2):=by
 refine⟨λi m σ H=>m=xs.length - i∧i≤xs.length∧Pv i σ H,⟨xs.length,by simp,Br _,h0⟩,?_⟩;rintro i m σ H ⟨rfl,hi,p⟩;have q:=hl i σ H hi p;by_cases hlt:i<xs.length
 · have e1:xs[i]?=some (xs[i]'hlt):=by simp
   refine .inr ⟨⟨xs,_,q,e1⟩,Pv (i+1),λσ' H' p'=>⟨xs.length - (i+1),by omega,rfl,hlt,p'⟩,λx H' y=>?_⟩;obtain⟨c,rfl,hc,y⟩:=y;rw[y xs _ q e1];exact hs i _ c σ H e1 hc p
 · have e:i=xs.length:=by omega
   subst e;exact .inl ⟨⟨xs,q,Ag _⟩,hd σ H p⟩
def below(s t:IE):List IE:=match t.1 with
 | none=>[]
 | some l=>if s.1=some l then [] else [(s.1,some (l - 1))]
def above(s t:IE):List IE:=match t.2 with
 | none=>[]
 | some h=>if s.2=some h then [] else [(some (h+1),s.2)]
def Jw(s t:IE):List IE:=below s t++above s t
structure Within(s t:IE):Prop where
 lo:∀l,s.1=some l→∃k,t.1=some k∧l≤k
 hi:∀h,s.2=some h→∃k,t.2=some k∧k≤h
 le:IY t.1 t.2=true
theorem Tl{s t r:IE}(W:Within s t)(hr:r∈Jw s t){n:Int}(h:Im r.1 r.2 n=true):Im s.1 s.2 n=true∧Im t.1 t.2 n=false:=by
 obtain⟨a,b⟩:=s;obtain⟨c,d⟩:=t;obtain⟨w1,w2,w3⟩:=W;unfold Jw below above at hr;rcases Aw.mp hr with z | z
 · cases c with
   | none=>simp at z
   | some l=>
    by_cases e:a=some l
    · simp[e] at z
    · simp[e] at z;subst z;cases a with
      | none=>
       cases b with
       | none=>cases d<;>simp[Im,Jb,Jd] at h ⊢ <;>omega
       | some b=> obtain⟨k,hk,hk2⟩:=w2 b rfl;simp at hk;subst hk;simp[Im,Jb,Jd,IY] at h w3 ⊢;omega
      | some a=>
       obtain⟨k0,hk0,hk02⟩:=w1 a rfl;simp at hk0;subst hk0;cases b with
       | none=>cases d<;>simp[Im,Jb,Jd] at h ⊢ <;>omega
       | some b=> obtain⟨k,hk,hk2⟩:=w2 b rfl;simp at hk;subst hk;simp[Im,Jb,Jd,IY] at h w3 ⊢;omega
 · cases d with
   | none=>simp at z
   | some u=>
    by_cases e:b=some u
    · simp[e] at z
    · simp[e] at z;subst z;cases b with
      | none=>
       cases a with
       | none=>cases c<;>simp[Im,Jb,Jd] at h ⊢ <;>omega
       | some a=> obtain⟨k,hk,hk2⟩:=w1 a rfl;simp at hk;subst hk;simp[Im,Jb,Jd,IY] at h w3 ⊢;omega
      | some b=>
       obtain⟨k0,hk0,hk02⟩:=w2 b rfl;simp at hk0;subst hk0;cases a with
       | none=>cases c<;>simp[Im,Jb,Jd] at h ⊢ <;>omega
       | some a=> obtain⟨k,hk,hk2⟩:=w1 a rfl;simp at hk;subst hk;simp[Im,Jb,Jd,IY] at h w3 ⊢;omega
theorem Xj{s t:IE}(W:Within s t){n:Int}(h:Im s.1 s.2 n=true)(h':Im t.1 t.2 n=false):∃r∈Jw s t,Im r.1 r.2 n=true:=by
 obtain⟨a,b⟩:=s;obtain⟨c,d⟩:=t;obtain⟨w1,w2,w3⟩:=W;unfold Jw below above;have:Jb c n=false∨Jd d n=false:=by
  unfold Im at h';cases e:Jb c n with
  | false=>exact .inl rfl
  | true=>rw[e] at h';exact .inr h'
 have ha:Jb a n=true:=((A8 _ _).mp h).1;have hb:Jd b n=true:=((A8 _ _).mp h).2;rcases this with z | z
 · cases c with
   | none=>simp[Jb] at z
   | some l=>
    have e:a≠some l:=λe=>by rw[e] at ha;rw[ha] at z;cases z
    refine⟨(a,some (l - 1)),Bn _ (by simp[e]),?_⟩;unfold Im;rw[ha];simp[Jb,Jd] at z ⊢;omega
 · cases d with
   | none=>simp[Jd] at z
   | some u=>
    have e:b≠some u:=λe=>by rw[e] at hb;rw[hb] at z;cases z
    refine⟨(some (u+1),b),An _ (by simp[e]),?_⟩;unfold Im;rw[hb];simp[Jb,Jd] at z ⊢;omega
theorem Xi{s t r:IE}(W:Within s t)(hr:r∈Jw s t):IY r.1 r.2=true:=by
 obtain⟨a,b⟩:=s;obtain⟨c,d⟩:=t;obtain⟨w1,w2,w3⟩:=W;unfold Jw below above at hr;rcases Aw.mp hr with z | z
 · cases c with
   | none=>simp at z
   | some l=>
    by_cases e:a=some l
    · simp[e] at z
    · simp[e] at z;subst z;cases a with
      | none=>rfl
      | some a=> obtain⟨k0,hk0,hk02⟩:=w1 a rfl;simp at hk0 e;subst hk0;simp[IY];omega
 · cases d with
   | none=>simp at z
   | some u=>
    by_cases e:b=some u
    · simp[e] at z
    · simp[e] at z;subst z;cases b with
      | none=>rfl
      | some b=> obtain⟨k0,hk0,hk02⟩:=w2 b rfl;simp at hk0 e;subst hk0;simp[IY];omega
theorem MF(s t:IE):(Jw s t).length≤2:=by
 obtain⟨a,b⟩:=s;obtain⟨c,d⟩:=t;unfold Jw below above;rw[A5];have h1:(match c with | none=>([]:List IE) | some l=>if a=some l then [] else [(a,some (l - 1))]).length≤1:=by
  cases c with
  | none=>simp
  | some l=>by_cases e:a=some l<;>simp[e]
 have h2:(match d with | none=>([]:List IE) | some h=>if b=some h then [] else [(some (h+1),b)]).length≤1:=by
  cases d with
  | none=>simp
  | some l=>by_cases e:b=some l<;>simp[e]
 exact Nat.add_le_add h1 h2
theorem Yq{s u:IE}(h:IN (Jm s.1 u.1) (Jn s.2 u.2)=false):Within s (Jm s.1 u.1,Jn s.2 u.2):=by
 obtain⟨a,b⟩:=s;obtain⟨c,d⟩:=u;refine⟨λl e=>?_,λl e=>?_,by rw[Ti,h];rfl⟩
 · have e:a=some l:=e;subst e;cases c with
   | none=>exact⟨l,rfl,Ez _⟩
   | some c=>exact⟨_,rfl,by split<;>omega⟩
 · have e:b=some l:=e;subst e;cases d with
   | none=>exact⟨l,rfl,Ez _⟩
   | some c=>exact⟨_,rfl,by split<;>omega⟩
theorem Zp{s:IE}(h:IY s.1 s.2=true):Within s s:=⟨λl e=>⟨l,e,Ez _⟩,λl e=>⟨l,e,Ez _⟩,h⟩
theorem Ml:∀(b a:List Str),a.Pairwise Ix→b.Pairwise Ix→(∀x∈a,x∈b)→a.Sublist b
 | [],a,_,_,h=>by
  cases a with
  | nil=>exact .slnil
  | cons x a=>exact absurd (h x AA) (by simp)
 | y::b,a,ha,hb,h=>by
  rw[BU] at hb;cases a with
  | nil=>exact List.nil_sublist _
  | cons x a=>
   have ha':=ha;rw[BU] at ha;rcases Ak.mp (h x AA) with e | e
   · subst e;refine List.Sublist.cons₂ _ (Ml b a ha.2 hb.2 λz hz=>?_);rcases Ak.mp (h z (AB _ hz)) with e | e
     · exact absurd e.symm (KP (ha.1 z hz))
     · exact e
   · refine List.Sublist.cons _ (Ml b (x::a) ha' hb.2 λz hz=>?_);have lt:Ix y z:=by
      rcases Ak.mp hz with rfl | hz
      · exact hb.1 _ e
      · exact NT (hb.1 _ e) (ha.1 z hz)
     rcases Ak.mp (h z hz) with e2 | e2
     · exact absurd e2.symm (KP lt)
     · exact e2
theorem Y9{w o m m':List WP}(h:IsMet w o m)(h':IsMet w o m'):m=m':=SL h.asc h'.asc λf=>by rw[h.sp,h'.sp]
theorem Mq{w:List WP}{f:Str}{s:IE}(h:HZ w f=some s):f∈w.map (·.1):=by obtain⟨p,hp,e,_⟩:=K3 h;exact e ▸ A3 hp
theorem MG{w:List WP}{f:Str}(h:f∈w.map (·.1)):∃s,HZ w f=some s:=SI h
theorem Oa{w o m:List WP}(kw:WOk w)(h:IsMet w o m)(hl:m.length≤w.length):m.map (·.1)=w.map (·.1):=by
 have sub:(w.map (·.1)).Sublist (m.map (·.1)):=Ml _ _ kw.asc h.asc λf hf=>by
  obtain⟨s,hs⟩:=MG hf;have:=h.sp f;rw[hs] at this;cases e:HZ o f with
  | none=>rw[e] at this;exact Mq this
  | some u=>rw[e] at this;exact Mq this
 exact(sub.eq_of_length_le (by simpa using hl)).symm
theorem Xo{w o m:List WP}(h:IsMet w o m)(hw:(w.map (·.1)).Pairwise Ix)(hl:w.length<m.length):∃f∈o.map (·.1),f ∉ w.map (·.1):=by
 by_cases c:∃f∈m.map (·.1),f ∉ w.map (·.1)
 · obtain⟨f,h1,h2⟩:=c;obtain⟨s,hs⟩:=MG h1;have hf:=h.sp f;rw[hs] at hf;cases e:HZ w f with
   | some t=>exact absurd (Mq e) h2
   | none=> rw[e] at hf;exact⟨f,Mq hf.symm,h2⟩
 · have sub:=Ml (w.map (·.1)) (m.map (·.1)) h.asc hw λf hf=>by
    by_cases z:f∈w.map (·.1)
    · exact z
    · exact absurd ⟨f,hf,z⟩ c
   have:=sub.length_le;simp at this;omega
def Jp(w m:List WP)(i:Nat):List (List WP):=match w[i]?,m[i]? with
 | some p,some q=>(Jw p.2 q.2).map λr=>m.take i++[(p.1,r)]++w.drop (i+1)
 | _,_=>[]
def Mo(w m:List WP):List (List WP):=(Bc w.length).flatMap (Jp w m)
open Classical in
noncomputable def IJ(w o:List WP):List WP:=if h:∃m,IsMet w o m then Classical.choose h else []
theorem ME{w o m:List WP}(h:IsMet w o m):IJ w o=m:=by unfold IJ;rw[dif_pos ⟨m,h⟩];exact Y9 (Classical.choose_spec (⟨m,h⟩:∃m,IsMet w o m)) h
noncomputable def one(w o:List WP):List (List WP):=if JO w o=true then [w] else if w.length<(IJ w o).length then [w] else Mo w (IJ w o)
structure OneOk(w o:List WP)(ps:List (List WP)):Prop where
 ok:∀p∈ps,WOk p∧p.map (·.1)=w.map (·.1)
 sound:∀p∈ps,∀P,HV p P=true→HV w P=true∧(P.map (·.1)=w.map (·.1)→HV o P=false)
 full:∀P,HV w P=true→(∃p∈ps,HV p P=true)∨HV o P=true
 len:ps.length≤2*w.length+1
theorem Ka(a b:List WP)(P:List PP):HV (a++b) P=(HV a P && HV b P):=FD
theorem Lu(p:WP)(P:List PP):HV [p] P=JP P p:=by unfold HV;simp
theorem XN{P:List PP}{f:Str}{n:Int}(h:IU P f=some n):f∈P.map (·.1):=by
 unfold IU at h;cases e:P.find? (λx=>decide (x.1=f)) with
 | none=>rw[e] at h;cases h
 | some x=> have:decide (x.1=f)=true:=FB (p:=λ(x:PP)=>decide (x.1=f)) e;exact(of_decide_eq_true this) ▸ A3 (D3 e)
theorem takesP_iff{P:List PP}{p:WP}:JP P p=true↔∃n,IU P p.1=some n∧Im p.2.1 p.2.2 n=true:=by
 cases e:IU P p.1 with
 | none=>rw[Uk e];simp
 | some n=>rw[N_ e];simp
theorem TC{w o:List WP}(kw:WOk w)(ko:WOk o)(h:JO w o=true):OneOk w o [w]:=by
 refine⟨λp hp=>?_,λp hp P t=>?_,λP t=> .inl ⟨w,by simp,t⟩,by simp⟩
 · rw[Ae.mp hp];exact⟨kw,rfl⟩
 · rw[Ae.mp hp] at t;refine⟨t,λ_=>?_⟩;cases e:HV o P with
   | false=>rfl
   | true=>
    obtain⟨y,hy,ha⟩:=Ct.mp h;unfold M3 at ha;cases e1:HZ w y.1 with
    | none=>rw[e1] at ha;cases ha
    | some s=> rw[e1] at ha;obtain⟨n,n1,n2⟩:=(MD kw.asc P).mp t y.1 s e1;obtain⟨n',n1',n2'⟩:=takesP_iff.mp (A9.mp e y hy);rw[n1] at n1';cases n1';have:=Wc ha n;rw[Mz,n2,n2'] at this;cases this
theorem Su{w o m:List WP}(kw:WOk w)(ko:WOk o)(h:IsMet w o m)(hl:w.length<m.length):OneOk w o [w]:=by
 refine⟨λp hp=>?_,λp hp P t=>?_,λP t=> .inl ⟨w,by simp,t⟩,by simp⟩
 · rw[Ae.mp hp];exact⟨kw,rfl⟩
 · rw[Ae.mp hp] at t;refine⟨t,λhf=>?_⟩;cases e:HV o P with
   | false=>rfl
   | true=> obtain⟨f,f1,f2⟩:=Xo h kw.asc hl;obtain⟨s,hs⟩:=MG f1;obtain⟨n,n1,_⟩:=(MD ko.asc P).mp e f s hs;exact absurd (hf ▸ XN n1) f2
section
variable{w o m:List WP}
theorem KQ(kw:WOk w)(ko:WOk o)(h:IsMet w o m)(ap:JO w o=false)(hf:m.map (·.1)=w.map (·.1)){p q:WP}(hp:w[i]?=some p)(hq:m[i]?=some q):q.1=p.1∧Within p.2 q.2∧(∀n,Im q.2.1 q.2.2 n=true→Im p.2.1 p.2.2 n=true):=by
 have e1:q.1=p.1:=by
  have h1:(m.map (·.1))[i]?=some q.1:=by rw[Af,hq];rfl
  have h2:(w.map (·.1))[i]?=some p.1:=by rw[Af,hp];rfl
  rw[hf,h2] at h1;exact(Az h1).symm
 have mp:=Aj hp;have s1:=KG kw.asc mp;have s2:=KG h.asc (Aj hq);rw[h.sp,e1,s1] at s2;refine⟨e1,?_⟩;cases e:HZ o p.1 with
 | none=> rw[e] at s2;have:p.2=q.2:=Az s2;rw[←this];exact⟨Zp (kw.ok p mp).2,λn z=>z⟩
 | some u=>
  rw[e] at s2;have:(Jm p.2.1 u.1,Jn p.2.2 u.2)=q.2:=Az s2;rw[←this];obtain⟨y,hy,y1,y2⟩:=K3 e;have na:IN (Jm p.2.1 u.1) (Jn p.2.2 u.2)=false:=by
   cases e2:IN (Jm p.2.1 u.1) (Jn p.2.2 u.2) with
   | false=>rfl
   | true=> have:JO w o=true:=Ct.mpr ⟨y,hy,by unfold M3;rw[y1,s1,y2];exact e2⟩;rw[ap] at this;cases this
  refine⟨Yq na,λn z=>?_⟩;rw[Mz] at z;exact((A8 _ _).mp z).1
theorem Yi(kw:WOk w)(ko:WOk o)(h:IsMet w o m)(ap:JO w o=false)(hf:m.map (·.1)=w.map (·.1))(i:Nat){P:List PP}(t:HV (m.take i) P=true):HV (w.take i) P=true:=by
 have hl:m.length=w.length:=by have:=congrArg Bi hf;simpa using this
 refine A9.mpr λx hx=>?_;obtain⟨j,hj,e⟩:=Gx hx;rw[A7] at hj;have hp:w[j]?=some x:=by rw[←e,List.getElem_take,Av]
 have hq:m[j]?=some (m[j]'(by omega)):=Av _;obtain⟨e1,_,e3⟩:=KQ kw ko h ap hf hp hq;have:=A9.mp t (m[j]'(by omega)) (by rw[List.mem_take_iff_getElem];exact⟨j,by omega,rfl⟩);obtain⟨n,n1,n2⟩:=takesP_iff.mp this;exact takesP_iff.mpr ⟨n,by rw[←e1];exact n1,e3 n n2⟩
theorem SJ{w:List WP}{p:WP}(hp:w[i]?=some p)(P:List PP):HV w P=(HV (w.take i) P && (JP P p && HV (w.drop (i+1)) P)):=by
 have e:w=w.take i++([p]++w.drop (i+1)):=by have h1:=(FZ i w).symm;obtain⟨hi,e⟩:=Al.mp hp;rw[CU hi,e] at h1;exact h1
 conv=>lhs;rw[e]
 rw[Ka,Ka,Lu]
theorem TD(kw:WOk w)(ko:WOk o)(h:IsMet w o m)(ap:JO w o=false)(hl:m.length≤w.length):OneOk w o (Mo w m):=by
 have hf:=Oa kw h hl;have hl':m.length=w.length:=by have:=congrArg Bi hf;simpa using this
 have mem:∀p∈Mo w m,∃i q r s,w[i]?=some q∧m[i]?=some r∧s∈Jw q.2 r.2∧p=m.take i++[(q.1,s)]++w.drop (i+1):=λp hp=>by
  obtain⟨i,hi,z⟩:=Cd.mp hp;have hi:=CH.mp hi;have e1:w[i]?=some w[i]:=by simp
  have e2:m[i]?=some (m[i]'(by omega)):=Av _;unfold Jp at z;rw[e1,e2] at z;obtain⟨s,hs,rfl⟩:=Ay.mp z;exact⟨i,_,_,s,e1,e2,hs,rfl⟩
 refine⟨λp hp=>?_,λp hp P t=>?_,λP t=>?_,?_⟩
 · obtain⟨i,q,r,s,e1,e2,hs,rfl⟩:=mem p hp;obtain⟨m1,m2,m3⟩:=KQ kw ko h ap hf e1 e2;have li:=(Al.mp e1).1;have fe:((m.take i++[(q.1,s)]++w.drop (i+1)).map (·.1))=w.map (·.1):=by
    rw[Ah,Ah,Df,hf,←Df];have:w=w.take i++([q]++w.drop (i+1)):=by have h1:=(FZ i w).symm;rw[CU li,(Al.mp e1).2] at h1;exact h1
    conv=>rhs;rw[this]
    simp
   refine⟨⟨by have:=congrArg Bi fe;simp only[Ab] at this;rw[this];exact kw.len,λx hx=>?_,by rw[fe];exact kw.asc⟩,fe⟩;rcases Aw.mp hx with z | z
   · rcases Aw.mp z with z | z
     · have fx:x.1∈w.map (·.1):=by rw[←hf];exact A3 (AJ z)
       obtain⟨y,hy,ey⟩:=Ay.mp fx;obtain⟨j,hj,e⟩:=Gx z;rw[A7] at hj;have hq:m[j]?=some x:=by rw[←e,List.getElem_take,Av]
       have hp':w[j]?=some (w[j]'(by omega)):=Av _;obtain⟨e1',e2',_⟩:=KQ kw ko h ap hf hp' hq;exact⟨ey ▸ (kw.ok y hy).1,e2'.le⟩
     · rw[Ae.mp z];exact⟨(kw.ok q (Aj e1)).1,Xi m2 hs⟩
   · exact kw.ok x (Dp z)
 · obtain⟨i,q,r,s,e1,e2,hs,rfl⟩:=mem p hp;obtain⟨m1,m2,m3⟩:=KQ kw ko h ap hf e1 e2;rw[Ka,Ka,Lu,A8,A8] at t;obtain⟨⟨t1,t2⟩,t3⟩:=t;obtain⟨n,n1,n2⟩:=takesP_iff.mp t2;obtain⟨b1,b2⟩:=Tl m2 hs n2;have tw:HV w P=true:=by
    rw[SJ e1,Yi kw ko h ap hf i t1,t3,(takesP_iff (p:=q)).mpr ⟨n,n1,b1⟩];rfl
   refine⟨tw,λ_=>?_⟩;cases e:HV o P with
   | false=>rfl
   | true=> have tm:=T7 kw.asc ko.asc h P;rw[tw,e] at tm;have:=A9.mp tm r (Aj e2);obtain⟨n',n1',n2'⟩:=takesP_iff.mp this;rw[m1,n1] at n1';cases n1';rw[b2] at n2';cases n2'
 · have key:∀k,k≤w.length→HV (m.take k) P=true∨∃p∈Mo w m,HV p P=true:=by
    intro k
    induction k with
    | zero=>intro _;exact .inl rfl
    | succ k ih=>
     intro hk;rcases ih (by omega) with z | z
     · have e1:w[k]?=some (w[k]'(by omega)):=Av _;have e2:m[k]?=some (m[k]'(by omega)):=Av _;generalize w[k]'(by omega)=q at e1;generalize m[k]'(by omega)=r at e2;obtain⟨m1,m2,m3⟩:=KQ kw ko h ap hf e1 e2;have ts:=t;rw[SJ e1,A8,A8] at ts;obtain⟨_,tq,td⟩:=ts;obtain⟨n,n1,n2⟩:=takesP_iff.mp tq;cases c:Im r.2.1 r.2.2 n with
       | true=> refine .inl ?_;rw[IB e2,Ka,z,Lu,takesP_iff.mpr ⟨n,by rw[m1];exact n1,c⟩];rfl
       | false=>
        obtain⟨s,hs,hn⟩:=Xj m2 n2 c;refine .inr ⟨m.take k++[(q.1,s)]++w.drop (k+1),?_,?_⟩
        · refine Cd.mpr ⟨k,CH.mpr (by omega),?_⟩;unfold Jp;rw[e1,e2];exact A3 hs
        · rw[Ka,Ka,Lu,z,td,(takesP_iff (p:=(q.1,s))).mpr ⟨n,n1,hn⟩];rfl
     · exact .inr z
   rcases key w.length (Ag _) with z | z
   · right
     rw[Ar (by omega)] at z;have tm:=T7 kw.asc ko.asc h P;rw[z] at tm;exact((A8 _ _).mp tm.symm).2
   · exact .inl z
 · have:∀l:List Nat,(l.flatMap (Jp w m)).length≤2*l.length:=λl=>by
    induction l with
    | nil=>simp
    | cons i l ih=>
     rw[CC,A5,AF];have:(Jp w m i).length≤2:=by
      unfold Jp
      split
      · rw[Ab];exact MF _ _
      · simp
     omega
   have:=this (Bc w.length);rw[CB] at this;exact Nat.le_succ_of_le this
end
theorem VV{w o:List WP}(kw:WOk w)(ko:WOk o)(hm:JO w o=false→IsMet w o (IJ w o)):OneOk w o (one w o):=by
 unfold one;cases ap:JO w o with
 | true=>rw[if_pos rfl];exact TC kw ko ap
 | false=>
  rw[if_neg (by simp)];by_cases hl:w.length<(IJ w o).length
  · rw[if_pos hl];exact Su kw ko (hm ap) hl
  · rw[if_neg hl];exact TD kw ko (hm ap) ap (by omega)
theorem OY{w o:List WP}(kw:WOk w)(ko:WOk o):∃m,IsMet w o m:=by
 have:∀(l acc:List Str),(acc.Pairwise Ix)→∃ms:List Str,ms.Pairwise Ix∧(∀f,f∈ms↔f∈l∨f∈acc)∧ms.length≤l.length+acc.length:=λl=>by
  induction l with
  | nil=>exact λacc h=>⟨acc,h,λf=>by simp,by simp⟩
  | cons x l ih=>
   intro acc h;by_cases hx:x∈acc
   · obtain⟨ms,m1,m2,m3⟩:=ih acc h;refine⟨ms,m1,λf=>?_,by rw[AF];omega⟩;rw[m2,Ak];constructor
     · rintro(z | z)
       · exact .inl (.inr z)
       · exact .inr z
     · rintro((z | z) | z)
       · subst z;exact .inr hx
       · exact .inl z
       · exact .inr z
   · have ins:∀acc:List Str,acc.Pairwise Ix→x ∉ acc→∃bs:List Str,bs.Pairwise Ix∧(∀f,f∈bs↔f=x∨f∈acc)∧bs.length=acc.length+1:=λacc=>by
      induction acc with
      | nil=>exact λ_ _=>⟨[x],by simp,λf=>by simp,rfl⟩
      | cons y acc ih2=>
       intro h2 n2;rw[BU] at h2;have nx:x≠y:=λe=>n2 (by rw[e];exact AA);by_cases lt:Ix x y
       · refine⟨x::y::acc,?_,λf=>by simp[Ak],rfl⟩;rw[BU,BU];refine⟨λz hz=>?_,h2⟩;rcases Ak.mp hz with rfl | hz
         · exact lt
         · exact NT lt (h2.1 z hz)
       · obtain⟨bs,b1,b2,b3⟩:=ih2 h2.2 λz=>n2 (AB _ z);refine⟨y::bs,?_,λf=>?_,by rw[AF,AF,b3]⟩
         · rw[BU];refine⟨λz hz=>?_,b1⟩;rcases(b2 z).mp hz with rfl | hz
           · exact Sa lt nx
           · exact h2.1 z hz
         · rw[Ak,b2,Ak];constructor
           · rintro(z | z | z)
             · exact .inr (.inl z)
             · exact .inl z
             · exact .inr (.inr z)
           · rintro(z | z | z)
             · exact .inr (.inl z)
             · exact .inl z
             · exact .inr (.inr z)
     obtain⟨bs,b1,b2,b3⟩:=ins acc h hx;obtain⟨ms,m1,m2,m3⟩:=ih bs b1;refine⟨ms,m1,λf=>?_,by rw[AF];omega⟩;rw[m2,b2,Ak];constructor
     · rintro(z | z | z)
       · exact .inl (.inr z)
       · exact .inl (.inl z)
       · exact .inr z
     · rintro((z | z) | z)
       · exact .inr (.inl z)
       · exact .inl z
       · exact .inr (.inr z)
 obtain⟨ms,m1,m2,m3⟩:=this (w.map (·.1)) (o.map (·.1)) ko.asc;refine⟨KA w o ms,SU m1 (λf=>?_) (by simpa using m3)⟩;rw[m2];constructor
 · rintro(z | z)
   · obtain⟨s,hs⟩:=MG z;rw[hs];cases HZ o f<;>rfl
   · obtain⟨s,hs⟩:=MG z;rw[hs];cases HZ w f<;>rfl
 · intro h;cases e1:HZ w f with
   | some s=>exact .inl (Mq e1)
   | none=>
    cases e2:HZ o f with
    | some s=>exact .inr (Mq e2)
    | none=>rw[e1,e2] at h;cases h
theorem Pa{w o:List WP}(kw:WOk w)(ko:WOk o):OneOk w o (one w o):=by obtain⟨m,hm⟩:=OY kw ko;exact VV kw ko λ_=>by rw[ME hm];exact hm
noncomputable def HM(w:List WP)(os:List (List WP)):List (List WP):=os.foldl (λps o=>ps.flatMap λp=>one p o) [w]
theorem MO(w:List WP)(os:List (List WP))(o:List WP):HM w (os++[o])=(HM w os).flatMap λp=>one p o:=by unfold HM;rw[EX];rfl
structure AllOk(w:List WP)(os:List (List WP))(ps:List (List WP)):Prop where
 ok:∀p∈ps,WOk p∧p.map (·.1)=w.map (·.1)
 sound:∀p∈ps,∀P,HV p P=true→HV w P=true∧(P.map (·.1)=w.map (·.1)→∀o∈os,HV o P=false)
 full:∀P,HV w P=true→(∃p∈ps,HV p P=true)∨∃o∈os,HV o P=true
 len:ps.length≤7^os.length
theorem all_nil{w:List WP}(kw:WOk w):AllOk w [] [w]:=
 ⟨λp hp=>by rw[Ae.mp hp];exact⟨kw,rfl⟩,λp hp P t=>by rw[Ae.mp hp] at t;exact⟨t,λ_ o ho=>by simp at ho⟩,λP t=> .inl ⟨w,by simp,t⟩,by simp⟩
theorem Sd{w o:List WP}{os ps:List (List WP)}{f:List WP→List (List WP)}(h:AllOk w os ps)(hw:w.length≤3)(hf:∀p∈ps,OneOk p o (f p)):AllOk w (os++[o]) (ps.flatMap f):=by
 have lp:∀p∈ps,p.length=w.length:=λp hp=>by have:=congrArg Bi (h.ok p hp).2;simpa using this
 refine⟨λp hp=>?_,λp hp P t=>?_,λP t=>?_,?_⟩
 · obtain⟨q,hq,hp⟩:=Cd.mp hp;obtain⟨a,b⟩:=(hf q hq).ok p hp;exact⟨a,b.trans (h.ok q hq).2⟩
 · obtain⟨q,hq,hp⟩:=Cd.mp hp;obtain⟨a,b⟩:=(hf q hq).sound p hp P t;obtain⟨c,d⟩:=h.sound q hq P a;refine⟨c,λe o' ho'=>?_⟩;rcases Aw.mp ho' with z | z
   · exact d e o' z
   · rw[Ae.mp z];exact b (e.trans (h.ok q hq).2.symm)
 · rcases h.full P t with⟨q,hq,tq⟩ | ⟨o',ho',t'⟩
   · rcases(hf q hq).full P tq with⟨p,hp,tp⟩ | z
     · exact .inl ⟨p,Cd.mpr ⟨q,hq,hp⟩,tp⟩
     · exact .inr ⟨o,An _ (by simp),z⟩
   · exact .inr ⟨o',Bn _ ho',t'⟩
 · have:∀l:List (List WP),(∀p∈l,(f p).length≤7)→(l.flatMap f).length≤7*l.length:=λl hl=>by
    induction l with
    | nil=>simp
    | cons i l ih=> rw[CC,A5,AF];have h1:=hl i AA;have h2:=ih λp hp=>hl p (AB _ hp);omega
   have h1:=this ps λp hp=>by have h1:=(hf p hp).len;have h2:=lp p hp;omega
   rw[A5,DZ,Nat.pow_succ];have:=h.len;omega
def LU(H:Hp)(r:Addr)(ps:List (List WP)):Prop:=∃qs:List (Addr×List WP),qs.map (·.2)=ps∧H r=some (.lst (qs.map λq=>V.ref q.1))∧∀q∈qs,WishAt H q.1 q.2
def Uu:Sp:=λvs H Q _=>∃(v w:V)(s t:IE),vs=[v,w]∧SpanAt H v s.1 s.2∧SpanAt H w t.1 t.2∧Within s t∧∀(r:Addr)(ss:List (Addr×IE))(H':Hp),H r=none→Same H H'→ss.map (·.2)=Jw s t→H' r=some (.lst (ss.map λx=>V.ref x.1))→(∀x∈ss,H' x.1=some (.tup [eV x.2.1,eV x.2.2]))→Q (.ref r) H'
def Ua:Sp:=λvs H Q _=>∃(a b:Addr)(w o:List WP),vs=[.ref a,.ref b]∧WishAt H a w∧WishAt H b o∧WOk w∧WOk o∧w.length≤6∧o.length≤6∧
 ∀(r:Addr)(H':Hp),H r=none→Same H H'→LU H' r (one w o)→OneOk w o (one w o)→Q (.ref r) H'
def Sk:Sp:=λvs H Q _=>∃(a l:Addr)(w:List WP)(os:List (Addr×List WP)),vs=[.ref a,.ref l]∧WishAt H a w∧WOk w∧w.length≤3∧WsAt H l os∧os.length≤7∧(∀x∈os,x.2.length≤6)∧
 ∀(r:Addr)(H':Hp),Same H H'→LU H' r (HM w (os.map (·.2)))→AllOk w (os.map (·.2)) (HM w (os.map (·.2)))→Q (.ref r) H'
def T_:Sp:=λvs H Q _=>∃(l:Addr)(ws:List (Addr×List WP))(fs:List Str),vs=[.ref l]∧WsAt H l ws∧fs.length≤6∧(∀x∈ws,Nq fs x.2)∧
 ∀(r:Addr)(ms:List Str)(H':Hp),Same H H'→H r=none→H' r=some (.lst (ms.map V.str))→ms.Nodup→sortedS ms=true→(∀f,f∈ms↔∃x∈ws,f∈x.2.map (·.1))→Q (.ref r) H'
def Rb:Sp:=λvs H Q _=>∃(l f:Addr)(xs ys:List V),vs=[.ref l,.ref f]∧H l=some (.lst xs)∧H f=some (.lst ys)∧xs.length≤7∧ys.length≤3∧Q .non H
theorem Pi{ms fs:List Str}(hn:ms.Nodup)(hs:∀x∈ms,x∈fs):ms.length≤fs.length:=by
 induction ms generalizing fs with
 | nil=>exact Br _
 | cons x a ih=>
  rw[List.nodup_cons] at hn;have hx:=hs x AA;have:=ih (fs:=fs.erase x) hn.2 λy hy=>by have ne:y≠x:=λe=>hn.1 (e ▸ hy);exact(List.mem_erase_of_ne ne).mpr (hs y (AB _ hy))
  rw[List.length_erase_of_mem hx] at this;have:=FQ hx;rw[AF];omega
theorem OZ{v:V}{A B:St→Hp→Prop}(h:A (σ.set i (some v)) H):JN i v σ H λσ2 H2=>JD σ2 H2 λb H3=>if b=true then A σ2 H3 else B σ2 H3:=by
 show(if true=true then A (σ.set i (some v)) H else B (σ.set i (some v)) H)
 exact HP h
theorem VO{A B:Hp→Prop}(h:A H):JD σ H λb H3=>if b=true then A H3 else B H3:=by
 show(if true=true then A H else B H)
 exact HP h
theorem QL(h:n≤7^7*7):n<Au:=BS h (by decide)
theorem X9{p:Addr}{Q:VK}{js:IT}{cap:St}{wi1:TI}{te:TE}(qs:List (Addr×List WP))(f:List WP→List (List WP))(hq:SqL K H a (qs.map λq=>V.ref q.1))(hp:H p=none)(hσ:Jo js σ=none::none::cap)
 (hb:∀q∈qs,(f q.2).length≤7) (hn:qs.length≤7^7) (hw:∀q∈qs,WishAt H q.1 q.2)
 (hi:∀q∈qs,∀(y:Option V)(H':Hp)(R:It→Hp→Prop),Same H H'→(∀(b:Addr)(rs:List (Addr×List WP))(H'':Hp),H' b=none→Same H' H''→H'' b=some (.lst (rs.map λx=>V.ref x.1))→rs.map (·.2)=f q.2→(∀x∈rs,WishAt H'' x.1 x.2)→R (Kv K b) H'')→wi1 (some (.ref q.1)::y::cap) H' R)
 (he:∀(u:Option V)(v:V)(H':Hp)(R:VK),R v H'→te (u::some v::cap) H' R)
 (hQ:∀(H':Hp)(zs:List (Addr×List WP)),Same H H'→zs.map (·.2)=qs.flatMap (λq=>f q.2)→H' p=some (.lst (zs.map λz=>V.ref z.1))→(∀z∈zs,WishAt H' z.1 z.2)→Q (.ref p) H'):
 OP (Kv K a) p js (JN 0) JD wi1 (JN 1) JD te σ H Q:=by
 have s0:=HU hp (.lst []);have flen:∀l:List (Addr×List WP),(∀q∈l,(f q.2).length≤7)→(l.flatMap λq=>f q.2).length≤7*l.length:=λl hl=>by
  induction l with
  | nil=>simp
  | cons x l ih=> rw[CC,A5,AF];have h1:=hl x AA;have h2:=ih λq hq=>hl q (AB _ hq);omega
 have lq:(qs.map λq=>V.ref q.1).length=qs.length:=Ab _;refine⟨λi m σ' ys H'=>m=qs.length - i∧i≤qs.length∧(∃y0 y1,σ'=y0::y1::cap)∧Same H H'∧H' p=some (.lst ys)∧∃zs:List (Addr×List WP),ys=zs.map (λz=>V.ref z.1)∧zs.map (·.2)=(qs.take i).flatMap (λq=>f q.2)∧∀z∈zs,WishAt H' z.1 z.2,⟨qs.length,by simp,Br _,⟨none,none,hσ⟩,s0,HK,[],rfl,rfl,λz hz=>by simp at hz⟩,?_⟩;rintro i m σ' ys H1 ⟨rfl,hi1,⟨y0,y1,rfl⟩,s1,e1,zs,rfl,z1,z2⟩;refine⟨e1,?_⟩;by_cases hlt:i<qs.length
 · right
   have eq:qs[i]?=some qs[i]:=by simp
   have hx:(qs.map λq=>V.ref q.1)[i]?=some (V.ref qs[i].1):=by rw[Af,eq];rfl
   have hm:=Aj eq;generalize qs[i]=q at*;refine⟨⟨_,_,s1.seq hq,hx⟩,?_⟩;rintro x H2 ⟨rfl,hx2⟩;have:some (V.ref q.1)=some x:=hx.symm.trans (hx2 _ (s1.seq hq));cases this;refine OZ ?_;refine hi q hm y1 H2 _ s1 λb rs H3 nb s3 eb rf rw'=>?_;have bp:b≠p:=λz=>by rw[z,e1] at nb;cases nb
   have e3:=s3 _ _ e1;have lr:rs.length=(f q.2).length:=by rw[←rf,Ab]
   have l1:zs.length≤7*i:=by have h1:=congrArg Bi z1;rw[Ab] at h1;rw[h1];have:=flen (qs.take i) λq hq=>hb q (AJ hq);rw[A7] at this;omega
   refine⟨λj m1 σ3 zs' H5=>m1=rs.length - j∧j≤rs.length∧(∃y1,σ3=some (.ref q.1)::y1::cap)∧Same H H5∧H5 p=some (.lst zs')∧H5 b=some (.lst (rs.map λx=>V.ref x.1))∧(∀x∈rs,WishAt H5 x.1 x.2)∧
    ∃us:List (Addr×List WP),zs'=us.map (λz=>V.ref z.1)∧us.map (·.2)=(qs.take i).flatMap (λq=>f q.2)++(f q.2).take j∧∀z∈us,WishAt H5 z.1 z.2,⟨rs.length,by simp,Br _,⟨_,rfl⟩,s1.trans s3,e3,eb,rw',zs,rfl,by rw[z1];simp,λz hz=>(z2 z hz).same s3⟩,?_⟩
   rintro j m1 σ3 zs' H5 ⟨rfl,hj,⟨y1',rfl⟩,s5,e5,b5,r5,us,rfl,u1,u2⟩;refine⟨e5,?_⟩;by_cases hjl:j<rs.length
   · right
     have er:rs[j]?=some rs[j]:=by simp
     have hy:(rs.map λx=>V.ref x.1)[j]?=some (V.ref rs[j].1):=by rw[Af,er];rfl
     have ef:(f q.2)[j]?=some rs[j].2:=by rw[←rf,Af,er];rfl
     have wr:=r5 _ (Aj er);generalize rs[j]=r at*;have lu:us.length≤7*i+j:=by have h1:=congrArg Bi u1;rw[Ab,A5,A7] at h1;have h2:=flen (qs.take i) λq hq=>hb q (AJ hq);rw[A7] at h2;omega
     have:=hb q hm;refine⟨⟨_,_,SqL.of b5,hy⟩,by rw[Ab];exact QL (by omega),?_⟩;rintro x H6 ⟨rfl,hx6⟩;have:some (V.ref r.1)=some x:=hy.symm.trans (hx6 _ (SqL.of b5));cases this;have tl:=K0 (o:= .lst (us.map (λz=>V.ref z.1)++[V.ref r.1])) e5;refine OZ ?_;refine he _ _ _ _ ⟨e5,rs.length - (j+1),by omega,rfl,hjl,⟨_,rfl⟩,Ji s5 hp,HK,by rw[Ij bp];exact b5,λx hx=>(r5 x hx).keep tl,us++[r],by rw[Ah];rfl,?_,λz hz=>?_⟩
     · rw[Ah,u1,IB ef,Ci];rfl
     · rcases Aw.mp hz with z | z
       · exact(u2 _ z).keep tl
       · rw[Ae.mp z];exact wr.keep tl
   · left
     have e:j=rs.length:=by omega
     subst e;refine⟨⟨_,SqL.of b5,by rw[Ab];exact Ag _⟩,qs.length - (i+1),by omega,rfl,hlt,⟨_,_,rfl⟩,s5,e5,us,rfl,?_,u2⟩;have et:(f q.2).take rs.length=f q.2:=Ar (by omega);rw[u1,et,IB eq,Dd];simp
 · left
   have e:i=qs.length:=by omega
   subst e;refine⟨⟨_,s1.seq hq,by rw[lq];exact Ag _⟩,hQ H1 zs s1 ?_ e1 z2⟩;rw[z1,Bb]
theorem Yg{l:Addr}{js:IT}{wi1:TI}{g1:TG}{te:TE}{M:List Str→Hp→Prop}(ws:List (Addr×List WP))(fs:List Str)(hl:SqL K H l (ws.map λq=>V.ref q.1))(hw:∀q∈ws,WishAt H q.1 q.2)(hin:∀x∈ws,Nq fs x.2)(hf:fs.length≤6)(hσ:Jo js σ=[none,none,none,none])
 (hi:∀x∈ws,∀(y1 y2 y3:Option V)(R:It→Hp→Prop),(∃xs,SqT K H x.1 xs)→R (KJ K x.1) H→wi1 [some (.ref x.1),y1,y2,y3] H R)
 (hg:∀(x0 y1 y2 y3:Option V)(p:Addr×WP)(R:St→Hp→Prop),H p.1=some (.tup [.str p.2.1,eV p.2.2.1,eV p.2.2.2])→R [x0,some (.str p.2.1),some (eV p.2.2.1),some (eV p.2.2.2)] H→g1 (.ref p.1) [x0,y1,y2,y3] H R)
 (he:∀(x0 y2 y3:Option V)(f:Str)(R:VK),R (.str f) H→te [x0,some (.str f),y2,y3] H R)
 (hM:∀ks,ks.Nodup→ks.length≤6→(∀f,f∈ks↔∃x∈ws,f∈x.2.map (·.1))→M ks H):
 OQ (Kv K l) js (JN 0) JD wi1 g1 JD te σ H M:=by
 have lq:(ws.map λq=>V.ref q.1).length=ws.length:=Ab _;have few:∀ks:List Str,ks.Nodup→(∀f,f∈ks→∃x∈ws,f∈x.2.map (·.1))→ks.length≤6:=λks nd h=>by refine AL (Pi nd λf hf'=>?_) hf;obtain⟨x,hx,hx2⟩:=h f hf';obtain⟨p,hp,rfl⟩:=Ay.mp hx2;exact hin x hx p hp
 refine⟨λi m σ' ks H'=>m=ws.length - i∧i≤ws.length∧(∃y0 y1 y2 y3,σ'=[y0,y1,y2,y3])∧H'=H∧ks.Nodup∧∀f,f∈ks↔∃x∈ws.take i,f∈x.2.map (·.1),⟨ws.length,by simp,Br _,⟨none,none,none,none,hσ⟩,rfl,List.nodup_nil,λf=>by simp⟩,?_⟩;rintro i m σ' ks H1 ⟨rfl,hi1,⟨y0,y1,y2,y3,rfl⟩,rfl,nd,mem⟩;by_cases hlt:i<ws.length
 · right
   have eq:ws[i]?=some ws[i]:=by simp
   have hx:(ws.map λq=>V.ref q.1)[i]?=some (V.ref ws[i].1):=by rw[Af,eq];rfl
   have hm:=Aj eq;generalize ws[i]=q at*;refine⟨⟨_,_,hl,hx⟩,?_⟩;rintro x H2 ⟨rfl,hx2⟩;have:some (V.ref q.1)=some x:=hx.symm.trans (hx2 _ hl);cases this;obtain⟨ps,hps,hA,hP⟩:=hw q hm;have hS:SqT K H2 q.1 (ps.map λp=>V.ref p.1):=SqT.of hA;refine OZ ?_;refine hi q hm y1 y2 y3 _ ⟨_,hS⟩ ?_;refine⟨λj m1 σ3 zs H5=>m1=ps.length - j∧j≤ps.length∧(∃y1 y2 y3,σ3=[some (.ref q.1),y1,y2,y3])∧H5=H2∧zs.Nodup∧∀f,f∈zs↔(∃x∈ws.take i,f∈x.2.map (·.1))∨f∈((ps.map (·.2)).take j).map (·.1),⟨ps.length,by simp,Br _,⟨_,_,_,rfl⟩,rfl,nd,λf=>by rw[mem];simp⟩,?_⟩;rintro j m1 σ3 zs H5 ⟨rfl,hj,⟨y1',y2',y3',rfl⟩,rfl,nd5,mem5⟩;by_cases hjl:j<ps.length
   · right
     have er:ps[j]?=some ps[j]:=by simp
     have hy:(ps.map λx=>V.ref x.1)[j]?=some (V.ref ps[j].1):=by rw[Af,er];rfl
     have hpj:=hP _ (Aj er);have ew:(ps.map (·.2))[j]?=some ps[j].2:=by rw[Af,er];rfl
     generalize ps[j]=r at*;have l6:=few zs nd5 λf hf'=>by
      rcases(mem5 f).mp hf' with⟨x,hx',z⟩ | z
      · exact⟨x,AJ hx',z⟩
      · refine⟨q,hm,?_⟩;rw[←hps];obtain⟨p,hp,rfl⟩:=Ay.mp z;exact A3 (AJ hp)
     refine⟨⟨_,_,hS,hy⟩,by omega,?_⟩;rintro x H6 ⟨rfl,hx6⟩;have:some (V.ref r.1)=some x:=hy.symm.trans (hx6 _ hS);cases this;refine hg _ _ _ _ r _ hpj ?_;refine VO ?_;refine he _ _ _ _ _ ⟨r.2.1,rfl,λzs' l' m' nd'=>⟨ps.length - (j+1),by omega,rfl,hjl,⟨_,_,_,rfl⟩,rfl,nd',λf=>?_⟩⟩;rw[m',mem5,IB ew,Ah,Aw];simp only[A0,D8,Ae];constructor
     · rintro((z | z) | z)
       · exact .inl z
       · exact .inr (.inl z)
       · exact .inr (.inr z)
     · rintro(z | z | z)
       · exact .inl (.inl z)
       · exact .inl (.inr z)
       · exact .inr z
   · left
     have e:j=ps.length:=by omega
     subst e;refine⟨⟨_,hS,by rw[Ab];exact Ag _⟩,ws.length - (i+1),by omega,rfl,hlt,⟨_,_,_,_,rfl⟩,rfl,nd5,λf=>?_⟩;have et:(ps.map (·.2)).take ps.length=ps.map (·.2):=Ar (by simp);rw[mem5,et,hps,IB eq];simp only[Aw,Ae];constructor
     · rintro(⟨x,h1,h2⟩ | h)
       · exact⟨x,.inl h1,h2⟩
       · exact⟨q,.inr rfl,h⟩
     · rintro⟨x,h1 | h1,h2⟩
       · exact .inl ⟨x,h1,h2⟩
       · subst h1;exact .inr h2
 · left
   have e:i=ws.length:=by omega
   subst e;rw[Bb] at mem;exact⟨⟨_,hl,by rw[lq];exact Ag _⟩,hM ks nd (few ks nd λf hf'=>(mem f).mp hf') mem⟩
structure OnGrid(lo sz m:Int)(s:IE):Prop where
 low:∀l,s.1=some l→∃i,0≤i∧i<m∧l=lo+sz*i
 high:∀h,s.2=some h→∃j,0≤j∧j<m∧h=lo+sz*j - 1
def I_(lo sz m:Int)(w:List WP):Prop:=∀p∈w,OnGrid lo sz m p.2
section
variable{lo sz m:Int}
theorem YI{s t r:IE}(hs:OnGrid lo sz m s)(ht:OnGrid lo sz m t)(hr:r∈Jw s t):OnGrid lo sz m r:=by
 obtain⟨a,b⟩:=s;obtain⟨c,d⟩:=t;unfold Jw below above at hr;rcases Aw.mp hr with z | z
 · cases c with
   | none=>simp at z
   | some l=>
    by_cases e:a=some l
    · simp[e] at z
    · simp[e] at z;subst z;refine⟨hs.low,λh e=>?_⟩;obtain⟨i,i0,i1,ei⟩:=ht.low l rfl;cases e;exact⟨i,i0,i1,by omega⟩
 · cases d with
   | none=>simp at z
   | some u=>
    by_cases e:b=some u
    · simp[e] at z
    · simp[e] at z;subst z;refine⟨λl e=>?_,hs.high⟩;obtain⟨j,j0,j1,ej⟩:=ht.high u rfl;cases e;exact⟨j,j0,j1,by omega⟩
theorem XT{s t:IE}(hs:OnGrid lo sz m s)(ht:OnGrid lo sz m t):OnGrid lo sz m (Jm s.1 t.1,Jn s.2 t.2):=by
 obtain⟨a,b⟩:=s;obtain⟨c,d⟩:=t;refine⟨λl e=>?_,λh e=>?_⟩
 · cases a with
   | none=>exact ht.low l e
   | some a=>
    cases c with
    | none=>exact hs.low l e
    | some c=>
     by_cases q:a<c
     · simp only[Jm,if_pos q] at e;exact ht.low l e
     · simp only[Jm,if_neg q] at e;exact hs.low l e
 · cases b with
   | none=>exact ht.high h e
   | some b=>
    cases d with
    | none=>exact hs.high h e
    | some d=>
     by_cases q:d<b
     · simp only[Jn,if_pos q] at e;exact ht.high h e
     · simp only[Jn,if_neg q] at e;exact hs.high h e
theorem NR{w:List WP}{f:Str}{s:IE}(h:I_ lo sz m w)(e:HZ w f=some s):OnGrid lo sz m s:=by obtain⟨p,hp,_,rfl⟩:=K3 e;exact h p hp
theorem Wr{w o n:List WP}(hw:I_ lo sz m w)(ho:I_ lo sz m o)(h:IsMet w o n):I_ lo sz m n:=λp hp=>by
 have e:=h.sp p.1;rw[KG h.asc hp] at e;cases e1:HZ w p.1 with
 | none=> rw[e1] at e;exact NR ho e.symm
 | some s=>
  rw[e1] at e;cases e2:HZ o p.1 with
  | none=> rw[e2] at e;rw[Az e];exact NR hw e1
  | some t=> rw[e2] at e;rw[Az e];exact XT (NR hw e1) (NR ho e2)
theorem YJ{w o:List WP}(hw:I_ lo sz m w)(ho:I_ lo sz m o):I_ lo sz m (IJ w o):=by
 by_cases h:∃n,IsMet w o n
 · obtain⟨n,hn⟩:=h;rw[ME hn];exact Wr hw ho hn
 · unfold IJ;rw[dif_neg h];exact λp hp=>by simp at hp
theorem Ws{w o r:List WP}(hw:I_ lo sz m w)(ho:I_ lo sz m o)(hr:r∈one w o):I_ lo sz m r:=by
 have hm:=YJ hw ho;unfold one at hr
 split at hr
 · rw[Ae.mp hr];exact hw
 · split at hr
   · rw[Ae.mp hr];exact hw
   · generalize IJ w o=n at*;obtain⟨i,_,hc⟩:=Cd.mp hr;unfold Jp at hc;cases e1:w[i]? with
     | none=>rw[e1] at hc;simp at hc
     | some p=>
      cases e2:n[i]? with
      | none=>rw[e1,e2] at hc;simp at hc
      | some q=>
       rw[e1,e2] at hc;obtain⟨b,hb,rfl⟩:=Ay.mp hc;intro x hx;rcases Aw.mp hx with z | z
       · rcases Aw.mp z with z | z
         · exact hm x (AJ z)
         · rw[Ae.mp z];exact YI (hw p (Aj e1)) (hm q (Aj e2)) hb
       · exact hw x (Dp z)
theorem TV{w:List WP}{os:List (List WP)}(hw:I_ lo sz m w)(ho:∀o∈os,I_ lo sz m o):∀p∈HM w os,I_ lo sz m p:=by
 unfold HM;have go:∀(os ps:List (List WP)),(∀o∈os,I_ lo sz m o)→(∀p∈ps,I_ lo sz m p)→∀p∈os.foldl (λps o=>ps.flatMap λp=>one p o) ps,I_ lo sz m p:=by
  intro os
  induction os with
  | nil=>intro ps _ h;exact h
  | cons o os ih=> intro ps h1 h2;refine ih _ (λx hx=>h1 x (AB _ hx)) λp hp=>?_;obtain⟨q,hq,hp⟩:=Cd.mp hp;exact Ws (h2 q hq) (h1 o AA) hp
 exact go os [w] ho λp hp=>by rw[Ae.mp hp];exact hw
end
def Jv(lo sz:Int)(k:Nat):List Int:=(Bc k).map λi:Nat=>lo+sz*(-1+(i:Int))
theorem RI{w:List WP}(kw:WOk w)(lw:w.length≤3):∀(os2 os1:List (List WP)),AllOk w os1 (HM w os1)→(∀o∈os2,WOk o)→AllOk w (os1++os2) (HM w (os1++os2))
 | [],os1,h,_=>by rw[BY];exact h
 | o::os2,os1,h,ho=>by
  have h1:AllOk w (os1++[o]) (HM w (os1++[o])):=by rw[MO];exact Sd h lw λp hp=>Pa (h.ok p hp).1 (ho o AA)
  have:=RI kw lw os2 (os1++[o]) h1 λx hx=>ho x (AB _ hx);rw[Ci] at this;exact this
theorem Mk{w:List WP}(kw:WOk w)(lw:w.length≤3){os:List (List WP)}(ho:∀o∈os,WOk o):AllOk w os (HM w os):=
 RI kw lw os [] (all_nil kw) ho
theorem Yy{s t:IE}(W:Within s t)(n:Int):(Jw s t).countP (λr=>Im r.1 r.2 n)≤1:=by
 obtain⟨a,b⟩:=s;obtain⟨c,d⟩:=t;unfold Jw;rw[List.countP_append];have le:=W.le;have b1:(below (a,b) (c,d)).length≤1:=by
  unfold below;cases c with
  | none=>simp
  | some l=>by_cases e:a=some l<;>simp[e]
 have a1:(above (a,b) (c,d)).length≤1:=by
  unfold above;cases d with
  | none=>simp
  | some l=>by_cases e:b=some l<;>simp[e]
 have c1:=F_ (p:=λr:IE=>Im r.1 r.2 n) (l:=below (a,b) (c,d));have c2:=F_ (p:=λr:IE=>Im r.1 r.2 n) (l:=above (a,b) (c,d));by_cases h1:(below (a,b) (c,d)).countP (λr=>Im r.1 r.2 n)=0
 · omega
 by_cases h2:(above (a,b) (c,d)).countP (λr=>Im r.1 r.2 n)=0
 · omega
 exfalso;obtain⟨r1,m1,i1⟩:=Er.mp (EC h1);obtain⟨r2,m2,i2⟩:=Er.mp (EC h2);unfold below at m1;unfold above at m2;cases c with
 | none=>simp at m1
 | some l=>
  cases d with
  | none=>simp at m2
  | some u=>
   by_cases e1:a=some l
   · simp[e1] at m1
   · by_cases e2:b=some u
     · simp[e2] at m2
     · simp[e1] at m1;simp[e2] at m2;subst m1 m2;simp[Im,Jb,Jd] at i1 i2;simp[IY] at le;omega
theorem Ue(c:Nat→Nat)(h1:∀i,c i≤1)(h2:∀i j,i<j→c j≠0→c i=0):∀n,((Bc n).map c).sum≤1
 | 0=>by simp
 | n+1=>by
  rw[CA,Ah,F9];simp only[A0,D8,BE,List.sum_nil,Nat.add_zero];by_cases h:c n=0
  · rw[h];exact Ue c h1 h2 n
  · have:((Bc n).map c).sum=0:=by
     have:∀l:List Nat,(∀i∈l,c i=0)→(l.map c).sum=0:=λl=>by
      induction l with
      | nil=>intro _;rfl
      | cons x r ih=> intro hl;rw[A0,BE,hl x AA,ih λi hi=>hl i (AB _ hi)]
     exact this _ λi hi=>h2 i n (CH.mp hi) h
    have:=h1 n;omega
theorem Yj{P:List PP}{p:WP}{n:Int}(h:IU P p.1=some n):JP P p=Im p.2.1 p.2.2 n:=N_ h
theorem WM{w o m:List WP}(kw:WOk w)(ko:WOk o)(h:IsMet w o m)(ap:JO w o=false)(hf:m.map (·.1)=w.map (·.1))(P:List PP):
 (∀i,(Jp w m i).countP (λp=>HV p P)≤1)∧∀i j,i<j→(Jp w m j).countP (λp=>HV p P)≠0→(Jp w m i).countP (λp=>HV p P)=0:=by
 have one:∀i,(Jp w m i).countP (λp=>HV p P)≠0→∃p q n,w[i]?=some p∧m[i]?=some q∧HV (m.take i) P=true∧IU P p.1=some n∧Im q.2.1 q.2.2 n=false:=λi hi=>by
  obtain⟨r,mr,tr⟩:=Er.mp (EC hi);unfold Jp at mr;cases e1:w[i]? with
  | none=>rw[e1] at mr;simp at mr
  | some p=>
   cases e2:m[i]? with
   | none=>rw[e1,e2] at mr;simp at mr
   | some q=> rw[e1,e2] at mr;obtain⟨b,hb,rfl⟩:=Ay.mp mr;obtain⟨m1,m2,m3⟩:=KQ kw ko h ap hf e1 e2;rw[Ka,Ka,A8,A8] at tr;obtain⟨⟨t1,t2⟩,_⟩:=tr;rw[Lu] at t2;obtain⟨n,hn,hb2⟩:=takesP_iff.mp t2;exact⟨p,q,n,rfl,rfl,t1,hn,(Tl m2 hb hb2).2⟩
 refine⟨λi=>?_,λi j hij hj=>?_⟩
 · unfold Jp;cases e1:w[i]? with
   | none=>simp
   | some p=>
    cases e2:m[i]? with
    | none=>simp
    | some q=>
     obtain⟨m1,m2,m3⟩:=KQ kw ko h ap hf e1 e2;dsimp only;rw[Ek];cases en:IU P p.1 with
     | none=>
      rw[Dw.mpr λb hb z=>?_]
      · exact Br _
      · dsimp only[DU] at z;rw[Ka,Ka,A8,A8,Lu] at z;obtain⟨n,hn,_⟩:=takesP_iff.mp z.1.2;rw[show((p.1,b):WP).1=p.1 from rfl,en] at hn;cases hn
     | some n=> refine AL (List.countP_mono_left λb hb z=>?_) (Yy m2 n);dsimp only[DU] at z;rw[Ka,Ka,A8,A8,Lu] at z;obtain⟨n',hn,hb2⟩:=takesP_iff.mp z.1.2;rw[show((p.1,b):WP).1=p.1 from rfl,en] at hn;cases hn;exact hb2
 · obtain⟨pj,qj,nj,_,_,tj,_,_⟩:=one j hj;by_cases hi:(Jp w m i).countP (λp=>HV p P)=0
   · exact hi
   · exfalso;obtain⟨p,q,n,e1,e2,_,hn,out⟩:=one i hi;obtain⟨m1,_,_⟩:=KQ kw ko h ap hf e1 e2;have mq:q∈m.take j:=by
      have:(m.take j)[i]?=some q:=by rw[EA];simp[hij,e2]
      exact Aj this
     have:=A9.mp tj q mq;obtain⟨n',hn',hb⟩:=takesP_iff.mp this;rw[m1,hn] at hn';cases hn';rw[out] at hb;cases hb
theorem X_{w o:List WP}(kw:WOk w)(ko:WOk o)(P:List PP):(one w o).countP (λp=>HV p P)≤1:=by
 unfold one
 split
 · rw[Dk];split<;>omega
 · rename_i ap;have ap:JO w o=false:=CD.mpr ap
   split
   · rw[Dk];split<;>omega
   · rename_i hl;obtain⟨m,im⟩:=OY kw ko;rw[ME im] at hl ⊢;have hf:=Oa kw im (by omega);obtain⟨c1,c2⟩:=WM kw ko im ap hf P;unfold Mo;rw[Gy];exact Ue _ c1 c2 _
theorem P3{α β:Type}(f:α→List β)(p:β→Bool)(l:List α):(l.flatMap f).countP p=(l.map λa=>(f a).countP p).sum:=by rw[Gy];rfl
theorem Ze{w:List WP}(kw:WOk w)(lw:w.length≤3){os:List (List WP)}(ho:∀o∈os,WOk o){P:List PP}(hP:P.map (·.1)=w.map (·.1)):
 (HM w os).countP (λp=>HV p P)=if HV w P=true∧∀o∈os,HV o P=false then 1 else 0:=by
 have A:=Mk kw lw ho;have le1:∀(os2 os1:List (List WP)),(∀o∈os1++os2,WOk o)→(HM w os1).countP (λp=>HV p P)≤1→(HM w (os1++os2)).countP (λp=>HV p P)≤1:=by
  intro os2
  induction os2 with
  | nil=>intro os1 _ h;rw[BY];exact h
  | cons o os2 ih=>
   intro os1 hk h;have A1:=Mk kw lw (os:=os1) λx hx=>hk x (Bn _ hx);have:=ih (os1++[o]) (by rw[Ci];exact hk) ?_
   · rw[Ci] at this;exact this
   · rw[MO,P3];have ko:=hk o (An _ AA);have gen:∀l:List (List WP),(∀p∈l,WOk p)→l.countP (λp=>HV p P)≤1→(l.map λp=>(one p o).countP (λq=>HV q P)).sum≤l.countP (λp=>HV p P):=λl=>by
      induction l with
      | nil=>intro _ _;simp
      | cons x r ihr=>
       intro hw hc;rw[A0,BE,Dq] at*;have h1:=X_ (hw x AA) ko P;have h2:=ihr (λp hp=>hw p (AB _ hp)) (by omega);cases t:HV x P with
       | true=>simp only[t,if_true] at*;omega
       | false=>
        have:(one x o).countP (λq=>HV q P)=0:=Dw.mpr λq hq z=>by have:=((Pa (hw x AA) ko).sound q hq P z).1;rw[t] at this;cases this
        omega
     exact AL (gen _ (λp hp=>(A1.ok p hp).1) h) h
 have l1:(HM w os).countP (λp=>HV p P)≤1:=by
  have:=le1 os [] (by simpa using ho) (by show([w]:List (List WP)).countP _≤1;rw[Dk];split<;>omega)
  exact this
 split
 · rename_i h;rcases A.full P h.1 with⟨p,hp,tp⟩ | ⟨o,ho',to⟩
   · have:=(List.countP_pos_iff (p:=λp=>HV p P)).mpr ⟨p,hp,tp⟩;omega
   · rw[h.2 o ho'] at to;cases to
 · rename_i h;refine Dw.mpr λp hp z=>h ?_;obtain⟨t1,t2⟩:=A.sound p hp P z;exact⟨t1,t2 hP⟩
noncomputable def HY(fl:List (List WP)):List (List WP):=(Bc fl.length).flatMap λi=>HM (fl.getD i []) (fl.take i)
theorem Xg{fl:List (List WP)}{fs:List Str}(ok:∀w∈fl,WOk w∧w.length≤3∧w.map (·.1)=fs){P:List PP}(hP:P.map (·.1)=fs):
 (HY fl).countP (λp=>HV p P)=if fl.any (λw=>HV w P)=true then 1 else 0:=by
 unfold HY;rw[P3];have go:∀n,n≤fl.length→((Bc n).map λi=>(HM (fl.getD i []) (fl.take i)).countP λp=>HV p P).sum=if(fl.take n).any (λw=>HV w P)=true then 1 else 0:=by
  intro n
  induction n with
  | zero=>intro _;simp
  | succ n ih=>
   intro hn;have e:fl[n]?=some fl[n]:=Av (by omega);rw[CA,Ah,F9,ih (by omega)];simp only[A0,D8,BE,List.sum_nil,Nat.add_zero];have ed:fl.getD n []=fl[n]:=by rw[AX,e];rfl
   obtain⟨k1,k2,k3⟩:=ok fl[n] (DV _);rw[ed,Ze k1 k2 (λo ho=>(ok o (AJ ho)).1) (hP.trans k3.symm),IB e,List.any_append];simp only[BO,List.any_nil,Bool.or_false];by_cases h1:(fl.take n).any (λw=>HV w P)=true
   · have:¬(HV fl[n] P=true∧∀o∈fl.take n,HV o P=false):=λz=>by
      obtain⟨o,ho,to⟩:=Ct.mp h1;rw[z.2 o ho] at to;cases to
     rw[if_neg this,if_pos h1,h1];simp
   · have h1':=CD.mpr h1;have al:∀o∈fl.take n,HV o P=false:=λo ho=>CD.mpr λz=>h1 (Ct.mpr ⟨o,ho,z⟩);rw[if_neg h1,h1',Bool.false_or];cases t:HV fl[n] P with
     | true=>rw[if_pos ⟨rfl,al⟩];simp
     | false=>rw[if_neg (λz=>As z.1)];simp
 have:=go fl.length (Ag _);rw[Bb] at this;exact this
theorem Uf{α β:Type}(r:α→β→Bool)(B:List β):∀A:List α,(A.map λa=>B.countP (r a)).sum=(B.map λb=>A.countP λa=>r a b).sum
 | []=>by
  have:∀B:List β,(B.map λ_=>0).sum=0:=λB=>by
   induction B with
   | nil=>rfl
   | cons x r ih=>rw[A0,BE,ih]
  simp only[D8,List.sum_nil,List.countP_nil];exact(this B).symm
 | a::A=>by
  rw[A0,BE,Uf r B A];have:∀B:List β,B.countP (r a)+(B.map λb=>A.countP λa=>r a b).sum=(B.map λb=>(a::A).countP λa=>r a b).sum:=λB=>by
   induction B with
   | nil=>rfl
   | cons x B ih=>
    rw[Dq,A0,BE,A0,BE,←ih,Dq]
    split<;>omega
  exact this B
def IM(ns:List Int)(fs:List Str):List (List PP):=fs.foldl (λps f=>ps.flatMap λp=>ns.map λn=>p++[(f,n)]) [[]]
theorem P7(ns:List Int)(fs:List Str)(f:Str):IM ns (fs++[f])=(IM ns fs).flatMap λp=>ns.map λn=>p++[(f,n)]:=by unfold IM;rw[EX];rfl
theorem PQ{ns:List Int}:∀(n:Nat)(fs:List Str),fs.length=n→∀P∈IM ns fs,P.map (·.1)=fs:=by
 intro n
 induction n with
 | zero=> intro fs hf P hP;rw[CG.mp hf] at hP ⊢;rw[Ae.mp (show P∈[[]] from hP)];rfl
 | succ n ih=>
  intro fs hf P hP;rcases Ga fs with e | ⟨gs,f,e⟩
  · rw[e] at hf;cases hf
  · have e:fs=gs++[f]:=by rw[e];simp
    subst e;rw[P7] at hP;obtain⟨q,hq,hP⟩:=Cd.mp hP;obtain⟨n',_,rfl⟩:=Ay.mp hP;rw[Ah,ih gs (by simpa using hf) q hq];rfl
def JH(ns:List Int)(s:IE):Nat:=ns.countP λn=>Im s.1 s.2 n
def J3(ns:List Int)(w:List WP):Nat:=(w.map λp=>JH ns p.2).foldr (· * ·) 1
theorem XR(l:List Nat)(x:Nat):(l++[x]).foldr (· * ·) 1=l.foldr (· * ·) 1*x:=by
 induction l with
 | nil=>simp
 | cons a l ih=>rw[Ff,El,El,ih,Nat.mul_assoc]
theorem Wd{gs:List Str}{f:Str}(h:(gs++[f]).Pairwise Ix):f ∉ gs:=λhf=>by have:=(Gj.mp h).2.2 f hf f (by simp);exact KP this rfl
theorem WL{ns:List Int}:∀(n:Nat)(w:List WP),w.length=n→(w.map (·.1)).Pairwise Ix→(IM ns (w.map (·.1))).countP (λP=>HV w P)=J3 ns w:=by
 intro n
 induction n with
 | zero=> intro w hw _;rw[CG.mp hw];rfl
 | succ n ih=>
  intro w hw asc;rcases Ga w with e | ⟨v,p,e⟩
  · rw[e] at hw;cases hw
  · have e:w=v++[p]:=by rw[e];simp
    subst e;have lv:v.length=n:=by simpa using hw
    rw[Ah] at asc;have av:=(Gj.mp asc).1;have np:p.1 ∉ v.map (·.1):=Wd asc;have iv:=ih v lv av;rw[Ah,show [p].map (·.1)=[p.1] from rfl,P7,P3];have fld:=PQ (ns:=ns) (v.map (·.1)).length (v.map (·.1)) rfl;have tk:∀P∈IM ns (v.map (·.1)),∀k:Int,HV (v++[p]) (P++[(p.1,k)])=(HV v P && Im p.2.1 p.2.2 k):=λP hP k=>by
     have fP:=fld P hP;have nn:IU P p.1=none:=TX λx hx z=>np (by rw[←fP,←z];exact A3 hx);rw[Ka,Lu];congr 1
     · unfold HV;rw[Bt,A9,A9];have:∀x∈v,JP (P++[(p.1,k)]) x=JP P x:=λx hx=>by
        unfold JP;rw[Ps P (p.1,k) x.1 nn,if_neg λz=>np (by rw[←show x.1=p.1 from z];exact A3 hx)]
       constructor
       · intro h x hx;rw[←this x hx];exact h x hx
       · intro h x hx;rw[this x hx];exact h x hx
     · exact Yj (by rw[Ps P (p.1,k) p.1 nn,if_pos rfl])
    have cw:J3 ns (v++[p])=J3 ns v*JH ns p.2:=by unfold J3;rw[Ah];exact XR _ _
    rw[cw,←iv];have:∀l:List (List PP),(∀P∈l,P∈IM ns (v.map (·.1)))→(l.map λP=>(ns.map λk=>P++[(p.1,k)]).countP λQ=>HV (v++[p]) Q).sum=l.countP (λP=>HV v P)*JH ns p.2:=λl=>by
     induction l with
     | nil=>intro _;simp
     | cons P l ihl=>
      intro hl;rw[A0,BE,ihl λQ hQ=>hl Q (AB _ hQ),Dq,Ek];have hP:=hl P AA;have e1:((λQ=>HV (v++[p]) Q)∘λk=>P++[(p.1,k)])=λk=>HV v P && Im p.2.1 p.2.2 k:=funext λk=>tk P hP k;rw[e1];cases t:HV v P with
      | true=> simp only[Bool.true_and,if_true];rw[Nat.add_mul,Nat.one_mul,Fm];rfl
      | false=> simp only[Bool.false_and,BR,if_false,Nat.add_zero];rw[Dw.mpr λk _ z=>As z,Nat.zero_add]
    exact this _ λP h=>h
def Iv(s:IE):Bool:=s.1.isSome && s.2.isSome
def Ib(w:List WP):Bool:=w.all λp=>Iv p.2
def JF(s:IE):Option Int:=match s.1,s.2 with
 | some l,some h=>some (h - l+1)
 | _,_=>none
def JX(w:List WP):Int:=(w.map λp=>(JF p.2).getD 0).foldr (· * ·) 1
def IZ(w:List WP):Option Int:=if Ib w=true then some (JX w) else none
theorem NU{s:IE}(h:Iv s=true):∃l u,s=(some l,some u):=by
 obtain⟨a,b⟩:=s;cases a with
 | none=>cases h
 | some l=>
  cases b with
  | none=>cases h
  | some u=>exact⟨l,u,rfl⟩
theorem Yd(w:List WP)(p:WP):JX (w++[p])=JX w*(JF p.2).getD 0:=by
 unfold JX;rw[Ah];show((w.map λp=>(JF p.2).getD 0)++[(JF p.2).getD 0]).foldr (· * ·) 1=_;generalize(w.map λp=>(JF p.2).getD 0)=l;generalize(JF p.2).getD 0=x
 induction l with
 | nil=>simp
 | cons a l ih=>rw[Ff,El,El,ih,Int.mul_assoc]
theorem Uq(a b:Nat)(h:a≤b):∀k,(Bc k).countP (λt=>decide (a≤t∧t<b))=min b k - a
 | 0=>by simp
 | k+1=>by
  rw[CA,List.countP_append,Uq a b h k,Dk];by_cases c:a≤k∧k<b
  · rw[if_pos (decide_eq_true c)];omega
  · rw[if_neg (by simpa using c)];omega
theorem V2{lo sz m:Int}{k:Nat}{s:IE}(hk:(k:Int)=m+1)(hz:1≤sz)(g:OnGrid lo sz m s)(b:Iv s=true)(le:IY s.1 s.2=true):(JF s).getD 0=sz*(JH (Jv lo sz k) s:Int):=by
 obtain⟨l,u,rfl⟩:=NU b;obtain⟨i,i0,i1,ei⟩:=g.low l rfl;obtain⟨j,j0,j1,ej⟩:=g.high u rfl;have le:l≤u:=of_decide_eq_true le;have hij:i<j:=Fc (a:=sz) (by omega) (by omega);have ec:JH (Jv lo sz k) (some l,some u)=(Bc k).countP (λt=>decide ((i+1).toNat≤t∧t<(j+1).toNat)):=by
  unfold JH Jv;rw[Ek];congr 1;funext t;show Im (some l) (some u) (lo+sz*(-1+(t:Int)))=_;rw[Bt,decide_eq_true_iff];simp only[Im,Jb,Jd,A8,decide_eq_true_iff];rw[ei,ej];constructor
  · rintro⟨h1,h2⟩;have h1:i≤ -1+(t:Int):=Int.le_of_mul_le_mul_left (a:=sz) (by omega) (by omega);have h2: -1+(t:Int)<j:=Fc (a:=sz) (by omega) (by omega);omega
  · rintro⟨h1,h2⟩;have h1:sz*i≤sz*(-1+(t:Int)):=Cn (by omega) (by omega);have h2:sz*(-1+(t:Int))<sz*j:=Int.mul_lt_mul_of_pos_left (by omega) (by omega);omega
 rw[ec,Uq _ _ (by omega)];have:((min (j+1).toNat k - (i+1).toNat:Nat):Int)=j - i:=by omega
 rw[this];show u - l+1=_;rw[Int.mul_sub];omega
theorem Sy{lo sz m:Int}{k:Nat}(hk:(k:Int)=m+1)(hz:1≤sz):∀w:List WP,(∀p∈w,OnGrid lo sz m p.2∧Iv p.2=true∧IY p.2.1 p.2.2=true)→JX w=sz^w.length*(J3 (Jv lo sz k) w:Int)
 | [],_=>by simp[JX,J3]
 | p::w,h=>by obtain⟨g,b,le⟩:=h p AA;have ih:=Sy hk hz w λx hx=>h x (AB _ hx);have e1:JX (p::w)=(JF p.2).getD 0*JX w:=rfl;have e2:J3 (Jv lo sz k) (p::w)=JH (Jv lo sz k) p.2*J3 (Jv lo sz k) w:=rfl;rw[e1,e2,ih,V2 hk hz g b le,AF,Int.pow_succ,Int.natCast_mul];generalize(JH (Jv lo sz k) p.2:Int)=c;generalize(J3 (Jv lo sz k) w:Int)=d;generalize sz^w.length=e;rw[Int.mul_assoc,Int.mul_assoc,Int.mul_left_comm c e d,Int.mul_left_comm sz e]
theorem Yx{s t r:IE}(hs:Iv s=true)(hr:r∈Jw s t):Iv r=true:=by
 obtain⟨a,b,rfl⟩:=NU hs;obtain⟨c,d⟩:=t;unfold Jw below above at hr;rcases Aw.mp hr with z | z
 · cases c with
   | none=>simp at z
   | some l=>
    by_cases e:a=l
    · simp[e] at z
    · simp[e] at z;rw[z];rfl
 · cases d with
   | none=>simp at z
   | some l=>
    by_cases e:b=l
    · simp[e] at z
    · simp[e] at z;rw[z];rfl
theorem Vq{s t:IE}(hs:Iv s=true):Iv (Jm s.1 t.1,Jn s.2 t.2)=true:=by obtain⟨a,b,rfl⟩:=NU hs;obtain⟨c,d⟩:=t;cases c<;>cases d<;>simp[Jm,Jn,Iv]<;>(try split)<;>(try split)<;>simp
theorem Vr{w o:List WP}(kw:WOk w)(ko:WOk o)(hw:Ib w=true):∀r∈one w o,Ib r=true:=by
 intro r hr;unfold one at hr
 split at hr
 · rw[Ae.mp hr];exact hw
 · split at hr
   · rw[Ae.mp hr];exact hw
   · rename_i hl;obtain⟨m,im⟩:=OY kw ko;rw[ME im] at hl hr;have hf:=Oa kw im (by omega);have bm:∀q∈m,Iv q.2=true:=λq hq=>by
      have e:=im.sp q.1;rw[KG im.asc hq] at e;have:q.1∈w.map (·.1):=by rw[←hf];exact A3 hq
      obtain⟨s,es⟩:=SI this;obtain⟨x,hx,_,e2⟩:=K3 es;have bs:Iv s=true:=by rw[←e2];exact A9.mp hw x hx
      rw[es] at e;cases eo:HZ o q.1 with
      | none=>rw[eo] at e;rw[Az e];exact bs
      | some t=>rw[eo] at e;rw[Az e];exact Vq bs
     obtain⟨i,_,hc⟩:=Cd.mp hr;unfold Jp at hc;cases e1:w[i]? with
     | none=>rw[e1] at hc;simp at hc
     | some p=>
      cases e2:m[i]? with
      | none=>rw[e1,e2] at hc;simp at hc
      | some q=>
       rw[e1,e2] at hc;obtain⟨b,hb,rfl⟩:=Ay.mp hc;refine A9.mpr λx hx=>?_;rcases Aw.mp hx with z | z
       · rcases Aw.mp z with z | z
         · exact bm x (AJ z)
         · rw[Ae.mp z];exact Yx (A9.mp hw p (Aj e1)) hb
       · exact A9.mp hw x (Dp z)
theorem Xh{w:List WP}{os:List (List WP)}(kw:WOk w)(lw:w.length≤3)(ho:∀o∈os,WOk o)(hw:Ib w=true):∀p∈HM w os,Ib p=true:=by
 have go:∀(os2 os1:List (List WP)),(∀o∈os1++os2,WOk o)→(∀p∈HM w os1,Ib p=true)→∀p∈HM w (os1++os2),Ib p=true:=by
  intro os2
  induction os2 with
  | nil=>intro os1 _ h;rw[BY];exact h
  | cons o os2 ih=>
   intro os1 hk h;have:=ih (os1++[o]) (by rw[Ci];exact hk) λp hp=>?_
   · rw[Ci] at this;exact this
   · rw[MO] at hp;obtain⟨q,hq,hp⟩:=Cd.mp hp;exact Vr ((Mk kw lw (os:=os1) λx hx=>hk x (Bn _ hx)).ok q hq).1 (hk o (An _ AA)) (h q hq) p hp
 exact go os [] (by simpa using ho) λp hp=>by rw[Ae.mp (show p∈[w] from hp)];exact hw
def Kf(p:WP):Int:=(p.2.1.getD 0).natAbs+(p.2.2.getD 0).natAbs
def J4(w:List WP):Int:=(w.map Kf).sum
def JV(l:List (List WP)):Int:=(l.map J4).sum+1
theorem RL(p:WP):0≤Kf p:=by unfold Kf;omega
theorem OI(w:List WP):0≤J4 w:=by
 unfold J4
 induction w with
 | nil=>simp
 | cons p w ih=>rw[A0,BE];have:=RL p;omega
theorem Vs{w:List WP}{p:WP}(h:p∈w):Kf p≤J4 w:=by
 unfold J4
 induction w with
 | nil=>simp at h
 | cons q w ih=>
  rw[A0,BE];have h1:=RL q;have h2:0≤(w.map Kf).sum:=OI w;rcases Ak.mp h with e | h
  · rw[e];omega
  · have:=ih h;omega
theorem RK{l:List (List WP)}{w:List WP}(h:w∈l):J4 w<JV l:=by
 unfold JV
 induction l with
 | nil=>simp at h
 | cons v l ih=>
  rw[A0,BE];have h1:=OI v;have h2:0≤(l.map J4).sum:=by
   clear ih h
   induction l with
   | nil=>simp
   | cons x l ih=>rw[A0,BE];have:=OI x;omega
  rcases Ak.mp h with e | h
  · rw[e];omega
  · have:=ih h;omega
def Ke(f:Str)(N:Int)(w:List WP):List PP:=w.map λp=>(p.1,if p.1=f then N else Mw p.2.1 p.2.2)
theorem Ui(f:Str)(N:Int)(w:List WP):(Ke f N w).map (·.1)=w.map (·.1):=by unfold Ke;rw[BA];rfl
theorem WT{w:List WP}(kw:WOk w){f:Str}{N:Int}(h:∀p∈w,p.1=f→Im p.2.1 p.2.2 N=true):HV w (Ke f N w)=true:=by
 refine A9.mpr λp hp=>?_;have asc:((Ke f N w).map (·.1)).Pairwise Ix:=by rw[Ui];exact kw.asc
 have:=TY asc (x:=(p.1,if p.1=f then N else Mw p.2.1 p.2.2)) (Ay.mpr ⟨p,hp,rfl⟩)
 refine takesP_iff.mpr ⟨_,this,?_⟩;by_cases e:p.1=f
 · rw[if_pos e];exact h p hp e
 · rw[if_neg e];exact Xq (kw.ok p hp).2
theorem Vx{w:List WP}(kw:WOk w){f:Str}{N:Int}(h:f∈w.map (·.1)):IU (Ke f N w) f=some N:=by
 obtain⟨p,hp,rfl⟩:=Ay.mp h;have asc:((Ke p.1 N w).map (·.1)).Pairwise Ix:=by rw[Ui];exact kw.asc
 have:=TY asc (x:=(p.1,if p.1=p.1 then N else Mw p.2.1 p.2.2)) (Ay.mpr ⟨p,hp,rfl⟩)
 rw[if_pos rfl] at this;exact this
theorem RJ{v:List WP}{f:Str}{N:Int}{P:List PP}(bv:Ib v=true)(hf:f∈v.map (·.1))(hn:IU P f=some N)(hN:J4 v<N∨J4 v< -N):HV v P=false:=by obtain⟨p,hp,rfl⟩:=Ay.mp hf;refine CD.mpr λt=>?_;obtain⟨n,e1,e2⟩:=takesP_iff.mp (A9.mp t p hp);rw[hn] at e1;cases e1;obtain⟨l,u,es⟩:=NU (A9.mp bv p hp);have h1:=Vs hp;unfold Kf at h1;rw[es] at e2 h1;simp[Im,Jb,Jd] at e2 h1;omega
theorem YZ{w:List WP}{os:List (List WP)}(kw:WOk w)(lw:w.length≤3)(ho:∀o∈os,WOk o∧Ib o=true∧o.map (·.1)=w.map (·.1))(hw:Ib w=false):∃p∈HM w os,Ib p=false:=by
 have A:=Mk kw lw (os:=os) λo h=>(ho o h).1;obtain⟨p0,hp0,b0⟩:∃p∈w,Iv p.2=false:=by obtain⟨p,hp,h⟩:=List.all_eq_false.mp hw;exact⟨p,hp,CD.mpr h⟩
 by_cases hb:∀p∈HM w os,Ib p=true
 · exfalso;have fin:∀N:Int,(∀p∈w,p.1=p0.1→Im p.2.1 p.2.2 N=true)→(JV (os++HM w os)≤N∨JV (os++HM w os)≤ -N)→False:=λN hin hN=>by
    have tw:=WT kw hin;have nm:=Vx kw (N:=N) (A3 hp0);rcases A.full _ tw with⟨p,hp,tp⟩ | ⟨o,h1,to⟩
    · have:=RJ (hb p hp) (f:=p0.1) (by rw[(A.ok p hp).2];exact A3 hp0) nm (by have:=RK (An os hp);omega);rw[this] at tp;cases tp
    · have:=RJ (ho o h1).2.1 (f:=p0.1) (by rw[(ho o h1).2.2];exact A3 hp0) nm (by have:=RK (Bn (HM w os) h1);omega);rw[this] at to;cases to
   have same:∀p∈w,p.1=p0.1→p.2=p0.2:=λp hp e=>by have h1:=KG kw.asc hp;have h2:=KG kw.asc hp0;rw[e,h2] at h1;exact(Az h1).symm
   obtain⟨f,a,b⟩:=p0;cases b with
   | none=>
    obtain⟨N,h1,h2⟩:∃N:Int,JV (os++HM w os)≤N∧∀l,a=some l→l≤N:=by
     cases a with
     | none=>exact⟨_,Ez _,λl e=>by cases e⟩
     | some l=>exact⟨max (JV (os++HM w os)) l,by omega,λl' e=>by cases e;omega⟩
    refine fin N (λp hp e=>?_) (.inl h1);rw[same p hp e];cases a with
    | none=>rfl
    | some l=>simp[Im,Jb,Jd];exact h2 l rfl
   | some u=>
    cases a with
    | some l=>cases b0
    | none=> refine fin (min (-(JV (os++HM w os))) u) (λp hp e=>?_) (.inr (by omega));rw[same p hp e];simp[Im,Jb,Jd];omega
 · simp only[Classical.not_forall] at hb;obtain⟨p,hp,h⟩:=hb;exact⟨p,hp,CD.mpr h⟩
noncomputable def IS(fl:List (List WP)):Option Int:=if(HY fl).all Ib=true then some (((HY fl).map JX).sum) else none
theorem mem_partsAll{fl:List (List WP)}{p:List WP}:p∈HY fl↔∃i w,fl[i]?=some w∧p∈HM w (fl.take i):=by
 unfold HY;rw[List.mem_flatMap];constructor
 · rintro⟨i,hi,hp⟩;have hi:=CH.mp hi;have e:fl[i]?=some fl[i]:=Av hi;rw[show fl.getD i []=fl[i] by rw[AX,e];rfl] at hp;exact⟨i,_,e,hp⟩
 · rintro⟨i,w,e,hp⟩;refine⟨i,CH.mpr (Al.mp e).1,?_⟩;rw[show fl.getD i []=w by rw[AX,e];rfl];exact hp
theorem Se(c:Int):∀l:List Nat,(l.map λn:Nat=>c*(n:Int)).sum=c*(l.sum:Int)
 | []=>by simp
 | n::l=>by rw[A0,BE,Se c l,BE,Int.natCast_add,Int.mul_add]
theorem Sq{α:Type}(f:α→Bool):∀l:List α,(l.map λx=>if f x=true then 1 else 0).sum=l.countP f
 | []=>rfl
 | x::l=>by rw[A0,BE,Sq f l,Dq,Fm]
theorem XD{lo sz m:Int}{k:Nat}{fl:List (List WP)}{fs:List Str}(hk:(k:Int)=m+1)(hz:1≤sz)
 (ok:∀w∈fl,WOk w∧w.length≤3∧w.map (·.1)=fs) (g:∀w∈fl,I_ lo sz m w) (b:∀w∈fl,Ib w=true):
 IS fl=some (sz^fs.length*((IM (Jv lo sz k) fs).countP (λP=>fl.any λw=>HV w P):Int)):=by
 have okp:∀p∈HY fl,(WOk p∧p.map (·.1)=fs)∧I_ lo sz m p∧Ib p=true:=λp hp=>by obtain⟨i,w,e,hp⟩:=mem_partsAll.mp hp;have hw:=Aj e;obtain⟨k1,k2,k3⟩:=ok w hw;have ho:∀o∈fl.take i,WOk o:=λo ho=>(ok o (AJ ho)).1;have A:=Mk k1 k2 ho;exact⟨⟨(A.ok p hp).1,(A.ok p hp).2.trans k3⟩,TV (g w hw) (λo ho=>g o (AJ ho)) p hp,Xh k1 k2 ho (b w hw) p hp⟩
 unfold IS;rw[if_pos (A9.mpr λp hp=>(okp p hp).2.2)];congr 1;have e1:(HY fl).map JX=((HY fl).map λp=>(IM (Jv lo sz k) fs).countP λP=>HV p P).map λn:Nat=>sz^fs.length*(n:Int):=by
  rw[BA];refine Dc λp hp=>?_;obtain⟨⟨kp,fp⟩,gp,bp⟩:=okp p hp;have:=Sy hk hz p λx hx=>⟨gp x hx,A9.mp bp x hx,(kp.ok x hx).2⟩;have lp:p.length=fs.length:=by rw[←fp,Ab]
  rw[this,lp];show _=sz^fs.length*(((IM (Jv lo sz k) fs).countP λP=>HV p P:Nat):Int);rw[←fp,WL p.length p rfl kp.asc]
 rw[e1,Se];congr 2;rw[Uf (λp P=>HV p P)];have e2:((IM (Jv lo sz k) fs).map λP=>(HY fl).countP λp=>HV p P)=(IM (Jv lo sz k) fs).map λP=>if(fl.any λw=>HV w P)=true then 1 else 0:=
  Dc λP hP=>Xg ok (PQ _ fs rfl P hP)
 rw[e2,Sq]
theorem XC{fl:List (List WP)}{fs:List Str}(ok:∀w∈fl,WOk w∧w.length≤3∧w.map (·.1)=fs)(h:∃w∈fl,Ib w=false):IS fl=none:=by
 have:∃i w,fl[i]?=some w∧Ib w=false∧∀o∈fl.take i,Ib o=true:=by
  clear ok
  induction fl with
  | nil=>obtain⟨w,hw,_⟩:=h;simp at hw
  | cons x fl ih=>
   cases e:Ib x with
   | false=>exact⟨0,x,rfl,e,λo ho=>by simp at ho⟩
   | true=>
    obtain⟨w,hw,bw⟩:=h;rcases Ak.mp hw with z | z
    · rw[z,e] at bw;cases bw
    · obtain⟨i,v,e1,e2,e3⟩:=ih ⟨w,z,bw⟩;refine⟨i+1,v,by rw[Fu];exact e1,e2,λo ho=>?_⟩;rw[List.take_succ_cons] at ho;rcases Ak.mp ho with y | y
      · rw[y];exact e
      · exact e3 o y
 obtain⟨i,w,e,bw,bo⟩:=this;obtain⟨k1,k2,k3⟩:=ok w (Aj e);obtain⟨p,hp,bp⟩:=YZ k1 k2 (os:=fl.take i) (λo ho=>⟨(ok o (AJ ho)).1,bo o ho,((ok o (AJ ho)).2.2).trans k3.symm⟩) bw;unfold IS;rw[if_neg];intro z;rw[A9.mp z p (mem_partsAll.mpr ⟨i,w,e,hp⟩)] at bp;cases bp
def IK(told:List Str)(w:List WP):List WP:=told.map λf=>(f,(HZ w f).getD (none,none))
def Jl(told:List Str)(w:List WP):Bool:=w.all λp=>decide (p.1∈told)
theorem TQ(told:List Str)(w:List WP):(IK told w).map (·.1)=told:=by unfold IK;rw[BA];exact List.map_id _
theorem Pj{w:List WP}{f:Str}:(∃p∈w,p.1=f∧(HZ w f).getD (none,none)=p.2)∨(HZ w f).getD (none,none)=(none,none):=by
 cases e:HZ w f with
 | none=>exact .inr rfl
 | some s=> obtain⟨p,hp,e1,e2⟩:=K3 e;exact .inl ⟨p,hp,e1,e2.symm⟩
theorem RG{told:List Str}{w:List WP}(lt:told.length≤3)(fo:∀f∈told,FieldOk f)(asc:told.Pairwise Ix)(kw:WOk w):WOk (IK told w):=by
 refine⟨by unfold IK;rw[Ab];omega,λp hp=>?_,by rw[TQ];exact asc⟩;obtain⟨f,hf,rfl⟩:=Ay.mp hp;refine⟨fo f hf,?_⟩;rcases Pj (w:=w) (f:=f) with⟨q,hq,_,e⟩ | e
 · show IY ((HZ w f).getD (none,none)).1 ((HZ w f).getD (none,none)).2=true;rw[e];exact(kw.ok q hq).2
 · show IY ((HZ w f).getD (none,none)).1 ((HZ w f).getD (none,none)).2=true;rw[e];rfl
theorem Tc{lo sz m:Int}{told:List Str}{w:List WP}(g:I_ lo sz m w):I_ lo sz m (IK told w):=λp hp=>by
 obtain⟨f,hf,rfl⟩:=Ay.mp hp;show OnGrid lo sz m ((HZ w f).getD (none,none));rcases Pj (w:=w) (f:=f) with⟨q,hq,_,e⟩ | e
 · rw[e];exact g q hq
 · rw[e];exact⟨λl z=>(nomatch z),λl z=>(nomatch z)⟩
theorem TU{told:List Str}{w:List WP}{P:List PP}(kw:WOk w)(asc:told.Pairwise Ix)(nm:Jl told w=true)(hP:P.map (·.1)=told):HV (IK told w) P=HV w P:=by
 rw[Bt];constructor
 · intro t;refine A9.mpr λp hp=>?_;have hf:p.1∈told:=of_decide_eq_true (A9.mp nm p hp);have:=A9.mp t (p.1,(HZ w p.1).getD (none,none)) (Ay.mpr ⟨p.1,hf,rfl⟩);rw[KG kw.asc hp] at this;exact this
 · intro t;refine A9.mpr λp hp=>?_;obtain⟨f,hf,rfl⟩:=Ay.mp hp;cases e:HZ w f with
   | some s=> obtain⟨q,hq,e1,e2⟩:=K3 e;have:=A9.mp t q hq;obtain⟨a,b,c⟩:=q;dsimp only at e1 e2;subst e1 e2;exact this
   | none=> obtain⟨n,hn⟩:=XO (bs:=P) (f:=f) (by rw[hP];exact hf);refine takesP_iff.mpr ⟨n,hn,rfl⟩
structure FunD(K:Ao)(x:Str)(st:Stmt)(f:Addr)(fd:BD):Prop where
 ex:∃(oc:Value)(od:Option Addr)(T:Addr)(o:Obj)(m:Nat)(kV doc pm:Value)(an:Option Addr)(cdv ct:Value)(osl:Array (Option Value)),
  fd=C8 x x (JZ st) (JL st) (HX st) (.ref T) kV doc pm an cdv ct∧K.lookup f=some ⟨oc,od,.func fd,osl⟩∧DG K cdv x=true∧K.lookup T=some o∧o.data= .seq #[.none] m
 kp:CI K (.ref f)=true
section
variable{mg:Str→Option Value}{base:Heap}
theorem FunD.ok{st:Stmt}{f:Addr}{fd:BD}{N ps:List Str}{k:Nat}{sp:Sp}(F:FunD K x st f fd)(S:FnScope N ps (HX st))(len:∀vs H Q E,sp vs H Q E→vs.length=ps.length)
 (hbody:∀(cdv:Value)(A:BZ)(outer:List Env)(s:Shared)(H:Hp)(vs:List V)(Q:VK)(E:XK),Room k (A.deeper (envOfC x (HX st) s.heap.objs.size f cdv))→sp vs H Q E→
  ∃t,PSs (JT Ir P w K mg base N x (HX st) f cdv A outer s H E).nox (JL st) t∧t {nx:=λ_ H'=>Q .non H',rt:=Q} (KO N vs) H):FnOk P w K mg base Ir (k+1) f fd ps sp:=by
 obtain⟨oc,od,T,o,m,kV,doc,pm,an,cdv,ct,osl,rfl,lk,hcd,_,_⟩:=F.ex;refine QT lk hcd S len λA outer s H vs Q E hr hsp=>?_;obtain⟨t,h,q⟩:=hbody cdv A outer s H vs Q E hr hsp;exact⟨t,h.nox,q⟩
theorem funD_mk{st:Stmt}{f T:Addr}{oc oc':Value}{od an od':Option Addr}{osl osl':Array (Option Value)}{m:Nat}{kV doc pm cdv ct:Value}(l:K.lookup f=some ⟨oc,od,.func (C8 x x (JZ st) (JL st) (HX st) (.ref T) kV doc pm an cdv ct),osl⟩)
 (c:DG K cdv x=true) (k:CI K (.ref f)=true) (t:K.lookup T=some ⟨oc',od',.seq #[.none] m,osl'⟩):FunD K x st f (C8 x x (JZ st) (JL st) (HX st) (.ref T) kV doc pm an cdv ct):=⟨⟨oc,od,T,_,m,kV,doc,pm,an,cdv,ct,osl,rfl,l,c,t,rfl⟩,k⟩
def g2{α:Type}:List α→List α→List α
 | [a],[b]=>[a,b]
 | _,_=>[]
theorem UG{vs:List V}{zs:List V}{ws:List Value}(h1:Vals vs us)(h2:Vals zs ws):Vals (g2 vs zs) (g2 us ws):=by
 cases h1 with
 | nil=>exact .nil
 | cons r t=>
  cases t with
  | cons r' t'=>exact .nil
  | nil=>
   cases h2 with
   | nil=>exact .nil
   | cons r2 t2=>
    cases t2 with
    | nil=>exact .cons r (.cons r2 .nil)
    | cons r' t'=>exact .nil
def Lg(P:Bv)(w:World)(K:Ao)(mg:Str→Option Value)(base:Heap)(k:Nat)(x:Str)(p1 p2:Str)(sp:Sp):Prop:=
 ∃f fd,FnOk P w K mg base Ir k f fd [p1,p2] sp∧Binds K fd [p1,p2] []∧Binds K fd [p1,p2] [.none]∧KBinds K fd [p1,p2] [p2] g2 g2∧CI K (.ref f)=true∧mg x=some (.ref f)
end
section
variable{k:Nat}{p1 p2:Str}{sp:Sp}{e1 e2:Expr}{t tk:TA}{p kpos:Pos}
theorem V6(F:Lg X.prog X.w X.K X.mg X.base k x p1 p2 sp)(hr:Room k X.A)(hg:Gl X x)(ha:PA X [e1] t)(hdb:(x==("__debug__":Str))=false:=by decide)
 (he:AD [e1] X.env=(false,eval e1 X.env)::AD [] X.env:=by rfl) (hpl:(backTo pos (AD [] X.env)).any (·.1)=false:=by rfl):PE X (.Call (.Name x p) [e1] [] pos) (NE sp [.non] E0 t):=by
 obtain⟨f,fd,h1,h2,h3,h4,h5,h6⟩:=F;exact OS h1 hr hg h6 h5 h3 (.cons rfl .nil) NG ha hdb he hpl
theorem RM(F:Lg X.prog X.w X.K X.mg X.base k x p1 p2 sp)(hr:Room k X.A)(hg:Gl X x)(ha:PA X [e1,e2] t)(hdb:(x==("__debug__":Str))=false:=by decide)
 (he:AD [e1,e2] X.env=(false,eval e1 X.env)::AD [e2] X.env:=by rfl) (hpl:(backTo pos (AD [e2] X.env)).any (·.1)=false:=by rfl):PE X (.Call (.Name x p) [e1,e2] [] pos) (NE sp [] E0 t):=by
 obtain⟨f,fd,h1,h2,h3,h4,h5,h6⟩:=F;exact OS h1 hr hg h6 h5 h2 .nil NG ha hdb he hpl
theorem V7(F:Lg X.prog X.w X.K X.mg X.base k x p1 p2 sp)(hr:Room k X.A)(hg:Gl X x)(ha:PA X [e1] t)(hk:PK X [⟨some p2,e2,kpos⟩] tk)(hdb:(x==("__debug__":Str))=false:=by decide)
 (he:AD [e1] X.env=(false,eval e1 X.env)::AD [] X.env:=by rfl) (hpl:((backTo pos (AD [e1] X.env)).any (·.1) || (backToKw pos (keywordEach [⟨some p2,e2,kpos⟩] X.env)).any (·.1.isNone))=false:=by rfl):
 PE X (.Call (.Name x p) [e1] [⟨some p2,e2,kpos⟩] pos) (Rn sp g2 E0 t tk):=by
 obtain⟨f,fd,h1,h2,h3,h4,h5,h6⟩:=F;exact WV h1 hr hg h6 h5 h4 NG ha hk rfl rfl hdb he hpl
end
def Sg:Sp:=λvs H Q _=>∃(a:Addr)(w:List WP),vs=[.ref a]∧WishAt H a w∧WOk w∧(∀p∈w,∀l h,p.2=(some l,some h)→ -(2^64)<h - l+1∧h - l+1<2^64)∧∀H',Same H H'→Q (eV (IZ w)) H'
def SF:Sp:=λvs H Q _=>∃(a l:Addr)(w:List WP)(fs:List Str),vs=[.ref a,.ref l]∧WishAt H a w∧WOk w∧H l=some (.lst (fs.map V.str))∧∀H',Same H H'→Q (.bl (Jl fs w)) H'
def R7:Sp:=λvs H Q _=>∃(a l:Addr)(w:List WP)(fs:List Str),vs=[.ref a,.ref l]∧WishAt H a w∧WOk w∧H l=some (.lst (fs.map V.str))∧fs.length≤3∧∀(r:Addr)(H':Hp),Same H H'→WishAt H' r (IK fs w)→Q (.ref r) H'
structure ToldF(fs:List Str):Prop where
 len:fs.length≤3
 ok:∀f∈fs,FieldOk f
 asc:fs.Pairwise Ix
noncomputable def IV(fs:List Str)(ws:List (List WP)):Option Int:=IS ((ws.filter λx=>Jl fs x).map λx=>IK fs x)
def NH(sz m:Int):Prop:=1≤sz∧0≤m∧sz*m≤10^18
def SH:Sp:=λvs H Q _=>∃(l f:Addr)(ws:List (Addr×List WP))(fs:List Str)(lo sz m:Int),vs=[.ref l,.ref f]∧WsAt H l ws∧ws.length≤7∧H f=some (.lst (fs.map V.str))∧ToldF fs∧NH sz m∧(∀x∈ws,I_ lo sz m x.2)∧∀H',Same H H'→Q (eV (IV fs (ws.map (·.2)))) H'
def Si:Sp:=λvs H Q _=>∃(f:Addr)(fs:List Str),vs=[.ref f]∧H f=some (.lst (fs.map V.str))∧ToldF fs∧∀H',Same H H'→Q (.bl true) H'
def R6:Sp:=λvs H Q _=>∃(f:Addr)(fs:List Str),vs=[.ref f]∧H f=some (.lst (fs.map V.str))∧ToldF fs∧∀H',Same H H'→Q .non H'
structure FieldsOf(ws:List (List WP))(fs:List Str):Prop where
 asc:fs.Pairwise Ix
 mem:∀f,f∈fs↔∃x∈ws,f∈x.map (·.1)
theorem FieldsOf.uniq{ws:List (List WP)}{fs gs:List Str}(h:FieldsOf ws fs)(h':FieldsOf ws gs):fs=gs:=by have s1:=Ml gs fs h.asc h'.asc λx hx=>(h'.mem x).mpr ((h.mem x).mp hx);have s2:=Ml fs gs h'.asc h.asc λx hx=>(h.mem x).mpr ((h'.mem x).mp hx);exact s1.eq_of_length (Nat.le_antisymm s1.length_le s2.length_le)
def Sj:Sp:=λvs H Q _=>∃(l:Addr)(v:V)(ws:List (Addr×List WP))(ns fs:List Str)(lo sz m:Int),vs=[.ref l,v]∧WsAt H l ws∧ws.length≤7∧ToldF ns∧(∀x∈ws,Nq ns x.2)∧ToldF fs∧(v= .non∧FieldsOf (ws.map (·.2)) fs∨∃f,v= .ref f∧H f=some (.lst (fs.map V.str)))∧NH sz m∧(∀x∈ws,I_ lo sz m x.2)∧∀H',Same H H'→Q (eV (IV fs (ws.map (·.2)))) H'
section
variable{it d:Addr}{ep:Nat}{as:List Addr}
end
section
variable{tg:Expr}
end
section
variable{d:Addr}{ks:List (Addr×List WP)}
end
section
variable{tg iter kx vx:Expr}{ifs:List Expr}{wi:TI}{js:IT}{g:TG}{tc:TT}{tk tv:TE}{N':List Str}
end
def MW(outer scope:Scope):Scope:={scope with names:=scope.names.map λ(n,k)=>if(k== .free && outer.kind== .function && outer.names.lookup n==some .cell) then(n,.cell) else(n,k)}
def U8(st:Stmt)(k:Nat):Scope:=match st with
 | .FunctionDef _ _ b _ _ _ _ _ _ _=>(match b[k]? with
  | some (.Assign _ (.ListComp _ _ sc _) _)=>sc
  | _=>HX st)
 | _=>HX st
theorem Wo{g:TG}{tb:TS}{D:Ends}(Pv:Nat→St→Hp→Prop)(h0:Pv 0 σ H)(hl:∀i σ H,i≤xs.length→Pv i σ H→SqL K H a xs)
 (hs:∀i x q σ H,xs[i]?=some x→H q=none→Pv i σ H→g (.ref q) σ (HI H q (.tup [.int i,x])) λσ2 H2=>tb {D with nx:=Pv (i+1),ct:=Pv (i+1),bk:=D.nx} σ2 H2) (hd:∀σ H,Pv xs.length σ H→D.nx σ H):
 ∃W:Nat→Nat→St→Hp→Prop,(∃m,W 0 m σ H)∧∀i m σ H,W i m σ H→
  ((NA K a).stop i H∧D.nx σ H)∨((NA K a).go i H∧∃N:St→Hp→Prop,(∀σ' H',N σ' H'→∃m',m'<m∧W (i+1) m' σ' H')∧∀x H',(NA K a).yld i H x H'→g x σ H' λσ2 H2=>tb {D with nx:=N,ct:=N,bk:=D.nx} σ2 H2):=by
 refine⟨λi m σ H=>m=xs.length - i∧i≤xs.length∧Pv i σ H,⟨xs.length,by simp,Br _,h0⟩,?_⟩;rintro i m σ H ⟨rfl,hi,p⟩;have q:=hl i σ H hi p;by_cases hlt:i<xs.length
 · have e1:xs[i]?=some (xs[i]'hlt):=by simp
   refine .inr ⟨⟨xs,_,q,e1⟩,Pv (i+1),λσ' H' p'=>⟨xs.length - (i+1),by omega,rfl,hlt,p'⟩,λx H' y=>?_⟩;obtain⟨c,rfl,hc,y⟩:=y;rw[y xs _ q e1];exact hs i _ c σ H e1 hc p
 · have e:i=xs.length:=by omega
   subst e;exact .inl ⟨⟨xs,q,Ag _⟩,hd σ H p⟩
def Vg(st:Stmt)(k:Nat):Scope:=match st with
 | .FunctionDef _ _ b _ _ _ _ _ _ _=>(match b[k]? with
  | some (.Return (some (.BinOp _ _ (.Call _ [.ListComp _ _ sc _] _ _) _)) _)=>sc
  | _=>HX st)
 | _=>HX st
theorem MA(f:Str):∀fs:List Str,L4 (.str f) (fs.map V.str)=decide (f∈fs)
 | []=>rfl
 | g::fs=>by have ih:=MA f fs;unfold L4 at ih ⊢;rw[A0,BO,ih];have e1:K6 (V.str g) (V.str f)=decide (g=f):=rfl;rw[e1,Bt,Bool.or_eq_true,decide_eq_true_iff,decide_eq_true_iff,decide_eq_true_iff,Ak];exact⟨λh=>h.imp Eq.symm id,λh=>h.imp Eq.symm id⟩
theorem NP(fs:List Str):(fs.map V.str).all Kw=true:=by rw[DA];exact A9.mpr λ_ _=>rfl
theorem SS:∀os:List (Option Int),L4 .non (os.map eV)=os.any (·.isNone)
 | []=>rfl
 | o::os=>by have ih:=SS os;unfold L4 at ih ⊢;rw[A0,BO,ih,BO];cases o<;>rfl
theorem XQ(os:List (Option Int)):(os.map eV).all Kw=true:=by rw[DA];exact A9.mpr λo _=>by cases o<;>rfl
theorem Tb:∀(os:List (Option Int)),os.any (·.isNone)=false→os.map eV=(os.map λo=>o.getD 0).map V.int
 | [],_=>rfl
 | o::os,h=>by
  rw[BO,Bool.or_eq_false_iff] at h;rw[A0,A0,A0,Tb os h.2];cases o with
  | none=>cases h.1
  | some i=>rfl
theorem XW(l:List (List WP)):(l.map IZ).any (·.isNone)=!l.all Ib∧(l.all Ib=true→(l.map IZ).map (λo=>o.getD 0)=l.map JX):=by
 constructor
 · rw[DE]
   induction l with
   | nil=>rfl
   | cons x l ih=> rw[BO,CF,ih];unfold IZ;dsimp only[DU];cases Ib x<;>simp
 · intro h;rw[BA];refine Dc λx hx=>?_;have:=A9.mp h x hx;show(IZ x).getD 0=_;unfold IZ;rw[if_pos this];rfl
structure Grid2(lo sz wide:Int)(s:IE):Prop where
 low:∀l,s.1=some l→∃i,0≤i∧i<wide∧l=lo+sz*i
 high:∀h,s.2=some h→∃j,1≤j∧j<2*wide∧h=lo+sz*j - 1
theorem Grid2.on{lo sz wide:Int}{s:IE}(g:Grid2 lo sz wide s)(hw:1≤wide):OnGrid lo sz (2*wide) s:=
 ⟨λl e=>let⟨i,a,b,c⟩:=g.low l e;⟨i,a,by omega,c⟩,λh e=>let⟨j,a,b,c⟩:=g.high h e;⟨j,by omega,b,c⟩⟩
def Mt(fs:List Str)(lo sz wide:Int)(w:List WP):Prop:=∀p∈w,p.1∈fs∧Grid2 lo sz wide p.2
def Sl:Sp:=λvs H Q _=>∃(b g l t:Addr)(n lo sz wide:Int),vs=[.ref b,.ref t,.int wide]∧Well H b g l n∧n≤10^8∧H t=some (.tup [.int lo,.int sz])∧1≤sz∧sz≤10^10∧1≤wide∧wide≤100∧
 ∀(r:Addr)(a b':Option Int)(H':Hp),H' r=some (.tup [eV a,eV b'])→(IY a b'=true∧Grid2 lo sz wide (a,b'))→Well H' b g l (n+3)→SameB b g H H'→Q (.ref r) H'
def Sn:Sp:=λvs H Q _=>∃(b g l a t:Addr)(n lo sz wide:Int)(fs:List Str),vs=[.ref b,.ref a,.ref t,.int wide]∧Well H b g l n∧n≤10^7∧NamesAt H b g a fs∧H t=some (.tup [.int lo,.int sz])∧1≤sz∧sz≤10^10∧1≤wide∧wide≤100∧
 ∀(r:Addr)(w:List WP)(H':Hp),WishAt H' r w→WOk w→Mt fs lo sz wide w→w.length≤6→Well H' b g l (n+30)→SameB b g H H'→Q (.ref r) H'
def Tv:Sp:=λvs H Q _=>∃(b g l a t:Addr)(n lo sz wide many:Int)(fs:List Str),vs=[.ref b,.ref a,.ref t,.int wide,.int many]∧Well H b g l n∧n≤10^6∧NamesAt H b g a fs∧H t=some (.tup [.int lo,.int sz])∧1≤sz∧sz≤10^10∧1≤wide∧wide≤100∧0≤many∧many≤400∧
 ∀(r:Addr)(ws:List (Addr×List WP))(H':Hp),H r=none→WsAt H' r ws→(ws.length:Int)=many→(∀x∈ws,Mt fs lo sz wide x.2∧x.2.length≤6)→Well H' b g l (n+40*many)→SameB b g H H'→Q (.ref r) H'
def JM(lo sz:Int)(p:WP):WP:=(p.1,some (p.2.1.getD lo),some (p.2.2.getD (p.2.1.getD lo+sz - 1)))
def K9(lo sz:Int)(w:List WP):List WP:=w.map (JM lo sz)
theorem YD(lo sz:Int)(w:List WP):(K9 lo sz w).map (·.1)=w.map (·.1):=by unfold K9;rw[BA];rfl
theorem RA{lo sz wide:Int}{w:List WP}(hz:1≤sz)(hw:1≤wide)(kw:WOk w)(g:∀p∈w,Grid2 lo sz wide p.2):WOk (K9 lo sz w)∧I_ lo sz (2*wide) (K9 lo sz w):=by
 refine⟨⟨by unfold K9;rw[Ab];exact kw.len,λp hp=>?_,by rw[YD];exact kw.asc⟩,λp hp=>?_⟩
 · obtain⟨q,hq,rfl⟩:=Ay.mp hp;refine⟨(kw.ok q hq).1,?_⟩;have le:=(kw.ok q hq).2;have gq:=g q hq;obtain⟨f,a,b⟩:=q;show IY (some (a.getD lo)) (some (b.getD (a.getD lo+sz - 1)))=true;cases b with
   | none=>exact decide_eq_true (by show a.getD lo≤a.getD lo+sz - 1;omega)
   | some h=>
    cases a with
    | some l=>exact le
    | none=> obtain⟨j,j1,_,e⟩:=gq.high h rfl;have:sz*1≤sz*j:=Cn j1 (by omega);exact decide_eq_true (by show lo≤h;omega)
 · obtain⟨q,hq,rfl⟩:=Ay.mp hp;have gq:=g q hq;obtain⟨f,a,b⟩:=q;have lowI:∃i,0≤i∧i<wide∧a.getD lo=lo+sz*i:=by
    cases a with
    | none=>exact⟨0,by omega,by omega,by show lo=_;omega⟩
    | some l=>exact gq.low l rfl
   obtain⟨i,i0,i1,ei⟩:=lowI;refine⟨λl e=>?_,λh e=>?_⟩
   · cases e;exact⟨i,i0,by omega,ei⟩
   · cases e;cases b with
     | none=> refine⟨i+1,by omega,by omega,?_⟩;show a.getD lo+sz - 1=_;rw[ei,Int.mul_add];omega
     | some h=> obtain⟨j,j1,j2,e⟩:=gq.high h rfl;exact⟨j,by omega,j2,e⟩
def R5:Sp:=λvs H Q _=>∃(l t:Addr)(ws:List (Addr×List WP))(lo sz wide:Int),vs=[.ref l,.ref t]∧WsAt H l ws∧ws.length≤7∧H t=some (.tup [.int lo,.int sz])∧1≤sz∧1≤wide∧(∀x∈ws,∀p∈x.2,Grid2 lo sz wide p.2)∧
 ∀(r:Addr)(ws':List (Addr×List WP))(H':Hp),Same H H'→H r=none→WsAt H' r ws'→ws'.map (·.2)=(ws.map (·.2)).map (K9 lo sz)→Q (.ref r) H'
def Ts:Sp:=λvs H Q _=>∃(l:Addr)(ws:List (Addr×List WP)),vs=[.ref l]∧WsAt H l ws∧ws.length≤7∧(∀x∈ws,x.2.length≤6)∧
 ∀(r:Addr)(fs:List Str)(H':Hp),Same H H'→H r=none→H' r=some (.lst (fs.map V.str))→FieldsOf (ws.map (·.2)) fs→fs.length≤60→Q (.ref r) H'
def Tr:Sp:=λvs H Q _=>∃(a l:Addr)(w:List WP)(fs:List Str),vs=[.ref a,.ref l]∧WishAt H a w∧WOk w∧H l=some (.lst (fs.map V.str))∧fs.length≤3∧∀H',Same H H'→Q (.bl (!Ib (IK fs w))) H'
def Sh:Sp:=λvs H Q _=>∃(l f t:Addr)(ws:List (Addr×List WP))(fs:List Str)(lo sz wide:Int),vs=[.ref l,.ref f,.ref t,.int wide]∧WsAt H l ws∧ws.length≤7∧H f=some (.lst (fs.map V.str))∧ToldF fs∧H t=some (.tup [.int lo,.int sz])∧1≤sz∧sz≤10^10∧1≤wide∧wide≤9∧
 ∀H',Same H H'→Q (.int (sz^fs.length*((IM (Jv lo sz (2*wide+1).toNat) fs).countP (λP=>ws.any λw=>HV w.2 P):Int))) H'
def Rk:Sp:=λvs H Q _=>∃(l f:Addr)(pick:Int)(ws:List (Addr×List WP))(ns fs:List Str)(lo sz m:Int),vs=[.ref l,.ref f,.int pick]∧WsAt H l ws∧ws.length≤7∧ToldF ns∧(∀x∈ws,Nq ns x.2)∧ToldF fs∧H f=some (.lst (fs.map V.str))∧(pick=0∨pick=1→FieldsOf (ws.map (·.2)) fs)∧NH sz m∧(∀x∈ws,I_ lo sz m x.2)∧∀H',Same H H'→Q (eV (IV fs (ws.map (·.2)))) H'
theorem WE(K:Ao)(h:X.K=K)(hc:X.calm=true):J5 X (.builtin "any") (λxs H Q=>∃(a:Addr)(bs:List Bool),xs=[.ref a]∧SqL K H a (bs.map V.bl)∧Q (.bl (bs.any id)) H):=by subst h;exact We hc
theorem RS:∀ws:List (Addr×List WP),(∀x∈ws,WishAt H x.1 x.2)→Reps K H ((ws.map (·.2)).map dW) (ws.map λx=>V.ref x.1)
 | [],_=>by show Reps K H [] [];rw[Reps]
 | x::ws,h=>by show Reps K H (dW x.2::_) (V.ref x.1::_);rw[Reps];exact⟨_,_,rfl,Vf (h x AA),RS ws λy hy=>h y (AB _ hy)⟩
theorem S_:∀ws:List (List WP),Ja (ws.map dW)≤2
 | []=>by show Ja []≤2;rw[Ja];omega
 | w::ws=>by rw[A0,Ja];have h1:=Vw w;have h2:=S_ ws;omega
def Lc(ws:List (List WP))(fs:List Str):PD:= .tup [.lst (ws.map dW),.lst (fs.map PD.str)]
theorem R0{c:Addr}{ws:List (Addr×List WP)}{fs:List Str}(hc:H c=some (.tup [.ref a,.ref b]))(ha:H a=some (.lst (ws.map λx=>V.ref x.1)))(hw:∀x∈ws,WishAt H x.1 x.2)(hb:H b=some (.lst (fs.map V.str))):HJ K H (Lc (ws.map (·.2)) fs) (.ref c):=by
 unfold Lc;rw[HJ];refine⟨c,_,rfl,SqT.of hc,?_⟩;rw[Reps];refine⟨_,_,rfl,?_,?_⟩
 · rw[HJ];exact⟨a,_,rfl,SqL.of ha,RS ws hw⟩
 · rw[Reps];refine⟨_,_,rfl,?_,by rw[Reps]⟩;rw[HJ];exact⟨b,_,rfl,SqL.of hb,SA fs⟩
theorem Wg(ws:List (List WP))(fs:List Str):Je (Lc ws fs)<60:=by unfold Lc;rw[Je,Ja,Ja,Ja,Je,Je,Uh];have:=S_ ws;omega
theorem VB(ws:List (List WP))(fs:List Str):Ip (Lc ws fs) (Lc ws fs)=true:=by unfold Lc;rw[Ip];exact MP _
theorem XM{told gs:List Str}{w:List WP}(h:FieldsOf [w] gs):((gs.filter λf=>!decide (f∈told)).map V.str).isEmpty=Jl told w:=by
 rw[Fn,Bt,Fo,DR];unfold Jl;rw[A9];constructor
 · intro h1 p hp;have:p.1∈gs:=(h.mem p.1).mpr ⟨w,by simp,A3 hp⟩;have:=h1 p.1 this;simpa using this
 · intro h1 f hf;obtain⟨x,hx,hf⟩:=(h.mem f).mp hf;rw[Ae.mp hx] at hf;obtain⟨p,hp,rfl⟩:=Ay.mp hf;have:=h1 p hp;simpa using this
theorem XE{lo sz wide:Int}{fs:List Str}{ws so:List (Addr×List WP)}(tf:ToldF fs)(hz:1≤sz)(hw:1≤wide)(ok:∀x∈ws,WOk x.2)(g:∀x∈ws,I_ lo sz (2*wide) x.2)(hs:so=ws.filter λx=>Jl fs x.2):
 IV fs (ws.map (·.2))=if(so.filter λx=>!Ib (IK fs x.2)).isEmpty=true then some (sz^fs.length*((IM (Jv lo sz (2*wide+1).toNat) fs).countP (λP=>so.any λw=>HV w.2 P):Int)) else none:=by
 have e0:((ws.map (·.2)).filter λx=>Jl fs x).map (λx=>IK fs x)=so.map λx=>IK fs x.2:=by rw[hs,List.filter_map,BA];rfl
 unfold IV;rw[e0];have mso:∀x∈so,x∈ws∧Jl fs x.2=true:=λx hx=>by rw[hs] at hx;exact C7.mp hx
 have okf:∀w∈so.map (λx=>IK fs x.2),WOk w∧w.length≤3∧w.map (·.1)=fs:=λw hw'=>by obtain⟨x,hx,rfl⟩:=Ay.mp hw';refine⟨RG tf.len tf.ok tf.asc (ok x (mso x hx).1),?_,TQ fs x.2⟩;unfold IK;rw[Ab];exact tf.len
 by_cases h:(so.filter λx=>!Ib (IK fs x.2)).isEmpty=true
 · rw[if_pos h];rw[Fo,DR] at h;rw[XD (lo:=lo) (sz:=sz) (m:=2*wide) (k:=(2*wide+1).toNat) (fs:=fs) (by omega) hz okf (λw hw'=>?_) (λw hw'=>?_)]
   · congr 3;refine List.countP_congr λP hP=>?_;rw[DE];have hPf:=PQ _ fs rfl P hP;have:so.any ((λw=>HV w P)∘λx=>IK fs x.2)=so.any λw=>HV w.2 P:=by
      rw[Bt,Ct,Ct];constructor
      · rintro⟨x,hx,t⟩;exact⟨x,hx,by rw[←TU (ok x (mso x hx).1) tf.asc (mso x hx).2 hPf];exact t⟩
      · rintro⟨x,hx,t⟩;exact⟨x,hx,by show HV (IK fs x.2) P=true;rw[TU (ok x (mso x hx).1) tf.asc (mso x hx).2 hPf];exact t⟩
     rw[this]
   · obtain⟨x,hx,rfl⟩:=Ay.mp hw';exact Tc (g x (mso x hx).1)
   · obtain⟨x,hx,rfl⟩:=Ay.mp hw';have:=h x hx;simpa using this
 · rw[if_neg h];have:∃x∈so,Ib (IK fs x.2)=false:=by
    cases e:(so.filter λx=>!Ib (IK fs x.2)) with
    | nil=>rw[e] at h;exact absurd rfl h
    | cons x r=>
     have:x∈so.filter λx=>!Ib (IK fs x.2):=by rw[e];exact AA
     obtain⟨h1,h2⟩:=C7.mp this;exact⟨x,h1,by simpa using h2⟩
   obtain⟨x,hx,b⟩:=this;exact XC okf ⟨_,Ay.mpr ⟨x,hx,rfl⟩,b⟩
end L2
set_option maxHeartbeats 4000000
namespace K15
open PySem PySem.Spec PyProof.Rows L2
theorem Ih{α:Type}{l:List (Addr×α)}{x:V}(h:(l.map λy=>V.ref y.1)[i]?=some x):∃y,l[i]?=some y∧x=V.ref y.1:=by
 rw[Af] at h;cases e:l[i]? with
 | none=>rw[e] at h;cases h
 | some y=>rw[e] at h;exact⟨y,rfl,(Az h).symm⟩
def top(i:Nat):Stmt:=PySem.Challenge.pw_newsways_k15_how_many_by_trial.main.body.getD i (.Pass ⟨0,0,0,0⟩)
abbrev Pt:Stmt:=top 7
abbrev Pd:Stmt:=top 8
abbrev P9:Stmt:=top 9
abbrev P_:Stmt:=top 10
abbrev PM:Stmt:=top 11
abbrev MM:Stmt:=top 12
abbrev Oc:Stmt:=top 15
abbrev Qc:Stmt:=top 16
abbrev Oi:Stmt:=top 17
abbrev Og:Stmt:=top 18
abbrev Ol:Stmt:=top 19
abbrev Qh:Stmt:=top 20
abbrev Ou:Stmt:=top 21
abbrev Oq:Stmt:=top 22
abbrev Qd:Stmt:=top 33
abbrev Qb:Stmt:=top 32
abbrev Oh:Stmt:=top 31
abbrev NX:Stmt:=top 30
abbrev PR:Stmt:=top 27
abbrev PN:Stmt:=top 37
abbrev Op:Stmt:=top 35
abbrev NY:Stmt:=top 36
abbrev MR:Stmt:=top 34
abbrev MS:Stmt:=top 29
abbrev Qg:Stmt:=top 28
abbrev Ot:Stmt:=top 26
abbrev MQ:Stmt:=top 39
abbrev Py:Stmt:=top 40
abbrev Od:Stmt:=top 41
abbrev Qa:Stmt:=top 42
abbrev Pu:Stmt:=top 43
abbrev Pw:Stmt:=top 44
abbrev Px:Stmt:=top 45
abbrev P0:Stmt:=top 46
abbrev PF:Stmt:=top 47
abbrev PV:Stmt:=top 49
abbrev PU:Stmt:=top 48
abbrev Qe:Stmt:=top 50
abbrev Qf:Stmt:=top 51
abbrev ML:Stmt:=top 52
abbrev Lz:Stmt:=top 53
abbrev Pz:Stmt:=top 54
abbrev Kk:Stmt:=top 55
def Ow(m:Nat):Sp:=λvs H Q _=>∃(v v':V)(d:DY),vs=[v,v']∧m≤9∧Ld H d v∧Ld H d v'∧O8 d≤m∧∀H',Same H H'→Q (.bl true) H'
section
variable{mg:Str→Option Value}{base:Heap}
theorem ID{N P:List Str}{sc:Scope}(h1:sc.kind= .function:=by rfl)(h2:sc.isCoroutine=false:=by rfl)(h3:sc.isGenerator=false:=by rfl)(h4:N.Nodup:=by decide+kernel)(h5:N.take P.length=P:=by rfl)(h6:∀x∈P,sc.names.lookup x=some .local∨sc.names.lookup x=some .cell:=by decide+kernel)(h7:∀y∈sc.names,y.2≠ .free:=by decide+kernel):FnScope N P sc:=⟨h1,h2,h3,h4,h5,h6,h7⟩
theorem Zi:FnScope ["thing"] ["thing"] (HX Pt):=ID
theorem Xz:FnScope ["thing"] ["thing"] (HX Pd):=ID
theorem Gz:FnScope ["thing","low","high"] ["thing"] (HX P9):=ID
theorem Z7:FnScope ["thing"] ["thing"] (HX P_):=ID
theorem G0:FnScope ["span","low","high"] ["span"] (HX PM):=ID
theorem G1:FnScope ["one","other","low","high"] ["one","other"] (HX MM):=ID
theorem Zh:FnScope ["thing"] ["thing"] (HX Oc):=ID
theorem G2:FnScope ["thing","field","low","high"] ["thing"] (HX Qc):=ID
theorem zdP:FnScope ["parts"] ["parts"] (HX Oi):=ID
theorem Yh:FnScope ["thing"] ["thing"] (HX Og):=ID
theorem Z6:FnScope ["thing"] ["thing"] (HX Ol):=ID
theorem zd3:FnScope ["thing"] ["thing"] (HX Qh):=ID
theorem zdl:FnScope ["wish"] ["wish"] (HX Ou):=ID
theorem G3:FnScope ["one","other","met","field","low","high","shared"] ["one","other"] (HX Oq):=ID
theorem G4:FnScope ["span","inner","low","high","inner_low","inner_high","below","above"] ["span","inner"] (HX Qd):=ID
theorem G5:FnScope ["wish","other","met","parts","at","field","low","high","part_low","part_high"] ["wish","other"] (HX Qb):=ID
theorem G6:FnScope ["wish","others","parts","other"] ["wish","others"] (HX Oh):=ID
theorem ZC:FnScope ["wishes"] ["wishes"] (HX NX):=ID
theorem ZB:FnScope ["wishes","fields"] ["wishes","fields"] (HX PR):=ID
theorem G7:FnScope ["wish","product","field","low","high","many"] ["wish"] (HX PN):=ID
theorem ZN:FnScope ["wish","fields"] ["wish","fields"] (HX Op):=ID
theorem G8:FnScope ["wish","fields","spans"] ["wish","fields"] (HX NY):=ID
theorem G9:FnScope ["wishes","fields","filled","numbers","at","wish"] ["wishes","fields"] (HX MR):=ID
theorem zcO:FnScope ["thing"] ["thing"] (HX MS):=ID
theorem zd4:FnScope ["thing"] ["thing"] (HX Qg):=ID
theorem GA:FnScope ["wishes","fields","own_fields"] ["wishes","fields"] (HX Ot):=ID
theorem GB:FnScope ["script","great","small","seed","number"] ["script"] (HX MQ):=ID
theorem GC:FnScope ["well","many","number","cell"] ["well","many"] (HX Py):=ID
theorem GD:FnScope ["well","most","letters"] ["well","most"] (HX Od):=ID
theorem GE:FnScope ["well","many","letters","found","k","pick","first","letter","at","word"] ["well","many"] (HX Qa):=ID
theorem GF:FnScope ["well","pick","sign","number"] ["well"] (HX Pu):=ID
theorem GG:FnScope ["well","pick","size"] ["well"] (HX Pw):=ID
theorem GH:FnScope ["well","grid","wide","pick","low","high"] ["well","grid","wide"] (HX Px):=ID
theorem GI:FnScope ["well","names","grid","wide","parts","field","low","high"] ["well","names","grid","wide"] (HX P0):=ID
theorem GJ:FnScope ["well","names","grid","wide","many","found","k","pick","wish","old","at"] ["well","names","grid","wide","many"] (HX PF):=ID
theorem ZD:FnScope ["thing"] ["thing"] (HX PV):=ID
theorem GK:FnScope ["wish","piece","there","field","low","high"] ["wish","piece"] (HX PU):=ID
theorem GL:FnScope ["wishes","grid","found","wish","parts","field","low","high","first"] ["wishes","grid"] (HX Qe):=ID
theorem GM:FnScope ["wishes","found","wish","field","low","high"] ["wishes"] (HX Qf):=ID
theorem GN:FnScope ["wish","told","there"] ["wish","told"] (HX ML):=ID
theorem GO:FnScope ["wishes","told","grid","wide","numbers","found","size","field","longer","piece"] ["wishes","told","grid","wide"] (HX Lz):=ID
theorem Zj:FnScope ["wishes","told","pick"] ["wishes","told","pick"] (HX Pz):=ID
theorem GP:FnScope ["script","well","pick","ends","names","wide","grid","wishes","told","more","handed","found","some"] ["script"] (HX Kk):=ID
section
variable(P:Bv)(w:World)(K:Ao)(mg:Str→Option Value)(base:Heap)
abbrev Γ0:=IF P w K mg base 1 "is_whole" ["thing"] (NO K)
abbrev Γ1:=IF P w K mg base 2 "is_end" ["thing"] (Ra K)
abbrev Γ2:=IF P w K mg base 3 "is_span" ["thing"] (SD K)
abbrev Γ3:=IF P w K mg base 4 "check_span" ["thing"] (RW K)
abbrev Γ6:=IF P w K mg base 1 "is_field" ["thing"] (RX)
abbrev Γ8:=IF P w K mg base 1 "fields_ascend" ["parts"] (SB)
abbrev Γ7:=IF P w K mg base 4 "is_wish_part" ["thing"] (Uc)
abbrev Γ9:=IF P w K mg base 5 "is_wish" ["thing"] (SE)
abbrev Γ10:=IF P w K mg base 6 "are_wishes" ["thing"] (RV)
abbrev Γ12:=IF P w K mg base 1 "spans_by_field" ["wish"] (Ub)
abbrev Γ5:=IF P w K mg base 1 "span_shared" ["one","other"] (SG)
abbrev Γ13:=IF P w K mg base 2 "wish_shared" ["one","other"] (R9)
abbrev Γ14:=IF P w K mg base 1 "spans_beside" ["span","inner"] (Uu)
abbrev Γ15:=IF P w K mg base 3 "parts_beside_one" ["wish","other"] (Ua)
abbrev Γ4:=IF P w K mg base 5 "how_many_in" ["span"] (Rc)
abbrev Γ21:=IF P w K mg base 2 "filled_up" ["wish","fields"] (R7)
abbrev Γ20:=IF P w K mg base 1 "has_no_more" ["wish","fields"] (SF)
abbrev Γ19:=IF P w K mg base 6 "how_many_of" ["wish"] (Sg)
abbrev Γ16:=IF P w K mg base 4 "parts_beside" ["wish","others"] (Sk)
abbrev Γ23:=IF P w K mg base 2 "is_list_of_fields" ["thing"] (Si)
abbrev Γ11:=IF P w K mg base 7 "check_wishes" ["thing"] (SC)
abbrev Γ17:=IF P w K mg base 1 "fields_of" ["wishes"] (T_)
abbrev Γ18:=IF P w K mg base 1 "check_few" ["wishes","fields"] (Rb)
abbrev Γ22:=IF P w K mg base 7 "how_many_wanted" ["wishes","fields"] (SH)
abbrev Γ24:=IF P w K mg base 3 "check_fields" ["thing"] (R6)
abbrev Γ27:=IF P w K mg base 1 "_law_take" ["well","many"] (Rj)
abbrev Γ28:=IF P w K mg base 2 "_law_name" ["well","most"] (Ri)
abbrev Γ30:=IF P w K mg base 2 "_law_base" ["well"] (R4)
abbrev Γ32:=IF P w K mg base 2 "_law_span" ["well","grid","wide"] (Sl)
abbrev Γ33:=IF P w K mg base 3 "_law_wish" ["well","names","grid","wide"] (Sn)
abbrev Γ36:=IF P w K mg base 1 "_law_wants" ["wish","piece"] (Sm)
abbrev Γ25:=Lg P w K mg base 8 "how_many_pieces" "wishes" "fields" (Sj)
abbrev Γ26:=IF P w K mg base 1 "_law_well" ["script"] (Rm K)
abbrev Γ29:=IF P w K mg base 3 "_law_fields" ["well","many"] (Tu)
abbrev Γ31:=IF P w K mg base 3 "_law_grid" ["well"] (R8)
abbrev Γ34:=IF P w K mg base 4 "_law_wishes" ["well","names","grid","wide","many"] (Tv)
abbrev Γ41:=IF P w K mg base 9 "_law_told" ["wishes","told","pick"] (Rk)
abbrev Γ37:=IF P w K mg base 1 "_law_both_ends" ["wishes","grid"] (R5)
abbrev Γ38:=IF P w K mg base 1 "_law_fields_of" ["wishes"] (Ts)
abbrev Γ35:=IF P w K mg base 1 "_law_whole" ["thing"] (NO K)
abbrev Γ40:=IF P w K mg base 3 "_law_many" ["wishes","told","grid","wide"] (Sh)
abbrev Γ39:=IF P w K mg base 1 "_law_endless" ["wish","told"] (Tr)
end
theorem U6:0≤Au:=by decide
theorem Kh:1≤Au:=by decide
theorem QQ:4≤Au:=by decide
theorem zq5:5≤Au:=by decide
theorem zq6:6≤Au:=by decide
theorem zq8:8≤Au:=by decide
theorem Np:Bs (["end"]:List Str):=by decide+kernel
theorem Q8:Bs (["sign"]:List Str):=by decide+kernel
theorem La:Bs (["ahead","behind"]:List Str):=by decide+kernel
theorem Nc:Bs (["part"]:List Str):=by decide+kernel
theorem Q7:Bs (["wish"]:List Str):=by decide+kernel
theorem Kd:Bs (["field","low","high"]:List Str):=by decide+kernel
theorem Q6:Bs (["field","met"]:List Str):=by decide+kernel
theorem Nb:Bs (["part","smaller","other"]:List Str):=by decide+kernel
theorem K_:Bs (["wish","field","low","high"]:List Str):=by decide+kernel
theorem LP:Bs (["field","low","high","fields"]:List Str):=by decide+kernel
theorem No:Bs (["field","spans"]:List Str):=by decide+kernel
theorem Nn:Bs (["wish","fields"]:List Str):=by decide+kernel
theorem Nm:Bs (["field"]:List Str):=by decide+kernel
theorem L3:Bs (["cell"]:List Str):=by decide+kernel
theorem Nl:Bs (["k","well","letters"]:List Str):=by decide+kernel
theorem Nk:Bs (["field","there"]:List Str):=by decide+kernel
theorem Nj:Bs (["k","grid"]:List Str):=by decide+kernel
theorem Ni:Bs (["number","field","piece"]:List Str):=by decide+kernel
theorem Nh:Bs (["piece","wishes"]:List Str):=by decide+kernel
theorem Ng:Bs (["wish","piece"]:List Str):=by decide+kernel
theorem Nf:Bs (["field","well"]:List Str):=by decide+kernel
theorem L1:Bs (["wish","told"]:List Str):=by decide+kernel
theorem Nd:Bs (["field","told"]:List Str):=by decide+kernel
theorem Jk:2≤Au:=by decide
theorem Li:3≤Au:=by decide
variable{f:Addr}{fd:BD}(B:Bl mg){t_MOST_LETTERS:Tok}(C_MOST_LETTERS:mg "MOST_LETTERS"=some (.int 8 t_MOST_LETTERS)){t_MOST_WISHES:Tok}(C_MOST_WISHES:mg "MOST_WISHES"=some (.int 7 t_MOST_WISHES)){t_MOST_FIELDS:Tok}(C_MOST_FIELDS:mg "MOST_FIELDS"=some (.int 3 t_MOST_FIELDS))
include B C_MOST_LETTERS C_MOST_WISHES C_MOST_FIELDS
theorem Zq(F:Fun K "is_whole" "is_whole" Pt f fd)  :FnOk P w K mg base Ir 1 f fd ["thing"] (NO K):=by
 refine F.ok Zi (λvs H Q E h=>?_) (λcdv A outer s H vs Q E hr h=>?_)
 · obtain⟨v,t,rfl,hty,q⟩:=h;rfl
 obtain⟨v,t,rfl,hty,q⟩:=h;refine⟨_,(HW (Ik (Me (Iy (KE (n:="")) rfl B.isinstance_ KH (HG (pv 0) (HG (KD (v:= .ty "int") rfl B.int_ Rq rfl) HH))) (Lm (Rz (Iy (KE (n:="")) rfl B.isinstance_ KH (HG (pv 0) (HG (KD (v:= .ty "bool") rfl B.bool_ RB rfl) HH)))))))),?_⟩;cases hty
 all_goals first
  | exact⟨_,rfl,_,"int","int",true,rfl,.int _,rfl,_,rfl,HP ⟨_,rfl,_,"int","bool",false,rfl,.int _,rfl,_,rfl,q⟩⟩
  | exact⟨_,rfl,_,"bool","int",true,rfl,.bl _,rfl,_,rfl,HP ⟨_,rfl,_,"bool","bool",true,rfl,.bl _,rfl,_,rfl,q⟩⟩
  | exact⟨_,rfl,_,_,"int",false,rfl,(by first | exact .non | exact .str _ | exact .flt _ | (exact .lst (by assumption)) | (exact .frz (by assumption)) | (exact .tup (by assumption)) | (exact .dK (by assumption)) | (exact .dT (by assumption))),rfl,_,rfl,HR q⟩
theorem Xs(F:Fun K "is_end" "is_end" Pd f fd)(GQ:Γ0 P w K mg base):FnOk P w K mg base Ir 2 f fd ["thing"] (Ra K):=by
 refine F.ok Xz (λvs H Q E h=>?_) (λcdv A outer s H vs Q E hr h=>?_)
 · obtain⟨v,t,rfl,hty,q⟩:=h;rfl
 obtain⟨v,t,rfl,hty,q⟩:=h;refine⟨_,(HW (Ik (O4 (NI (Km (pv 0))) (Lm (Ie GQ (hr.mono (by decide)) rfl (HG (pv 0) HH)))))),?_⟩;refine⟨_,rfl,_,rfl,?_⟩;cases hty
 case non=>exact HP q
 all_goals refine HR ?_
 case int i=>exact⟨_,rfl,_,_,rfl,.int _,q⟩
 all_goals exact⟨_,rfl,_,_,rfl,(by first | exact .bl _ | exact .str _ | exact .flt _ | (exact .lst (by assumption)) | (exact .frz (by assumption)) | (exact .tup (by assumption)) | (exact .dK (by assumption)) | (exact .dT (by assumption))),q⟩
theorem XY(F:Fun K "is_span" "is_span" P9 f fd)(GR:Γ1 P w K mg base):FnOk P w K mg base Ir 3 f fd ["thing"] (SD K):=by
 refine F.ok Gz (λvs H Q E h=>?_) (λcdv A outer s H vs Q E hr h=>?_)
 · obtain⟨v,t,rfl,hty,hp,q⟩:=h;rfl
 obtain⟨v,t,rfl,hty,hp,q⟩:=h;refine⟨_,(HQ (IH (PW.pt (Ll (Ko (J_ (Iy (KE (n:="")) rfl B.isinstance_ KH (HG (pv 0) (HG (KD (v:= .ty "tuple") rfl B.tuple_ LH rfl) HH))))) (Lo (IA NF (Iy JQ rfl B.len_ J9 (HG (pv 0) HH)) HL (I0 _))))) (HW (Ik Kj)) IG)
  (HQ (KW (pv 0) (JI rfl (Iq (H_ (i:=1) Gz.nd rfl (Or.inl rfl)) (Iq (H_ (i:=2) Gz.nd rfl (Or.inl rfl)) Jr))))
  (HQ (IH (PW.pt (Ll (Ko (J_ (Ie GR (hr.mono (by decide)) rfl (HG (pv 1) HH)))) (Lo (Ko (J_ (Ie GR (hr.mono (by decide)) rfl (HG (pv 2) HH))))))) (HW (Ik Kj)) IG)
  (HW (Ik (O4 (NI (Km (pv 1))) (O4 (NI (Km (pv 2))) (Lm (Mh O3 (pv 1) (pv 2) (I0 _)))))))))),?_⟩
 have q0:Kc H v=false→Q (.bl false) H:=λh=>by rw[←h];exact q
 cases hty
 case tup a xs e=>
  refine⟨_,rfl,_,"tuple","tuple",true,rfl,.tup e,rfl,_,rfl,HR ⟨_,rfl,a,_,rfl,.inr (SqT.of e),rfl,_,rfl,?_⟩⟩;by_cases hl:xs.length=2
  · match xs,hl with
    | [x,y],_=>
     refine HR ⟨_,rfl,a,_,rfl,SqT.of e,rfl,_,_,rfl,_,_,rfl,rfl,?_⟩;obtain⟨t1,t2,h1,h2⟩:=hp a x y rfl e;have es:Kc H (.ref a)=(JG x && JG y && QB x y):=by unfold Kc;simp only[e]
     rw[es] at q;refine⟨_,rfl,_,_,rfl,h1,_,rfl,?_⟩;cases ex:JG x with
     | false=> rw[ex] at q;exact HP q
     | true=>
      rw[ex] at q;refine HR ⟨_,rfl,_,_,rfl,h2,_,rfl,?_⟩;cases ey:JG y with
      | false=> rw[ey] at q;exact HP q
      | true=>
       rw[ey] at q;refine HR ⟨_,rfl,_,rfl,?_⟩;cases x with
       | non=>exact HP q
       | int i=>
        refine HR ⟨_,rfl,_,rfl,?_⟩;cases y with
        | non=>exact HP q
        | int j=>exact HR ⟨_,rfl,_,rfl,_,_,rfl,rfl,q⟩
        | _=>exact absurd ey As
       | _=>exact absurd ex As
  · have es:Kc H (.ref a)=false:=by
     unfold Kc;simp only[e]
     match xs,hl with
     | [],_=>rfl
     | [_],_=>rfl
     | [_,_],h=>exact absurd rfl h
     | _::_::_::_,_=>rfl
    have ed:(!decide (V.int ((xs.length:Nat):Int)=V.int 2))=true:=by
     have:¬V.int ((xs.length:Nat):Int)=V.int 2:=λz=>by injection z with z;omega
     rw[decide_eq_false this];rfl
    rw[es] at q;show if(!decide (V.int ((xs.length:Nat):Int)=V.int 2))=true then _ else _
    rw[ed];exact HP q
 case non=>exact⟨_,rfl,_,_,"tuple",false,rfl,.non,rfl,_,rfl,HP (q0 rfl)⟩
 case bl b=>exact⟨_,rfl,_,_,"tuple",false,rfl,(.bl b),rfl,_,rfl,HP (q0 rfl)⟩
 case int i=>exact⟨_,rfl,_,_,"tuple",false,rfl,(.int i),rfl,_,rfl,HP (q0 rfl)⟩
 case str x=>exact⟨_,rfl,_,_,"tuple",false,rfl,(.str x),rfl,_,rfl,HP (q0 rfl)⟩
 case flt x=>exact⟨_,rfl,_,_,"tuple",false,rfl,(.flt x),rfl,_,rfl,HP (q0 rfl)⟩
 case lst a xs e=>exact⟨_,rfl,_,_,"tuple",false,rfl,(.lst e),rfl,_,rfl,HP (q0 (by unfold Kc;simp only[e]))⟩
 case frz a o xs e=>exact⟨_,rfl,_,_,"tuple",false,rfl,(.frz e),rfl,_,rfl,HP (q0 (by unfold Kc;simp only[e]))⟩
 case dK a kvs e=>exact⟨_,rfl,_,_,"tuple",false,rfl,(.dK e),rfl,_,rfl,HP (q0 (by unfold Kc;simp only[e]))⟩
 case dT a kvs e=>exact⟨_,rfl,_,_,"tuple",false,rfl,(.dT e),rfl,_,rfl,HP (q0 (by unfold Kc;simp only[e]))⟩
theorem Z3(F:Fun K "check_span" "check_span" P_ f fd)(GS:Γ2 P w K mg base):FnOk P w K mg base Ir 4 f fd ["thing"] (RW K):=by
 refine F.ok Z7 (λvs H Q E h=>?_) (λcdv A outer s H vs Q E hr h=>?_)
 · obtain⟨v,t,rfl,hty,hp,hs,q⟩:=h;rfl
 obtain⟨v,t,rfl,hty,hp,hs,q⟩:=h;refine⟨_,(HW (IH (Ko (J_ (Ie GS (hr.mono (by decide)) rfl (HG (pv 0) HH)))) (HW MJ) IG)),?_⟩;refine⟨_,rfl,v,t,rfl,hty,hp,_,rfl,?_⟩;rw[hs];exact HR q
theorem ZY(F:Fun K "how_many_in" "how_many_in" PM f fd)(GT:Γ3 P w K mg base):FnOk P w K mg base Ir 5 f fd ["span"] (Rc):=by
 refine F.ok G0 (λvs H Q E h=>?_) (λcdv A outer s H vs Q E hr h=>?_)
 · obtain⟨v,lo,hi,rfl,S1,hl,q⟩:=h;rfl
 obtain⟨v,lo,hi,rfl,S1,hl,q⟩:=h;refine⟨_,(HQ (Kr (Ie GT (hr.mono (by decide)) rfl (HG (pv 0) HH)))
  (HQ (KW (pv 0) (JI rfl (Iq (H_ (i:=1) G0.nd rfl (Or.inl rfl)) (Iq (H_ (i:=2) G0.nd rfl (Or.inl rfl)) Jr))))
  (HQ (IH (PW.pt (Ll (J7 (Km (pv 1))) (Lo (J7 (Km (pv 2)))))) (HW (Ik JB)) IG)
  (HW (Ik (Ia Jf (Ia KB (pv 2) (pv 1)) HL)))))),?_⟩
 refine⟨_,rfl,v,"tuple",rfl,S1.ty.1,S1.ty.2,(Tg S1).trans hl,?_⟩;obtain⟨a,rfl,e1⟩:=S1;refine⟨_,rfl,a,_,rfl,SqT.of e1,rfl,_,_,rfl,_,_,rfl,rfl,?_⟩;cases lo with
 | none=>exact⟨_,rfl,_,rfl,HP q⟩
 | some l=>
  cases hi with
  | none=>exact⟨_,rfl,_,rfl,HR ⟨_,rfl,_,rfl,HP q⟩⟩
  | some h=>exact⟨_,rfl,_,rfl,HR ⟨_,rfl,_,rfl,HR ⟨_,rfl,_,rfl,_,_,rfl,rfl,_,_,rfl,rfl,q⟩⟩⟩
theorem zeA(F:Fun K "span_shared" "span_shared" MM f fd)  :FnOk P w K mg base Ir 1 f fd ["one","other"] (SG):=by
 refine F.ok G1 (λvs H Q E h=>?_) (λcdv A outer s H vs Q E hr h=>?_)
 · obtain⟨v,w,lo,hi,lo2,hi2,rfl,S1,S2,q⟩:=h;rfl
 obtain⟨v,w,lo,hi,lo2,hi2,rfl,S1,S2,q⟩:=h;refine⟨_,(HQ (Ig (i:=2) G1.nd rfl (Or.inl rfl) (TL (WG rfl) rfl B.max_ Rr (HG (Jq (N':=["end"]) (js:=[none]) rfl (IW (N:=["one","other","low","high"]) (outer:=HX MM) (by decide+kernel)) (Kn (IX (HG (IC JA (pv 0) HL (λ_ _=>rfl)) (HG (IC JA (pv 1) HL (λ_ _=>rfl)) HH)))) (λ_ _ _ _ _=>(H_ (i:=0) Np rfl (Or.inl rfl))) (λ_ _ _ _ _=>Kt (J7 (KR (pv 0)))) (λ_ _ _ _ _=>(pv 0))) HH) (OT JB OH)))
  (HQ (Ig (i:=3) G1.nd rfl (Or.inl rfl) (TL (WI rfl) rfl B.min_ Rs (HG (Jq (N':=["end"]) (js:=[none]) rfl (IW (N:=["one","other","low","high"]) (outer:=HX MM) (by decide+kernel)) (Kn (IX (HG (IC JA (pv 0) HL (λ_ _=>rfl)) (HG (IC JA (pv 1) HL (λ_ _=>rfl)) HH)))) (λ_ _ _ _ _=>(H_ (i:=0) Np rfl (Or.inl rfl))) (λ_ _ _ _ _=>Kt (J7 (KR (pv 0)))) (λ_ _ _ _ _=>(pv 0))) HH) (OT JB OH)))
  (HQ (IH (PW.pt (Ln (J7 (KR (pv 2))) (Ln (J7 (KR (pv 3))) (Mj (IA KM (pv 2) (pv 3) (I0 _)))))) (HW (Ik JB)) IG)
  (HW (Ik (IX (HG (pv 2) (HG (pv 3) HH)))))))),?_⟩
 obtain⟨a,rfl,e1⟩:=S1;obtain⟨c,rfl,e2⟩:=S2;refine⟨_,rfl,a,_,0,_,rfl,rfl,SqT.of e1,rfl,_,rfl,c,_,0,_,rfl,rfl,SqT.of e2,rfl,Jk,λt ht=>⟨t,rfl,⟨_,SqT.of HK⟩,λp hp=>?_⟩⟩;refine RZ (os:=[lo,lo2]) (cap:=[]) EM (by simp) (SqT.of HK) hp ?_ ?_ ?_ ?_ ?_
 · rfl
 · exact λs=>s.seqT (SqT.of HK)
 · exact λo H' R s r=>⟨_,rfl,_,rfl,by rw[Ta];exact r⟩
 · exact λo H' R s r=>⟨_,rfl,r⟩
 intro H1 s1 h1;obtain⟨ns,n1,n2⟩:=Wk lo lo2;rw[n1] at h1;refine⟨p,ns,.non,rfl,rfl,SqL.of h1,?_⟩;rw[n2];have s2:Same H H1:=(HU ht _).trans s1;clear n1 n2 h1 hp s1 ht;refine⟨_,rfl,a,_,1,_,rfl,rfl,SqT.of (s2 _ _ e1),rfl,_,rfl,c,_,1,_,rfl,rfl,SqT.of (s2 _ _ e2),rfl,Jk,λt ht=>⟨t,rfl,⟨_,SqT.of HK⟩,λp hp=>?_⟩⟩;refine RZ (os:=[hi,hi2]) (cap:=[]) EM (by simp) (SqT.of HK) hp ?_ ?_ ?_ ?_ ?_
 · rfl
 · exact λs=>s.seqT (SqT.of HK)
 · exact λo H' R s r=>⟨_,rfl,_,rfl,by rw[Ta];exact r⟩
 · exact λo H' R s r=>⟨_,rfl,r⟩
 intro H3 s3 h1;obtain⟨ns,n1,n2⟩:=Wl hi hi2;rw[n1] at h1;refine⟨p,ns,.non,rfl,rfl,SqL.of h1,?_⟩;rw[n2];have s4:Same H H3:=s2.trans ((HU ht _).trans s3);clear n1 n2 h1 hp s3 ht;have fin:IN (Jm lo lo2) (Jn hi hi2)=false→∀r,H3 r=none→Q (.ref r) (HI H3 r (.tup [eV (Jm lo lo2),eV (Jn hi hi2)])):=λh r hr=>by refine q _ _ (s4.trans (HU hr _)) ?_;unfold NB;rw[h];exact HR ⟨r,rfl,HK⟩
 refine⟨_,rfl,_,rfl,?_⟩;cases e5:Jm lo lo2 with
 | none=> rw[e5] at fin;exact HR ⟨_,rfl,_,rfl,Jk,fin rfl⟩
 | some x=>
  refine HP ⟨_,rfl,_,rfl,?_⟩;cases e6:Jn hi hi2 with
  | none=> rw[e5,e6] at fin;exact HR ⟨_,rfl,_,rfl,Jk,fin rfl⟩
  | some y=> refine HP ⟨_,rfl,_,rfl,_,_,rfl,rfl,_,rfl,?_⟩;rw[e5,e6] at fin;refine Il (λh=>q _ _ s4 ?_) (λh=>⟨_,rfl,_,rfl,Jk,fin (CD.mpr h)⟩);unfold NB;rw[e5,e6];exact(if_pos h).symm ▸ rfl
theorem YU(F:Fun K "is_field" "is_field" Oc f fd)  :FnOk P w K mg base Ir 1 f fd ["thing"] (RX):=by
 refine F.ok Zh (λvs H Q E h=>?_) (λcdv A outer s H vs Q E hr h=>?_)
 · obtain⟨x,rfl,F1,q⟩:=h;rfl
 obtain⟨x,rfl,F1,q⟩:=h;refine⟨_,(HQ (IH (PW.pt (Ll (Ko (J_ (Iy (KE (n:="")) rfl B.isinstance_ KH (HG (pv 0) (HG (KD (v:= .ty "str") rfl B.str_ UA rfl) HH))))) (Lo (Ko (W_ O3 O3 HL (Iy Um rfl B.len_ J9 (HG (pv 0) HH)) (NL (v:= .int 8) rfl C_MOST_LETTERS ⟨_,rfl⟩)))))) (HW (Ik Kj)) IG)
  (HW (Ik (Iy (LI rfl) rfl B.all_ LG (HG (Jq (N':=["sign"]) (js:=[none]) rfl (IW (N:=["thing"]) (outer:=HX Oc) (by decide+kernel)) (Wa (pv 0)) (λ_ _ _ _ _=>(H_ (i:=0) Q8 rfl (Or.inl rfl))) (λ_ _ _ _ _=>Jy) (λ_ _ _ _ _=>(WW TH TH M4 (pv 0) M4))) HH))))),?_⟩
 have l1:(1:Int)≤(x.length:Int):=by have:=F1.one;omega
 have l8:(x.length:Int)≤8:=by have:=F1.eight;omega
 refine⟨_,rfl,_,"str","str",true,rfl,.str x,rfl,_,rfl,HR ⟨_,rfl,x,rfl,LD (by have:=F1.eight;omega),_,_,rfl,rfl,_,rfl,?_⟩⟩;rw[decide_eq_true l1];refine HP ⟨_,_,rfl,rfl,_,rfl,?_⟩;rw[decide_eq_true l8];refine HR ⟨_,rfl,x,rfl,λp hp=>?_⟩;have s0:=HU hp (.lst []);have sl:(L2.signs x).length=x.length:=by unfold L2.signs;rw[Ab,AG];rfl
 refine UP (xs:=L2.signs x) (λi σ' ys H'=>(∃v,σ'=[v])∧Same H H'∧H' p=some (.lst ys)∧ys=BN i (V.bl true)) ⟨⟨none,rfl⟩,s0,HK,rfl⟩ ?_ ?_ ?_
 · rintro i σ' ys H' hi ⟨_,_,h1,h2⟩;refine⟨h1,?_⟩;rw[h2,CQ];have:=F1.eight;exact IQ (by omega)
 · rintro i y σ' ys H' N hy ⟨⟨v,rfl⟩,s,h1,h2⟩ hN;unfold L2.signs at hy;rw[Af] at hy;cases hc:x.cps.toList[i]? with
   | none=>rw[hc] at hy;cases hy
   | some c=>
    rw[hc] at hy;obtain rfl:V.str ⟨#[c]⟩=y:=Az hy;have ok:=F1.all c (Aj hc);refine⟨_,rfl,_,_,rfl,rfl,_,rfl,?_⟩;rw[QF ok];refine HP ⟨_,_,rfl,rfl,?_⟩;rw[QA ok];refine⟨h1,hN _ _ _ ⟨⟨_,rfl⟩,?_,HK,by rw[h2];exact Dr.symm⟩⟩;intro b o q';have:b≠p:=λz=>by rw[z,hp] at q';cases q'
    rw[Ij this];exact s b o q'
 · rintro σ' ys H' ⟨_,s,h1,h2⟩;refine⟨p,BN (L2.signs x).length true,rfl,SqL.of (by rw[h1,h2,DF]),?_⟩;have:(BN (L2.signs x).length true).all id=true:=by simp
   rw[this];exact q H' s
theorem ZR(F:Fun K "is_wish_part" "is_wish_part" Qc f fd)(GU:Γ6 P w K mg base)(GS:Γ2 P w K mg base):FnOk P w K mg base Ir 4 f fd ["thing"] (Uc):=by
 refine F.ok G2 (λvs H Q E h=>?_) (λcdv A outer s H vs Q E hr h=>?_)
 · obtain⟨p,f,lo,hi,rfl,hp,F1,hle,q⟩:=h;rfl
 obtain⟨p,f,lo,hi,rfl,hp,F1,hle,q⟩:=h;refine⟨_,(HQ (IH (PW.pt (Ll (Ko (J_ (Iy (KE (n:="")) rfl B.isinstance_ KH (HG (pv 0) (HG (KD (v:= .ty "tuple") rfl B.tuple_ LH rfl) HH))))) (Lo (IA NF (Iy JQ rfl B.len_ J9 (HG (pv 0) HH)) HL (I0 _))))) (HW (Ik Kj)) IG)
  (HQ (KW (pv 0) (JI rfl (Iq (H_ (i:=1) G2.nd rfl (Or.inl rfl)) (Iq (H_ (i:=2) G2.nd rfl (Or.inl rfl)) (Iq (H_ (i:=3) G2.nd rfl (Or.inl rfl)) Jr)))))
  (HW (Ik (Me (Ie GU (hr.mono (by decide)) rfl (HG (pv 1) HH)) (Lm (Ie GS (hr.mono (by decide)) rfl (HG (IX (HG (pv 2) (HG (pv 3) HH))) HH)))))))),?_⟩
 refine⟨_,rfl,_,"tuple","tuple",true,rfl,.tup hp,rfl,_,rfl,HR ⟨_,rfl,p,_,rfl,.inr (SqT.of hp),rfl,_,rfl,?_⟩⟩;refine HR ⟨_,rfl,p,_,rfl,SqT.of hp,rfl,_,_,rfl,_,_,rfl,_,_,rfl,rfl,?_⟩;refine⟨_,rfl,f,rfl,F1,λH1 s1=>⟨_,rfl,HP ⟨_,rfl,_,rfl,Jk,λt ht=>?_⟩⟩⟩;have S:SpanAt (HI H1 t (.tup [eV lo,eV hi])) (.ref t) lo hi:=⟨t,rfl,HK⟩;refine⟨.ref t,"tuple",rfl,S.ty.1,S.ty.2,?_⟩;rw[Tg S,hle];exact q _ (s1.trans (HU ht _))
theorem zdU(F:Fun K "fields_ascend" "fields_ascend" Oi f fd)  :FnOk P w K mg base Ir 1 f fd ["parts"] (SB):=by
 refine F.ok zdP (λvs H Q E h=>?_) (λcdv A outer s H vs Q E hr h=>?_)
 · obtain⟨a,ps,rfl,ha,hl,hp,hlt,q⟩:=h;rfl
 obtain⟨a,ps,rfl,ha,hl,hp,hlt,q⟩:=h;refine⟨_,(HW (Ik (Iy (LI rfl) rfl B.all_ LG (HG (Jq (N':=["ahead","behind"]) (js:=[none,none]) rfl (IW (N:=["parts"]) (outer:=HX Oi) (by decide+kernel)) (Wb rfl B.zip_ (HG (pv 0) (HG (Ks RU (pv 0) (Kq HL) Kp) HH))) (λ_ _ _ _ _=>(Mi K rfl (n:=2) rfl (Iq (H_ (i:=0) La rfl (Or.inl rfl)) (Iq (H_ (i:=1) La rfl (Or.inl rfl)) Jr)))) (λ_ _ _ _ _=>Jy) (λ_ _ _ _ _=>(Mh TJ (IC (Mn K rfl) (pv 0) HL (λ_ _=>rfl)) (IC (Mn K rfl) (pv 1) HL (λ_ _=>rfl)) (I0 _)))) HH)))),?_⟩;refine⟨_,rfl,_,rfl,_,rfl,?_⟩;dsimp only[Sf];refine Wt (SqT.of ha) λp1 H1 s1 q1=>?_;refine⟨a,p1,rfl,⟨_,s1.seqT (SqT.of ha)⟩,⟨_,q1⟩,λp hp'=>?_⟩;have s0:=HU hp' (.lst []);have ld:((ps.map λp=>V.ref p.1).drop 1).length=ps.length - 1:=by rw[C5,Ab]
 refine UQ (n:=ps.length - 1) (xs:=ps.map λp=>V.ref p.1) (ys:=(ps.map λp=>V.ref p.1).drop 1) (by rw[Ab];omega) (by rw[ld];exact Ag _) (.inr (by rw[ld];exact Ag _))
  (λi σ' ys H'=>(∃v w,σ'=[v,w])∧Same H1 H'∧H' p=some (.lst ys)∧ys=BN i (V.bl true)) ⟨⟨none,none,rfl⟩,s0,HK,rfl⟩ ?_ ?_ ?_
 · rintro i σ' zs H' hi ⟨_,s,h1,h2⟩;refine⟨(s1.trans s).seqT (SqT.of ha),s.seqT q1,h1,?_⟩;rw[h2,CQ];exact IQ (by omega)
 · rintro i x y σ' zs H' r N hx hy hr' ⟨⟨v,w',rfl⟩,s,h1,h2⟩ hN;rw[Af] at hx;rw[E5,Af,Fm] at hy;cases e1:ps[i]? with
   | none=>rw[e1] at hx;cases hx
   | some P1=>
    cases e2:ps[i+1]? with
    | none=>rw[e2] at hy;cases hy
    | some P2=>
     rw[e1] at hx;rw[e2] at hy;obtain rfl:V.ref P1.1=x:=Az hx;obtain rfl:V.ref P2.1=y:=Az hy;have s3:=HU hr' (.tup [V.ref P1.1,V.ref P2.1]);have t3:=(s1.trans s).trans s3;have f1:=t3 _ _ (hp P1 (Aj e1));have f2:=t3 _ _ (hp P2 (Aj e2));refine⟨r,_,rfl,SqT.of HK,rfl,_,_,rfl,_,_,rfl,rfl,?_⟩;refine⟨_,rfl,P1.1,_,0,_,rfl,rfl,SqT.of f1,QM,_,rfl,P2.1,_,0,_,rfl,rfl,SqT.of f2,QM,_,_,rfl,rfl,?_⟩;rw[decide_eq_true (show P1.2.1.cps.toList<P2.2.1.cps.toList from hlt i P1 P2 e1 e2)];refine⟨s3 _ _ h1,hN _ _ _ ⟨⟨_,_,rfl⟩,?_,HK,by rw[h2];exact Dr.symm⟩⟩;intro b o q';have:b≠p:=λz=>by rw[z,hp'] at q';cases q'
     rw[Ij this];exact s3 _ _ (s b o q')
 · rintro σ' zs H' ⟨_,s,h1,h2⟩;refine⟨p,BN (ps.length - 1) true,rfl,SqL.of (by rw[h1,h2,DF]),?_⟩;have:(BN (ps.length - 1) true).all id=true:=by simp
   rw[this];exact q H' (s1.trans s)
theorem XZ(F:Fun K "is_wish" "is_wish" Og f fd)(GV:Γ8 P w K mg base)(GW:Γ7 P w K mg base):FnOk P w K mg base Ir 5 f fd ["thing"] (SE):=by
 refine F.ok Yh (λvs H Q E h=>?_) (λcdv A outer s H vs Q E hr h=>?_)
 · obtain⟨a,w',rfl,hw,wok,q⟩:=h;rfl
 obtain⟨a,w',rfl,hw,wok,q⟩:=h;refine⟨_,(HQ (IH (Ko (J_ (Iy (KE (n:="")) rfl B.isinstance_ KH (HG (pv 0) (HG (KD (v:= .ty "tuple") rfl B.tuple_ LH rfl) HH))))) (HW (Ik Kj)) IG)
  (HW (Ik (Me (Iy (LI rfl) rfl B.all_ LG (HG (Jq (N':=["part"]) (js:=[none]) rfl (IW (N:=["thing"]) (outer:=HX Og) (by decide+kernel)) (Kn (pv 0)) (λ_ _ _ _ _=>(H_ (i:=0) Nc rfl (Or.inl rfl))) (λ_ _ _ _ _=>Jy) (λ_ _ _ _ _=>(Ie GW (hr.mono (by decide)) rfl (HG (pv 0) HH)))) HH)) (Lm (Ie GV (hr.mono (by decide)) rfl (HG (pv 0) HH))))))),?_⟩
 obtain⟨ps,rfl,hA,hP⟩:=hw;have ll:ps.length≤100:=by have:=wok.len;rw[Ab] at this;exact this
 refine⟨_,rfl,_,"tuple","tuple",true,rfl,.tup hA,rfl,_,rfl,HR ?_⟩;refine⟨_,rfl,a,rfl,⟨_,SqT.of hA⟩,λp hp=>?_⟩;refine NJ (xs:=ps.map λp=>V.ref p.1) (λi σ' ys H'=>(∃v,σ'=[v])∧Same H H'∧H' p=some (.lst ys)∧ys=BN i (V.bl true)) ⟨⟨none,rfl⟩,HU hp _,HK,rfl⟩ ?_ ?_ ?_
 · rintro i σ' ys H' hi ⟨_,s,h1,h2⟩;refine⟨s.seqT (SqT.of hA),h1,?_⟩;rw[h2,CQ];rw[Ab] at hi;exact IQ (by omega)
 · rintro i x σ' ys H' N hx ⟨⟨v,rfl⟩,s,h1,h2⟩ hN;obtain⟨P1,e1,rfl⟩:=Ih hx;have hm:=Aj e1;obtain⟨o1,o2⟩:=wok.ok P1.2 (A3 hm);refine⟨_,rfl,P1.1,P1.2.1,P1.2.2.1,P1.2.2.2,rfl,s _ _ (hP P1 hm),o1,o2,λH2 s2=>?_⟩;refine⟨s2 _ _ h1,hN _ _ _ ⟨⟨_,rfl⟩,Ji (s.trans s2) hp,HK,by rw[h2];exact Dr.symm⟩⟩
 · rintro σ' ys H' ⟨_,s,h1,h2⟩;refine⟨p,BN (ps.map λp=>V.ref p.1).length true,rfl,SqL.of (by rw[h1,h2,DF]),_,rfl,?_⟩;rw[show(BN (ps.map λp=>V.ref p.1).length true).all id=true by simp];refine HP ⟨_,rfl,a,ps.map (λp=>(p.1,p.2.1,[eV p.2.2.1,eV p.2.2.2])),rfl,?_,by rw[Ab];exact ll,?_,?_,λH2 s2=>q H2 (s.trans s2)⟩
   · rw[BA];exact s _ _ hA
   · intro r hr;rw[Ay] at hr;obtain⟨P1,hm,rfl⟩:=hr;exact s _ _ (hP P1 hm)
   · intro i r1 r2 h3 h4;rw[Af] at h3 h4;cases e1:ps[i]? with
     | none=>rw[e1] at h3;cases h3
     | some P1=>
      cases e2:ps[i+1]? with
      | none=>rw[e2] at h4;cases h4
      | some P2=> rw[e1] at h3;rw[e2] at h4;obtain rfl:=Az h3;obtain rfl:=Az h4;have l2:=(Al.mp e2).1;have:=CV.mp wok.asc i (i+1) (by simp;omega) (by simp;omega) (by omega);simp only[Do] at this;rw[(Al.mp e1).2,(Al.mp e2).2] at this;exact this
theorem Z2(F:Fun K "are_wishes" "are_wishes" Ol f fd)(GX:Γ9 P w K mg base):FnOk P w K mg base Ir 6 f fd ["thing"] (RV):=by
 refine F.ok Z6 (λvs H Q E h=>?_) (λcdv A outer s H vs Q E hr h=>?_)
 · obtain⟨l,ws,rfl,hw,q⟩:=h;rfl
 obtain⟨l,ws,rfl,hw,q⟩:=h;refine⟨_,(HW (Ik (Me (Iy (KE (n:="")) rfl B.isinstance_ KH (HG (pv 0) (HG (KD (v:= .ty "list") rfl B.list_ M6 rfl) HH))) (Lm (Iy (LI rfl) rfl B.all_ LG (HG (Jq (N':=["wish"]) (js:=[none]) rfl (IW (N:=["thing"]) (outer:=HX Ol) (by decide+kernel)) (Jh (pv 0)) (λ_ _ _ _ _=>(H_ (i:=0) Q7 rfl (Or.inl rfl))) (λ_ _ _ _ _=>Jy) (λ_ _ _ _ _=>(Ie GX (hr.mono (by decide)) rfl (HG (pv 0) HH)))) HH)))))),?_⟩;have hA:=hw.at';refine⟨_,rfl,_,"list","list",true,rfl,.lst hA,rfl,_,rfl,HP ?_⟩;refine⟨_,rfl,l,rfl,⟨_,SqL.of hA⟩,λp hp=>?_⟩;refine JR (xs:=ws.map λx=>V.ref x.1) (λi σ' ys H'=>(∃v,σ'=[v])∧Same H H'∧H' p=some (.lst ys)∧ys=BN i (V.bl true)) ⟨⟨none,rfl⟩,HU hp _,HK,rfl⟩ ?_ ?_ ?_
 · rintro i σ' ys H' hi ⟨_,s,h1,h2⟩;refine⟨s.seq (SqL.of hA),h1,?_⟩;rw[h2,CQ];rw[Ab] at hi;have:=hw.len;exact IQ (by omega)
 · rintro i x σ' ys H' N hx ⟨⟨v,rfl⟩,s,h1,h2⟩ hN;obtain⟨P1,e1,rfl⟩:=Ih hx;obtain⟨o1,o2⟩:=hw.ok P1 (Aj e1);refine⟨_,rfl,P1.1,P1.2,rfl,o1.same s,o2,λH2 s2=>?_⟩;refine⟨s2 _ _ h1,hN _ _ _ ⟨⟨_,rfl⟩,Ji (s.trans s2) hp,HK,by rw[h2];exact Dr.symm⟩⟩
 · rintro σ' ys H' ⟨_,s,h1,h2⟩;refine⟨p,BN (ws.map λx=>V.ref x.1).length true,rfl,SqL.of (by rw[h1,h2,DF]),?_⟩;rw[show(BN (ws.map λx=>V.ref x.1).length true).all id=true by simp];exact q _ s
theorem ZQ(F:Fun K "check_wishes" "check_wishes" Qh f fd)(GY:Γ10 P w K mg base):FnOk P w K mg base Ir 7 f fd ["thing"] (SC):=by
 refine F.ok zd3 (λvs H Q E h=>?_) (λcdv A outer s H vs Q E hr h=>?_)
 · obtain⟨l,ws,rfl,hw,q⟩:=h;rfl
 obtain⟨l,ws,rfl,hw,q⟩:=h;refine⟨_,(HW (IH (Ko (J_ (Ie GY (hr.mono (by decide)) rfl (HG (pv 0) HH)))) (HW MJ) IG)),?_⟩;exact⟨_,rfl,l,ws,rfl,hw,λH' s=>⟨_,rfl,HR (q H' s)⟩⟩
theorem zdy(F:Fun K "spans_by_field" "spans_by_field" Ou f fd)  :FnOk P w K mg base Ir 1 f fd ["wish"] (Ub):=by
 refine F.ok zdl (λvs H Q E h=>?_) (λcdv A outer s H vs Q E hr h=>?_)
 · obtain⟨a,w',rfl,hw,wok,q⟩:=h;rfl
 obtain⟨a,w',rfl,hw,wok,q⟩:=h;refine⟨_,(HW (Ik (Vb (N':=["field","low","high"]) (js:=[none,none,none]) rfl (IW (N:=["wish"]) (outer:=HX Ou) (by decide+kernel)) (Kn (pv 0)) (λ_ _ _ _ _=>(Mi K rfl (n:=3) rfl (Iq (H_ (i:=0) Kd rfl (Or.inl rfl)) (Iq (H_ (i:=1) Kd rfl (Or.inl rfl)) (Iq (H_ (i:=2) Kd rfl (Or.inl rfl)) Jr))))) (λ_ _ _ _ _=>Jy) (λ_ _ _ _ _=>(pv 0)) (λ_ _ _ _ _=>(IX (HG (pv 1) (HG (pv 2) HH))))))),?_⟩;obtain⟨ps,rfl,hA,hP⟩:=hw;have ll:ps.length≤100:=by have:=wok.len;rw[Ab] at this;exact this
 refine⟨_,rfl,a,rfl,⟨_,SqT.of hA⟩,λd hd=>?_⟩;refine UE (xs:=ps.map λp=>V.ref p.1) (λi σ' kvs H'=>(∃v1 v2 v3,σ'=[v1,v2,v3])∧Same H H'∧H' d=some (.dK kvs)∧kvs.length≤i∧(∃bs,kvs=J0 bs∧bs.map (·.1)=((ps.map (·.2)).take i).map (·.1))∧∀f:Str,match HZ ((ps.map (·.2)).take i) f with
  | none=>Io kvs (.inr f)=none
  | some s=>∃t,Io kvs (.inr f)=some (.ref t)∧H' t=some (.tup [eV s.1,eV s.2])) ⟨⟨none,none,none,rfl⟩,HU hd _,HK,Br _,⟨[],rfl,rfl⟩,λf=>rfl⟩ ?_ ?_ ?_
 · rintro i σ' kvs H' hi ⟨_,s,h1,h2,_⟩;rw[Ab] at hi;exact⟨s.seqT (SqT.of hA),h1,IQ (by omega)⟩
 · rintro i x σ' kvs H' N hx ⟨⟨v1,v2,v3,rfl⟩,s,h1,h2,⟨bs,rfl,kb⟩,h3⟩ hN;obtain⟨P1,e1,rfl⟩:=Ih hx;have hm:=Aj e1;refine⟨P1.1,_,rfl,SqT.of (s _ _ (hP P1 hm)),rfl,_,_,rfl,_,_,rfl,_,_,rfl,rfl,?_⟩;refine⟨_,rfl,_,rfl,_,rfl,Jk,λu hu=>?_⟩;have su:=HU hu (.tup [eV P1.2.2.1,eV P1.2.2.2]);have eu:(HI H' u (.tup [eV P1.2.2.1,eV P1.2.2.2])) u=some (.tup [eV P1.2.2.1,eV P1.2.2.2]):=HK;have h1':=su _ _ h1;generalize HI H' u (.tup [eV P1.2.2.1,eV P1.2.2.2])=H2 at*;have du:u≠d:=Ki eu h1' (by intro z;cases z);refine⟨Sum.inr P1.2.1,rfl,h1',hN _ _ _ ⟨⟨_,_,_,rfl⟩,Ji (s.trans su) hd,HK,?_,⟨Jj bs P1.2.1 (V.ref u),NV _ _ _,?_⟩,λf=>?_⟩⟩
   · have:=MN (J0 bs) (Sum.inr P1.2.1:Ic) (V.ref u);omega
   · have ew:(ps.map (·.2))[i]?=some P1.2:=by rw[Af,e1];rfl
     have fr:=Tz (wok.fresh ew);rw[P8,if_neg,kb,IB ew,Ah]
     · rfl
     · rw[kb];intro z;obtain⟨y,hy,ey⟩:=Ay.mp z;exact fr y hy ey
   · have ew:(ps.map (·.2))[i]?=some P1.2:=by rw[Af,e1];rfl
     have fr:=wok.fresh ew;rw[IB ew,Ur _ _ _ fr,Pq];by_cases hf:f=P1.2.1
     · subst hf;rw[if_pos rfl,if_pos rfl];exact⟨u,rfl,by rw[Ij du];exact eu⟩
     · rw[if_neg hf,if_neg (λz=>hf (by injection z))];have:=h3 f;cases hs:HZ ((ps.map (·.2)).take i) f with
       | none=>rw[hs] at this;exact this
       | some sp=> rw[hs] at this;obtain⟨t,t1,t2⟩:=this;exact⟨t,t1,by rw[Ij (Ki (su _ _ t2) h1' (by intro z;cases z))];exact su _ _ t2⟩
 · rintro σ' kvs H' ⟨_,s,h1,h2,⟨bs,rfl,kb⟩,h3⟩;have et:(ps.map (·.2)).take (ps.map λp=>V.ref p.1).length=ps.map (·.2):=Ar (by simp);rw[et] at kb;refine q d H' s hd ⟨bs,h1,kb,λf=>?_⟩;have:=h3 f;rw[et] at this;rw[LJ] at this;exact this
theorem ZM(F:Fun K "wish_shared" "wish_shared" Oq f fd)(GZ:Γ12 P w K mg base)(G_:Γ5 P w K mg base):FnOk P w K mg base Ir 2 f fd ["one","other"] (R9):=by
 refine F.ok G3 (λvs H Q E h=>?_) (λcdv A outer s H vs Q E hr h=>?_)
 · obtain⟨a,b,w1,w2,rfl,hw1,hw2,ok1,ok2,hl,qN,qS⟩:=h;rfl
 obtain⟨a,b,w1,w2,rfl,hw1,hw2,ok1,ok2,hl,qN,qS⟩:=h;refine⟨_,(HQ (Ig (i:=2) G3.nd rfl (Or.inr rfl) (Ie GZ (hr.mono (by decide)) rfl (HG (pv 0) HH)))
  (HQ (JC Bh rfl (Kn (pv 1)) (JI rfl (Iq (H_ (i:=3) G3.nd rfl (Or.inl rfl)) (Iq (H_ (i:=4) G3.nd rfl (Or.inl rfl)) (Iq (H_ (i:=5) G3.nd rfl (Or.inl rfl)) Jr)))) (HQ (Ig (i:=6) G3.nd rfl (Or.inl rfl) (Ie G_ (hr.mono (by decide)) rfl (HG (Sw (KL hr) (pv 2) (pv 3) (IX (HG JB (HG JB HH))) ⟨rfl,rfl,rfl,rfl⟩) (HG (IX (HG (pv 4) (HG (pv 5) HH))) HH))))
  (HQ (IH (J7 (Km (pv 6))) (HW (Ik JB)) IG)
  (HW (RO (KL hr) (pv 2) (pv 3) (pv 6) rfl)))))
  (HW (Ik (Lr On rfl B.tuple_ LH (HG (Jq (N':=["field","met"]) (js:=[none,some 2]) rfl (IW (N:=["one","other","met","field","low","high","shared"]) (outer:=HX Oq) (by decide+kernel)) (Jh (Iy (ZG rfl) rfl B.sorted_ MI (HG (pv 2) HH))) (λ_ _ _ _ _=>(H_ (i:=0) Q6 rfl (Or.inl rfl))) (λ_ _ _ _ _=>Jy) (λ_ _ _ _ _=>(IX (HG (pv 0) (HG (IC (Mn K rfl) (NK (KL hr) (pv 1) (pv 0) (λ_ _=>rfl)) HL (λ_ _=>rfl)) (HG (IC (Mn K rfl) (NK (KL hr) (pv 1) (pv 0) (λ_ _=>rfl)) HL (λ_ _=>rfl)) HH)))))) HH)))))),?_⟩
 refine⟨_,rfl,a,w1,rfl,hw1,ok1,λd H1 s1 n1 D1=>?_⟩;obtain⟨bs0,b1,b2,b3⟩:=D1;obtain⟨ps,rfl,hA,hP⟩:=hw2.same s1;have bd:b≠d:=Ki hA b1 (by intro z;cases z);have pd:∀p∈ps,p.1≠d:=λp hp=>Ki (hP p hp) b1 (by intro z;cases z);refine⟨_,rfl,b,rfl,⟨_,SqT.of hA⟩,M8 (K:=K) (a:=b) (xs:=ps.map λp=>V.ref p.1) (λi σ H'=>(∃y3 y4 y5 y6,σ=[some (.ref a),some (.ref b),some (.ref d),y3,y4,y5,y6])∧(∀c o,H1 c=some o→c≠d→H' c=some o)∧∃bs:List (Str×V),H' d=some (.dK (J0 bs))∧(bs.map (·.1)).Nodup∧bs.length≤w1.length+i∧JO w1 ((ps.map (·.2)).take i)=false∧
  ∀f:Str,match Jt (HZ w1 f) (HZ ((ps.map (·.2)).take i) f) with
   | none=>IP bs f=none
   | some s=>∃t,IP bs f=some (.ref t)∧H' t=some (.tup [eV s.1,eV s.2])) ?_ ?_ ?_ ?_⟩
 · refine⟨⟨none,none,none,none,rfl⟩,λc o h _=>h,bs0,b1,?_,?_,rfl,λf=>?_⟩
   · rw[b2];exact Pg ok1.asc
   · have:=congrArg Bi b2;simp at this;omega
   · have:=b3 f;cases e:HZ w1 f with
     | none=>rw[e] at this;exact this
     | some s=>rw[e] at this;exact this
 · rintro i σ H' _ ⟨_,kp,_⟩;exact SqT.of (kp _ _ hA bd)
 · rintro i x σ H2 hx ⟨⟨y3,y4,y5,y6,rfl⟩,kp,bs,k1,k2,k3,k4,k5⟩;obtain⟨P1,e1,rfl⟩:=Ih hx;have hm:=Aj e1;have li:=(Al.mp e1).1;have ew:(ps.map (·.2))[i]?=some P1.2:=by rw[Af,e1];rfl
   have fr:=ok2.fresh ew;have kf:=k5 P1.2.1;rw[fr] at kf;refine⟨P1.1,_,rfl,SqT.of (kp _ _ (hP P1 hm) (pd P1 hm)),rfl,_,_,rfl,_,_,rfl,_,_,rfl,rfl,?_⟩;refine⟨_,rfl,d,rfl,.inl ⟨J0 bs,.inl k1⟩,_,rfl,Jk,λv hv=>?_⟩;have sv:=HU hv (.tup [V.non,V.non]);have ev:(HI H2 v (.tup [V.non,V.non])) v=some (.tup [V.non,V.non]):=HK;have k1v:=sv _ _ k1;generalize HI H2 v (.tup [V.non,V.non])=H3 at*;have gd:=DGet.k (k:=Sum.inr P1.2.1) k1v;rw[LJ] at gd;obtain⟨sp,esp,tt,ett,htt⟩:∃sp:IE,(HZ w1 P1.2.1).getD (none,none)=sp∧∃tt,(IP bs P1.2.1).getD (.ref v)= .ref tt∧H3 tt=some (.tup [eV sp.1,eV sp.2]):=by
    cases hs:HZ w1 P1.2.1 with
    | none=>rw[hs] at kf;rw[show IP bs P1.2.1=none from kf];exact⟨(none,none),rfl,v,rfl,ev⟩
    | some sp=>rw[hs] at kf;obtain⟨t,z1,z2⟩:=kf;rw[z1];exact⟨sp,rfl,t,rfl,sv _ _ z2⟩
   refine⟨_,gd,?_⟩;rw[ett];refine⟨_,rfl,_,rfl,Jk,λu hu=>?_⟩;have su:=HU hu (.tup [eV P1.2.2.1,eV P1.2.2.2]);refine⟨.ref tt,.ref u,sp.1,sp.2,P1.2.2.1,P1.2.2.2,rfl,⟨tt,rfl,su _ _ htt⟩,⟨u,rfl,HK⟩,λv' H4 s4 m4=>?_⟩;have s24:Same H2 H4:=sv.trans (su.trans s4);have sH4:Same H H4:=λc o h=>s24 _ _ (kp _ _ (s1 _ _ h) (λe=>by rw[e,n1] at h;cases h));have le1:=(ok2.ok P1.2 (A3 hm)).2;unfold NB at m4;by_cases ap:IN (Jm sp.1 P1.2.2.1) (Jn sp.2 P1.2.2.2)=true
   · rw[if_pos ap] at m4;subst m4;have aw:JO w1 (ps.map (·.2))=true:=by
      refine Ct.mpr ⟨P1.2,A3 hm,?_⟩;unfold M3;cases hs:HZ w1 P1.2.1 with
      | none=> rw[hs] at esp;subst esp;have:IN P1.2.2.1 P1.2.2.2=true:=ap;rw[Ti,this] at le1;cases le1
      | some s=> rw[hs] at esp;obtain rfl:s=sp:=esp;exact ap
     exact⟨_,rfl,_,rfl,HP (qN aw _ sH4)⟩
   · rw[if_neg ap] at m4;obtain⟨t4,rfl,e4⟩:=m4;have k14:=s24 _ _ k1;have td:t4≠d:=Ki e4 k14 (by intro z;cases z);refine⟨_,rfl,_,rfl,HR ⟨_,rfl,_,rfl,_,rfl,d,_,rfl,DPut.k (k:=Sum.inr P1.2.1) k14 (IQ (by unfold J0;rw[Ab];have:=ok1.len;have:=ok2.len;simp at this;omega)),⟨_,_,_,_,rfl⟩,λc o h cd=>by rw[Ij cd];exact s24 _ _ (kp c o h cd),Jj bs P1.2.1 (V.ref t4),by rw[HK,NV],Ye k2 _ _,?_,?_,λf=>?_⟩⟩
     · have:=Sz bs P1.2.1 (V.ref t4);omega
     · rw[IB ew];unfold JO at k4 ⊢;rw[List.any_append,k4];simp only[BO,List.any_nil,Bool.or_false,Bool.false_or];unfold M3;cases hs:HZ w1 P1.2.1 with
       | none=>rfl
       | some s=> rw[hs] at esp;obtain rfl:s=sp:=esp;simpa using ap
     · rw[IB ew,Ur _ _ _ fr,Wq];by_cases hf:f=P1.2.1
       · subst hf;rw[if_pos rfl,if_pos rfl];have em:Jt (HZ w1 P1.2.1) (some P1.2.2)=some (Jm sp.1 P1.2.2.1,Jn sp.2 P1.2.2.2):=by
          cases hs:HZ w1 P1.2.1 with
          | none=>rw[hs] at esp;subst esp;rfl
          | some s=>rw[hs] at esp;obtain rfl:s=sp:=esp;rfl
         rw[em];exact⟨t4,rfl,by rw[Ij td];exact e4⟩
       · rw[if_neg hf,if_neg hf];have:=k5 f;cases hs:Jt (HZ w1 f) (HZ ((ps.map (·.2)).take i) f) with
         | none=>rw[hs] at this;exact this
         | some s=> rw[hs] at this;obtain⟨t,t1,t2⟩:=this;exact⟨t,t1,by rw[Ij (Ki (s24 _ _ t2) k14 (by intro z;cases z))];exact s24 _ _ t2⟩
 · rintro σ H2 ⟨⟨y3,y4,y5,y6,rfl⟩,kp,bs,k1,k2,k3,k4,k5⟩;have et:(ps.map (·.2)).take (ps.map λp=>V.ref p.1).length=ps.map (·.2):=Ar (by simp);rw[et] at k4 k5;have lb:bs.length≤60:=by simp at k3 hl;omega
   have sH2:Same H H2:=λc o h=>kp _ _ (s1 _ _ h) (λe=>by rw[e,n1] at h;cases h);refine⟨_,rfl,d,J0 bs,bs.map (·.1),rfl,.inl k1,SV bs,(by rw[Ab];omega),λz ms mp mn mso hz=>?_⟩;have sz:=HU hz (.lst (ms.map V.str));have lms:ms.length=bs.length:=by have:=mp.length_eq;simpa using this
   have hk:∀f,f∈ms↔(Jt (HZ w1 f) (HZ (ps.map (·.2)) f)).isSome=true:=λf=>by
    rw[mp.mem_iff,Wp];have:=k5 f;cases hs:Jt (HZ w1 f) (HZ (ps.map (·.2)) f) with
    | none=>rw[hs] at this;rw[show IP bs f=none from this];simp
    | some s=>rw[hs] at this;obtain⟨t,t1,_⟩:=this;rw[t1];simp
   have im:IsMet w1 (ps.map (·.2)) (KA w1 (ps.map (·.2)) ms):=SU (MC mso mn) hk (by simp at k3 ⊢;omega);have mk:(KA w1 (ps.map (·.2)) ms).map (·.1)=ms:=by unfold KA;rw[BA];exact List.map_id _
   refine⟨z,rfl,⟨_,SqL.of HK⟩,λp hp=>?_⟩;refine Xn (cap:=[some (.ref d)]) (KA w1 (ps.map (·.2)) ms) (by unfold KA;rw[Ab];omega) (by rw[mk];exact SqL.of HK) hp rfl ?_ ?_
   · intro x hx H' R s' hR;have kd:=s' _ _ (sz _ _ k1);obtain⟨f,hf,rfl⟩:=Ay.mp hx;have hso:=(hk f).mp hf;have kf:=k5 f;obtain⟨tt,t1,t2⟩:∃t,IP bs f=some (.ref t)∧H2 t=some (.tup [eV (Mb w1 (ps.map (·.2)) f).1,eV (Mb w1 (ps.map (·.2)) f).2]):=by
      unfold Mb;cases hs:Jt (HZ w1 f) (HZ (ps.map (·.2)) f) with
      | none=>rw[hs] at hso;cases hso
      | some s=>rw[hs] at kf;exact kf
     have gd:DGet H' d (.str f) (some (.ref tt)):=by have:=DGet.k (k:=Sum.inr f) kd;rw[LJ,t1] at this;exact this
     have t3:=s' _ _ (sz _ _ t2);exact⟨_,rfl,_,rfl,_,rfl,d,_,rfl,gd,tt,_,0,_,rfl,rfl,SqT.of t3,rfl,_,rfl,_,rfl,d,_,rfl,gd,tt,_,1,_,rfl,rfl,SqT.of t3,rfl,Li,hR⟩
   intro H3 qs s3 q1 q2 q3;refine⟨p,_,rfl,.inl ⟨SqL.of q2,λt ht=>?_⟩⟩;have st:=HU ht (.tup (qs.map λq=>V.ref q.1));exact qS k4 t _ _ im (sH2.trans (sz.trans (s3.trans st))) ⟨qs,q1,HK,λq hq=>st _ _ (q3 q hq)⟩
theorem ZT(F:Fun K "spans_beside" "spans_beside" Qd f fd)  :FnOk P w K mg base Ir 1 f fd ["span","inner"] (Uu):=by
 refine F.ok G4 (λvs H Q E h=>?_) (λcdv A outer s H vs Q E hr h=>?_)
 · obtain⟨v,w',s',t',rfl,S1,S2,W,q⟩:=h;rfl
 obtain⟨v,w',s',t',rfl,S1,S2,W,q⟩:=h;refine⟨_,(HQ (KW (pv 0) (JI rfl (Iq (H_ (i:=2) G4.nd rfl (Or.inl rfl)) (Iq (H_ (i:=3) G4.nd rfl (Or.inl rfl)) Jr))))
  (HQ (KW (pv 1) (JI rfl (Iq (H_ (i:=4) G4.nd rfl (Or.inl rfl)) (Iq (H_ (i:=5) G4.nd rfl (Or.inl rfl)) Jr))))
  (HQ (Ig (i:=6) G4.nd rfl (Or.inl rfl) (Lx (IA NF (pv 4) (pv 2) (I0 _)) (Jc (HG (IX (HG (pv 2) (HG (Ia KB (pv 4) HL) HH))) HH)) (Jc HH)))
  (HQ (Ig (i:=7) G4.nd rfl (Or.inl rfl) (Lx (IA NF (pv 5) (pv 3) (I0 _)) (Jc (HG (IX (HG (Ia Jf (pv 5) HL) (HG (pv 3) HH))) HH)) (Jc HH)))
  (HW (Ik (Ia OD (pv 6) (pv 7)))))))),?_⟩
 obtain⟨a,rfl,ea⟩:=S1;obtain⟨b,rfl,eb⟩:=S2;obtain⟨a1,b1⟩:=s';obtain⟨c1,d1⟩:=t';dsimp only at ea eb;refine⟨_,rfl,a,_,rfl,SqT.of ea,rfl,_,_,rfl,_,_,rfl,rfl,?_⟩;refine⟨_,rfl,b,_,rfl,SqT.of eb,rfl,_,_,rfl,_,_,rfl,rfl,?_⟩;dsimp only;refine Ku (λσ' H'=>∃(r1:Addr)(ss:List (Addr×IE)),σ'=[some (.ref a),some (.ref b),some (eV a1),some (eV b1),some (eV c1),some (eV d1),some (.ref r1),none]∧Same H H'∧H' r1=some (.lst (ss.map λx=>V.ref x.1))∧ss.map (·.2)=below (a1,b1) (c1,d1)∧∀x∈ss,H' x.1=some (.tup [eV x.2.1,eV x.2.2])) (λZ hZ=>?_) ?_
 · cases c1 with
   | none=>
    have e0:a1=none:=by
     cases a1 with
     | none=>rfl
     | some l=>obtain⟨k,hk,_⟩:=W.lo l rfl;cases hk
    subst e0;refine⟨_,rfl,_,rfl,rfl,_,rfl,QV rfl ⟨JE,λr1 hr1=>?_⟩⟩;exact hZ _ _ ⟨r1,[],rfl,HU hr1 _,HK,rfl,λx hx=>by simp at hx⟩
   | some l=>
    refine⟨_,rfl,_,rfl,by cases a1<;>rfl,_,rfl,Il (λh=>?_) (λh=>?_)⟩
    · have ne:a1≠some l:=λe=>by rw[e] at h;simp at h
      refine⟨_,rfl,_,rfl,_,_,rfl,rfl,Jk,λt ht=>?_⟩;have s3:=HU ht (.tup [eV a1,V.int (l - 1)]);have e3:(HI H t (.tup [eV a1,V.int (l - 1)])) t=some (.tup [eV a1,V.int (l - 1)]):=HK;dsimp only;generalize HI H t (.tup [eV a1,V.int (l - 1)])=H3 at*;refine⟨Kh,λr1 hr1=>?_⟩;have s4:=HU hr1 (.lst [V.ref t]);refine hZ _ _ ⟨r1,[(t,(a1,some (l - 1)))],rfl,s3.trans s4,HK,?_,λx hx=>?_⟩
      · show _=(if _ then _ else _)
        rw[if_neg ne];rfl
      · rw[Ae.mp hx];exact s4 _ _ e3
    · have e:a1=some l:=by
       by_cases e:a1=some l
       · exact e
       · exact absurd (by simp;exact λz=>e (Rv (a:=a1) (b:=some l) z.symm)) h
      subst e;refine⟨JE,λr1 hr1=>?_⟩;exact hZ _ _ ⟨r1,[],rfl,HU hr1 _,HK,by show []=(if _ then _ else _);rw[if_pos rfl],λx hx=>by simp at hx⟩
 rintro σ' H1 ⟨r0,ss,rfl,s1,e1,f1,g1⟩;refine Ku (λσ' H'=>∃(r1:Addr)(ss:List (Addr×IE)),σ'=[some (.ref a),some (.ref b),some (eV a1),some (eV b1),some (eV c1),some (eV d1),some (.ref r0),some (.ref r1)]∧Same H1 H'∧H' r1=some (.lst (ss.map λx=>V.ref x.1))∧ss.map (·.2)=above (a1,b1) (c1,d1)∧∀x∈ss,H' x.1=some (.tup [eV x.2.1,eV x.2.2])) (λZ hZ=>?_) ?_
 · cases d1 with
   | none=>
    have e0:b1=none:=by
     cases b1 with
     | none=>rfl
     | some l=>obtain⟨k,hk,_⟩:=W.hi l rfl;cases hk
    subst e0;refine⟨_,rfl,_,rfl,rfl,_,rfl,QV rfl ⟨JE,λr1 hr1=>?_⟩⟩;exact hZ _ _ ⟨r1,[],rfl,HU hr1 _,HK,rfl,λx hx=>by simp at hx⟩
   | some l=>
    refine⟨_,rfl,_,rfl,by cases b1<;>rfl,_,rfl,Il (λh=>?_) (λh=>?_)⟩
    · have ne:b1≠some l:=λe=>by rw[e] at h;simp at h
      refine⟨_,rfl,_,_,rfl,rfl,_,rfl,Jk,λt ht=>?_⟩;have s3:=HU ht (.tup [V.int (l+1),eV b1]);have e3:(HI H1 t (.tup [V.int (l+1),eV b1])) t=some (.tup [V.int (l+1),eV b1]):=HK;dsimp only;generalize HI H1 t (.tup [V.int (l+1),eV b1])=H3 at*;refine⟨Kh,λr1 hr1=>?_⟩;have s4:=HU hr1 (.lst [V.ref t]);refine hZ _ _ ⟨r1,[(t,(some (l+1),b1))],rfl,s3.trans s4,HK,?_,λx hx=>?_⟩
      · show _=(if _ then _ else _)
        rw[if_neg ne];rfl
      · rw[Ae.mp hx];exact s4 _ _ e3
    · have e:b1=some l:=by
       by_cases e:b1=some l
       · exact e
       · exact absurd (by simp;exact λz=>e (Rv (a:=b1) (b:=some l) z.symm)) h
      subst e;refine⟨JE,λr1 hr1=>?_⟩;exact hZ _ _ ⟨r1,[],rfl,HU hr1 _,HK,by show []=(if _ then _ else _);rw[if_pos rfl],λx hx=>by simp at hx⟩
 rintro σ' H2 ⟨r1,us,rfl,s2,e2,f2,g2⟩;have l1:ss.length≤10:=by have h1:=congrArg Bi f1;have h2:=MF (a1,b1) (c1,d1);unfold Jw at h2;rw[A5] at h2;rw[Ab] at h1;omega
 have l2:us.length≤10:=by have h1:=congrArg Bi f2;have h2:=MF (a1,b1) (c1,d1);unfold Jw at h2;rw[A5] at h2;rw[Ab] at h1;omega
 refine⟨_,rfl,_,rfl,r0,r1,_,_,rfl,rfl,s2 _ _ e1,e2,by rw[Ab,Ab];exact LD (by omega),λr hr'=>?_⟩;have s3:=HU hr' (.lst (ss.map (λx=>V.ref x.1)++us.map (λx=>V.ref x.1)));refine q r (ss++us) _ ((s1.trans s2).free hr') (s1.trans (s2.trans s3)) ?_ ?_ λx hx=>?_
 · rw[Ah,f1,f2];rfl
 · rw[HK,Ah]
 · rcases Aw.mp hx with z | z
   · exact s3 _ _ (s2 _ _ (g1 x z))
   · exact s3 _ _ (g2 x z)
theorem zcX(F:Fun K "parts_beside_one" "parts_beside_one" Qb f fd)(Ha:Γ13 P w K mg base)(Hb:Γ14 P w K mg base):FnOk P w K mg base Ir 3 f fd ["wish","other"] (Ua):=by
 refine F.ok G5 (λvs H Q E h=>?_) (λcdv A outer s H vs Q E hr h=>?_)
 · obtain⟨a,b,w',o,rfl,hw,ho,kw,ko,lw,lo,q⟩:=h;rfl
 obtain⟨a,b,w',o,rfl,hw,ho,kw,ko,lw,lo,q⟩:=h;refine⟨_,(HQ (Ig (i:=2) G5.nd rfl (Or.inl rfl) (Ie Ha (hr.mono (by decide)) rfl (HG (pv 0) (HG (pv 1) HH))))
  (HQ (IH (PW.pt (Ll (J7 (Km (pv 2))) (Lo (IA KM (Iy JQ rfl B.len_ J9 (HG (pv 2) HH)) (Iy JQ rfl B.len_ J9 (HG (pv 0) HH)) (I0 _))))) (HW (Ik (Jc (HG (pv 0) HH)))) IG)
  (HQ (Ig (i:=3) G5.nd rfl (Or.inl rfl) (Jc HH))
  (HQ (JC Bh rfl (WY rfl B.enumerate_ (HG (pv 0) HH)) (JI rfl (Iq (H_ (i:=4) G5.nd rfl (Or.inl rfl)) (Iq (JI rfl (Iq (H_ (i:=5) G5.nd rfl (Or.inl rfl)) (Iq (H_ (i:=6) G5.nd rfl (Or.inl rfl)) (Iq (H_ (i:=7) G5.nd rfl (Or.inl rfl)) Jr)))) Jr))) (HW (JC Bh rfl (Jh (Ie Hb (hr.mono (by decide)) rfl (HG (IX (HG (pv 6) (HG (pv 7) HH))) (HG (IX (HG (IC JA (IC JA (pv 2) (pv 4) (λ_ _=>rfl)) HL (λ_ _=>rfl)) (HG (IC JA (IC JA (pv 2) (pv 4) (λ_ _=>rfl)) HL (λ_ _=>rfl)) HH))) HH)))) (JI rfl (Iq (H_ (i:=8) G5.nd rfl (Or.inl rfl)) (Iq (H_ (i:=9) G5.nd rfl (Or.inl rfl)) Jr))) (HW (Kr (KN BM Cu Cv Lq (pv 3) (HG (Ia M9 (Ia M9 (Ks NN (pv 2) Kp (Kq (pv 4))) (IX (HG (IX (HG (pv 5) (HG (pv 8) (HG (pv 9) HH)))) HH))) (Ks NN (pv 0) (Kq (Ia Jf (pv 4) HL)) Kp)) HH)))))))
  (HW (Ik (pv 3))))))),?_⟩
 have whole:∀(H1:Hp),Same H H1→one w' o=[w']→OneOk w' o (one w' o)→∀r,H1 r=none→Q (.ref r) (HI H1 r (.lst [V.ref a])):=λH1 s1 e ok r hr=>by have s2:=HU hr (.lst [V.ref a]);refine q r _ (s1.free hr) (s1.trans s2) ?_ ok;rw[e];exact⟨[(a,w')],rfl,HK,λx hx=>by rw[Ae.mp hx];exact hw.same (s1.trans s2)⟩
 refine⟨_,rfl,_,rfl,a,b,w',o,rfl,hw,ho,kw,ko,by omega,λap H1 s1=>?_,λap mr m H1 im s1 hm=>?_⟩
 · have e1:one w' o=[w']:=by unfold one;rw[if_pos ap]
   exact⟨_,rfl,_,rfl,HP (HP ⟨_,rfl,Kh,whole H1 s1 e1 (by rw[e1];exact TC kw ko ap)⟩)⟩
 have te:=ME im;have hm':=hm;have hw1':=hw.same s1;obtain⟨ms,hms,hA,hP⟩:=hm;obtain⟨ws,hws,hB,hR⟩:=hw.same s1;have lm:ms.length=m.length:=by rw[←hms,Ab]
 have lws:ws.length=w'.length:=by rw[←hws,Ab]
 refine⟨_,rfl,_,rfl,HR ⟨_,rfl,mr,_,rfl,.inr (SqT.of hA),_,rfl,a,_,rfl,.inr (SqT.of hB),_,_,rfl,rfl,_,rfl,Il (λh=>?_) (λh=>?_)⟩⟩
 · have h1:w'.length<m.length:=by
    have:=of_decide_eq_true h;rw[Ab,Ab,lm,lws] at this;omega
   have e1:one w' o=[w']:=by unfold one;rw[if_neg (by rw[ap];simp),te,if_pos h1]
   exact⟨_,rfl,Kh,whole H1 s1 e1 (by rw[e1];exact Su kw ko im h1)⟩
 have h1:m.length≤w'.length:=by have:¬((((ms.map λp=>V.ref p.1).length:Nat):Int)>(((ws.map λp=>V.ref p.1).length:Nat):Int)):=λz=>h (decide_eq_true z);rw[Ab,Ab,lm,lws] at this;omega
 have e1:one w' o=Mo w' m:=by unfold one;rw[if_neg (by rw[ap];simp),te,if_neg (by omega)]
 have hf:=Oa kw im h1;have ll:m.length=w'.length:=by have:=congrArg Bi hf;simpa using this
 refine⟨JE,λpr hpr=>?_⟩;have s2:=HU hpr (.lst []);have e2:(HI H1 pr (.lst [])) pr=some (.lst []):=HK;have np:H pr=none:=s1.free hpr;have hm2:=hm'.same s2;have hw2:=hw1'.same s2;have S2:=s1.trans s2;generalize HI H1 pr (.lst [])=H2 at*;have hB2:SqT K H2 a (ws.map λp=>V.ref p.1):=SqT.of (s2 _ _ hB);have cl:∀l:List Nat,(l.flatMap (Jp w' m)).length≤2*l.length:=λl=>by
  induction l with
  | nil=>simp
  | cons i l ih=>
   rw[CC,A5,AF];have:(Jp w' m i).length≤2:=by
    unfold Jp
    split
    · rw[Ab];exact MF _ _
    · simp
   omega
 refine⟨_,rfl,a,rfl,⟨_,hB2⟩,XS (K:=K) (a:=a) (xs:=ws.map λp=>V.ref p.1) (λi σ H'=>(∃y4 y5 y6 y7 y8 y9,σ=[some (.ref a),some (.ref b),some (.ref mr),some (.ref pr),y4,y5,y6,y7,y8,y9])∧Same H H'∧Tups H2 H'∧∃us:List (Addr×List WP),H' pr=some (.lst (us.map λz=>V.ref z.1))∧us.map (·.2)=(Bc i).flatMap (Jp w' m)∧∀z∈us,WishAt H' z.1 z.2) ⟨⟨none,none,none,none,none,none,rfl⟩,S2,λ_ _ z=>z,[],e2,rfl,λz hz=>by simp at hz⟩ (λi σ H' _ ⟨_,_,z,_⟩=>SqT.of (z _ _ (s2 _ _ hB))) ?_ ?_⟩
 · rintro i x z σ H3 hx hz ⟨⟨y4,y5,y6,y7,y8,y9,rfl⟩,s3,t3,us,e3,u3,v3⟩;obtain⟨P1,ex,rfl⟩:=Ih hx;have li:i<ws.length:=(Al.mp ex).1;obtain⟨M1,em⟩:∃M1,ms[i]?=some M1:=⟨ms[i]'(by omega),Av (by omega)⟩;have ewP:w'[i]?=some P1.2:=by rw[←hws,Af,ex];rfl
   have emP:m[i]?=some M1.2:=by rw[←hms,Af,em];rfl
   obtain⟨m1,m2,m3⟩:=KQ kw ko im ap hf ewP emP;have s4:=HU hz (.tup [V.int (i:Int),V.ref P1.1]);have e4:(HI H3 z (.tup [V.int (i:Int),V.ref P1.1])) z=some (.tup [V.int (i:Int),V.ref P1.1]):=HK;have t4:Tups H2 (HI H3 z (.tup [V.int (i:Int),V.ref P1.1])):=t3.trans s4.tups;have f4:=s4 _ _ e3;have v4:∀z'∈us,WishAt (HI H3 z (.tup [V.int (i:Int),V.ref P1.1])) z'.1 z'.2:=λz' hz'=>(v3 z' hz').same s4;have S4:=s3.trans s4;generalize HI H3 z (.tup [V.int (i:Int),V.ref P1.1])=H4 at*;have hA4:=t4 _ _ (s2 _ _ hA);have hB4:=t4 _ _ (s2 _ _ hB);have p4:=t4 _ _ (s2 _ _ (hR P1 (Aj ex)));have q4:=t4 _ _ (s2 _ _ (hP M1 (Aj em)));have hat:JW (ms.map λp=>V.ref p.1) (i:Int)=some (V.ref M1.1):=Mm (by rw[Af,em];rfl);refine⟨z,_,rfl,SqT.of e4,rfl,_,_,rfl,_,_,rfl,⟨P1.1,_,rfl,SqT.of p4,rfl,_,_,rfl,_,_,rfl,_,_,rfl,rfl,rfl,?_⟩⟩;refine⟨_,rfl,_,rfl,Jk,λt1 ht1=>?_⟩;have s5:=HU ht1 (.tup [eV P1.2.2.1,eV P1.2.2.2]);have e5:(HI H4 t1 (.tup [eV P1.2.2.1,eV P1.2.2.2])) t1=some (.tup [eV P1.2.2.1,eV P1.2.2.2]):=HK;generalize HI H4 t1 (.tup [eV P1.2.2.1,eV P1.2.2.2])=H5 at*;refine⟨_,rfl,_,rfl,mr,_,_,_,rfl,rfl,SqT.of (s5 _ _ hA4),hat,M1.1,_,1,_,rfl,rfl,SqT.of (s5 _ _ q4),rfl,_,rfl,_,rfl,mr,_,_,_,rfl,rfl,SqT.of (s5 _ _ hA4),hat,M1.1,_,2,_,rfl,rfl,SqT.of (s5 _ _ q4),rfl,Jk,λt2 ht2=>?_⟩;have s6:=HU ht2 (.tup [eV M1.2.2.1,eV M1.2.2.2]);have e6:(HI H5 t2 (.tup [eV M1.2.2.1,eV M1.2.2.2])) t2=some (.tup [eV M1.2.2.1,eV M1.2.2.2]):=HK;generalize HI H5 t2 (.tup [eV M1.2.2.1,eV M1.2.2.2])=H6 at*;refine⟨.ref t1,.ref t2,P1.2.2,M1.2.2,rfl,⟨t1,rfl,s6 _ _ e5⟩,⟨t2,rfl,e6⟩,m2,λr ss H7 nr7 s7 f7 e7 g7=>?_⟩;have t7:=s5.trans (s6.trans s7);have S7:=S4.trans t7;have nr:r≠pr:=λz'=>by rw[z',s6 _ _ (s5 _ _ f4)] at nr7;cases nr7
   refine⟨r,rfl,⟨_,SqL.of e7⟩,Lv (K:=K) (a:=r) (xs:=ss.map λx=>V.ref x.1) (λj σ H'=>(∃y8 y9,σ=[some (.ref a),some (.ref b),some (.ref mr),some (.ref pr),some (.int (i:Int)),some (.str P1.2.1),some (eV P1.2.2.1),some (eV P1.2.2.2),y8,y9])∧Same H H'∧Tups H7 H'∧H' r=some (.lst (ss.map λx=>V.ref x.1))∧∃us:List (Addr×List WP),H' pr=some (.lst (us.map λz=>V.ref z.1))∧us.map (·.2)=(Bc i).flatMap (Jp w' m)++((ss.take j).map λx=>m.take i++[(P1.2.1,x.2)]++w'.drop (i+1))∧∀z∈us,WishAt H' z.1 z.2) ?_ (λj σ H' _ ⟨_,_,_,z,_⟩=>SqL.of z) ?_ ?_⟩
   · exact⟨⟨_,_,rfl⟩,S7,λ_ _ z=>z,e7,us,t7 _ _ f4,by rw[u3];simp,λz' hz'=>(v4 z' hz').same t7⟩
   · rintro j x σ H8 hx ⟨⟨y8',y9',rfl⟩,s8,t8,r8,us8,e8,u8,v8⟩;obtain⟨N1,es,rfl⟩:=Ih hx;have n8:=t8 _ _ (g7 N1 (Aj es));have hA8:=t8 _ _ (t7.tups _ _ hA4);have hB8:=t8 _ _ (t7.tups _ _ hB4);have lss:ss.length≤2:=by
      have h1:=congrArg Bi f7;rw[Ab] at h1;have h2:=MF P1.2.2 M1.2.2;omega
     have lus:us8.length≤100:=by have h1:=congrArg Bi u8;rw[Ab,A5,Ab,A7] at h1;have h2:=cl (Bc i);rw[CB] at h2;omega
     refine⟨N1.1,_,rfl,SqT.of n8,rfl,_,_,rfl,_,_,rfl,rfl,?_⟩;refine⟨_,rfl,.inl ⟨rfl,_,SqL.of e8⟩,_,rfl,_,rfl,_,rfl,mr,_,rfl,hA8,λp1 H9 s9 e9=>?_⟩;rw[Ph rfl,←Df] at e9;refine⟨_,rfl,_,rfl,_,rfl,Li,λc1 hc1=>?_⟩;have s10:=HU hc1 (.tup [V.str P1.2.1,eV N1.2.1,eV N1.2.2]);have e10:(HI H9 c1 (.tup [V.str P1.2.1,eV N1.2.1,eV N1.2.2])) c1=some (.tup [V.str P1.2.1,eV N1.2.1,eV N1.2.2]):=HK;generalize HI H9 c1 (.tup [V.str P1.2.1,eV N1.2.1,eV N1.2.2])=H10 at*;refine⟨Kh,λc2 hc2=>?_⟩;have s11:=HU hc2 (.tup [V.ref c1]);have e11:(HI H10 c2 (.tup [V.ref c1])) c2=some (.tup [V.ref c1]):=HK;generalize HI H10 c2 (.tup [V.ref c1])=H11 at*;refine⟨p1,c2,_,_,rfl,rfl,s11 _ _ (s10 _ _ e9),e11,(by rw[Ab,A7];exact LD (by simp;omega)),λd1 H12 s12 e12=>?_⟩;have t11:=s9.trans (s10.trans s11);refine⟨_,rfl,_,rfl,_,_,rfl,rfl,_,rfl,a,_,rfl,s12 _ _ (t11 _ _ hB8),λp2 H13 s13 e13=>?_⟩;rw[SZ (n:=i+1) (by omega),←EN] at e13;refine⟨d1,p2,_,_,rfl,rfl,s13 _ _ e12,e13,(by rw[A5,Ab,A7,Ab,C5];exact LD (by simp;omega)),λd2 H14 s14 e14=>?_⟩;have t14:=t11.trans (s12.trans (s13.trans s14));have L6:((ms.take i).map λp:Addr×WP=>V.ref p.1)++[V.ref c1]++(ws.drop (i+1)).map (λp:Addr×WP=>V.ref p.1)=(ms.take i++[((c1,P1.2.1,N1.2):Addr×WP)]++ws.drop (i+1)).map λp:Addr×WP=>V.ref p.1:=by simp
     rw[L6] at e14;have W14:WishAt H14 d2 (m.take i++[(P1.2.1,N1.2)]++w'.drop (i+1)):=by
      refine⟨_,?_,e14,λy hy=>?_⟩
      · rw[Ah,Ah,Df,hms,EN,hws];rfl
      · rcases Aw.mp hy with y1 | y1
        · rcases Aw.mp y1 with y2 | y2
          · exact t14 _ _ (t8 _ _ (t7.tups _ _ (t4 _ _ (s2 _ _ (hP y (AJ y2))))))
          · rw[Ae.mp y2];exact s14 _ _ (s13 _ _ (s12 _ _ (s11 _ _ e10)))
        · exact t14 _ _ (t8 _ _ (t7.tups _ _ (t4 _ _ (s2 _ _ (hR y (Dp y1))))))
     have f14:=t14 _ _ e8;refine⟨pr,_,_,rfl,rfl,f14,(by rw[Ab];exact IQ (by omega)),?_⟩;have tl:=K0 (o:= .lst (us8.map (λq=>V.ref q.1)++[V.ref d2])) f14;refine⟨⟨_,_,rfl⟩,Ji (s8.trans t14) np,(t8.trans t14.tups).trans tl,by rw[Ij nr];exact t14 _ _ r8,us8++[(d2,m.take i++[(P1.2.1,N1.2)]++w'.drop (i+1))],by rw[HK,Ah];rfl,?_,λy hy=>?_⟩
     · rw[Ah,u8,IB es,Ah,Ci];rfl
     · rcases Aw.mp hy with y1 | y1
       · exact((v8 y y1).same t14).keep tl
       · rw[Ae.mp y1];exact W14.keep tl
   · rintro σ H8 ⟨⟨y8',y9',rfl⟩,s8,t8,r8,us8,e8,u8,v8⟩;refine⟨⟨_,_,_,_,_,_,rfl⟩,s8,(t4.trans t7.tups).trans t8,us8,e8,?_,v8⟩;have et:ss.take (ss.map λx=>V.ref x.1).length=ss:=Ar (by simp);rw[u8,et,CA,Dd];congr 1;rw[CC,Fp,BY];unfold Jp;rw[ewP,emP];show _=(Jw P1.2.2 M1.2.2).map _;rw[←f7,BA];rfl
 · rintro σ H3 ⟨⟨y4,y5,y6,y7,y8,y9,rfl⟩,s3,t3,us,e3,u3,v3⟩;rw[Ab,lws] at u3;refine⟨_,rfl,q pr _ np s3 ?_ ?_⟩
   · rw[e1];exact⟨us,u3,e3,v3⟩
   · rw[e1];exact TD kw ko im ap h1
theorem ZS(F:Fun K "parts_beside" "parts_beside" Oh f fd)(Hc:Γ15 P w K mg base):FnOk P w K mg base Ir 4 f fd ["wish","others"] (Sk):=by
 refine F.ok G6 (λvs H Q E h=>?_) (λcdv A outer s H vs Q E hr h=>?_)
 · obtain⟨a,l,w',os,rfl,hw,kw,lw,hl,lo,lx,q⟩:=h;rfl
 obtain⟨a,l,w',os,rfl,hw,kw,lw,hl,lo,lx,q⟩:=h;refine⟨_,(HQ (Ig (i:=2) G6.nd rfl (Or.inl rfl) (Jc (HG (pv 0) HH)))
  (HQ (JC Bh rfl (Jh (pv 1)) (H_ (i:=3) G6.nd rfl (Or.inr rfl)) (HW (Xw (N':=["part","smaller","other"]) (js:=[none,none,some 3]) (i:=2) G6.nd rfl (Or.inl rfl) rfl (IW (N:=["wish","others","parts","other"]) (outer:=HX Oh) (by decide+kernel)) (Jh (pv 2)) (λ_ _ _ _ _=>(H_ (i:=0) Nb rfl (Or.inl rfl))) (λ_ _ _ _ _=>Jy) (λ_ _ _ _ _=>(Pb K rfl (Ie Hc (hr.mono (by decide)) rfl (HG (pv 0) (HG (pv 2) HH))))) (λ_ _ _ _ _=>(H_ (i:=1) Nb rfl (Or.inl rfl))) (λ_ _ _ _ _=>Jy) (λ_ _ _ _ _=>(pv 1)))))
  (HW (Ik (pv 2))))),?_⟩
 refine⟨_,rfl,Kh,λr0 hr0=>?_⟩;have s1:=HU hr0 (.lst [V.ref a]);have e1:(HI H r0 (.lst [V.ref a])) r0=some (.lst [V.ref a]):=HK;generalize HI H r0 (.lst [V.ref a])=H1 at*;have hl1:=hl.same s1;refine⟨_,rfl,l,rfl,⟨_,SqL.of hl1.at'⟩,Lv (K:=K) (a:=l) (xs:=os.map λx=>V.ref x.1) (λi σ H'=>(∃r y3,σ=[some (.ref a),some (.ref l),some (.ref r),y3]∧LU H' r (HM w' ((os.map (·.2)).take i)))∧Same H H'∧AllOk w' ((os.map (·.2)).take i) (HM w' ((os.map (·.2)).take i))) ⟨⟨r0,none,rfl,[(a,w')],rfl,e1,λx hx=>by rw[Ae.mp hx];exact hw.same s1⟩,s1,all_nil kw⟩ (λi σ H' _ ⟨_,z,_⟩=>SqL.of (z _ _ hl.at')) ?_ ?_⟩
 · rintro i x σ H2 hx ⟨⟨r,y3,rfl,qs,q1,q2,q3⟩,s2,A2⟩;obtain⟨O1,ex,rfl⟩:=Ih hx;have hm:=Aj ex;have eo:(os.map (·.2))[i]?=some O1.2:=by rw[Af,ex];rfl
   have li:i<7:=by have:=(Al.mp ex).1;omega
   have okq:∀x∈qs,WOk x.2∧x.2.length≤3:=λx hx=>by obtain⟨a1,a2⟩:=A2.ok x.2 (by rw[←q1];exact A3 hx);have:=congrArg Bi a2;simp only[Ab] at this;exact⟨a1,by omega⟩
   have lq:qs.length≤7^7:=by have h1:=A2.len;rw[←q1,Ab,A7,Ab] at h1;exact AL h1 (Ds (by decide) (by omega))
   by_cases hb:∀x∈qs,OneOk x.2 O1.2 (one x.2 O1.2)
   · refine⟨_,rfl,r,rfl,⟨_,SqL.of q2⟩,λp hp=>?_⟩;refine X9 (cap:=[some (.ref O1.1)]) qs (λp=>one p O1.2) (SqL.of q2) hp rfl (λx hx=>by have h1:=(hb x hx).len;have h2:=(okq x hx).2;omega) lq q3 (λx hx y H' R s' hR=>?_) (λu v H' R h=>⟨_,rfl,h⟩) λH3 zs s3 z1 z2 z3=>?_
     · refine⟨_,rfl,_,rfl,x.1,O1.1,x.2,O1.2,rfl,(q3 x hx).same s',(hl.ok O1 hm).1.same (s2.trans s'),(okq x hx).1,(hl.ok O1 hm).2,by have:=(okq x hx).2;omega,lx O1 hm,λrr H4 nr s4 ps ok=>?_⟩;obtain⟨rs,r1,r2,r3⟩:=ps;exact⟨rr,rfl,⟨_,SqL.of r2⟩,hR rr rs H4 nr s4 r2 r1 r3⟩
     · have e3:zs.map (·.2)=HM w' ((os.map (·.2)).take (i+1)):=by
        rw[z1,IB eo,MO,←q1,List.flatMap_map]
       refine⟨⟨p,_,rfl,zs,e3,z2,z3⟩,s2.trans s3,?_⟩;rw[IB eo,MO];refine Sd A2 lw λp hp=>?_;rw[←q1] at hp;obtain⟨x,hx,rfl⟩:=Ay.mp hp;exact hb x hx
   · exact absurd (λx hx=>Pa (okq x hx).1 (hl.ok O1 hm).2) hb
 · rintro σ H2 ⟨⟨r,y3,rfl,P2⟩,s2,A2⟩;rw[Ab,Ar (by simp)] at A2;rw[Ab,Ar (by simp)] at P2;exact⟨_,rfl,q r _ s2 P2 A2⟩
theorem Zb(F:Fun K "fields_of" "fields_of" NX f fd)  :FnOk P w K mg base Ir 1 f fd ["wishes"] (T_):=by
 refine F.ok ZC (λvs H Q E h=>?_) (λcdv A outer s H vs Q E hr h=>?_)
 · obtain⟨l,ws,fs,rfl,hw,lf,hin,q⟩:=h;rfl
 obtain⟨l,ws,fs,rfl,hw,lf,hin,q⟩:=h;refine⟨_,(HW (Ik (Ya (N':=["wish","field","low","high"]) (js:=[none,none,none,none]) rfl B.sorted_ rfl (IW (N:=["wishes"]) (outer:=HX NX) (by decide+kernel)) (Jh (pv 0)) (λ_ _ _ _ _=>(H_ (i:=0) K_ rfl (Or.inl rfl))) (λ_ _ _ _ _=>Jy) (λ_ _ _ _ _=>(V9 K rfl (pv 0))) (λ_ _ _ _ _=>(Mi K rfl (n:=3) rfl (Iq (H_ (i:=1) K_ rfl (Or.inl rfl)) (Iq (H_ (i:=2) K_ rfl (Or.inl rfl)) (Iq (H_ (i:=3) K_ rfl (Or.inl rfl)) Jr))))) (λ_ _ _ _ _=>Jy) (λ_ _ _ _ _=>(pv 1))))),?_⟩;refine⟨_,rfl,l,rfl,⟨_,SqL.of hw.at'⟩,?_⟩;refine Yg ws fs (SqL.of hw.at') (λx hx=>(hw.ok x hx).1) hin lf rfl (λx hx y1 y2 y3 R h1 h2=>⟨_,rfl,x.1,rfl,h1,h2⟩) (λx0 y1 y2 y3 p R h1 h2=>⟨p.1,_,rfl,SqT.of h1,rfl,_,_,rfl,_,_,rfl,_,_,rfl,rfl,h2⟩) (λx0 y2 y3 f R h=>⟨_,rfl,h⟩) λks nd l6 mem=>?_;exact⟨by omega,λp ms mp mn so hp=>q p ms _ (HU hp _) hp HK mn so λf=>(mp.mem_iff).trans (mem f)⟩
theorem Za(F:Fun K "check_few" "check_few" PR f fd)  :FnOk P w K mg base Ir 1 f fd ["wishes","fields"] (Rb):=by
 refine F.ok ZB (λvs H Q E h=>?_) (λcdv A outer s H vs Q E hr h=>?_)
 · obtain⟨l,f',xs,ys,rfl,hl,hf,lx,ly,q⟩:=h;rfl
 obtain⟨l,f',xs,ys,rfl,hl,hf,lx,ly,q⟩:=h;refine⟨_,(HQ (IH (IA KM (Iy JQ rfl B.len_ J9 (HG (pv 0) HH)) (NL (v:= .int 7) rfl C_MOST_WISHES ⟨_,rfl⟩) (I0 _)) (HW MJ) IG)
  (HW (IH (IA KM (Iy JQ rfl B.len_ J9 (HG (pv 1) HH)) (NL (v:= .int 3) rfl C_MOST_FIELDS ⟨_,rfl⟩) (I0 _)) (HW MJ) IG))),?_⟩
 refine⟨_,rfl,l,_,rfl,.inl (SqL.of hl),_,_,rfl,rfl,_,rfl,Il (λh=>absurd (of_decide_eq_true h) (by omega)) (λ_=>?_)⟩;exact⟨_,rfl,f',_,rfl,.inl (SqL.of hf),_,_,rfl,rfl,_,rfl,Il (λh=>absurd (of_decide_eq_true h) (by omega)) (λ_=>q)⟩
theorem ZZ(F:Fun K "how_many_of" "how_many_of" PN f fd)(Hd:Γ4 P w K mg base):FnOk P w K mg base Ir 6 f fd ["wish"] (Sg):=by
 refine F.ok G7 (λvs H Q E h=>?_) (λcdv A outer s H vs Q E hr h=>?_)
 · obtain⟨a,w',rfl,hw,wok,hb,q⟩:=h;rfl
 obtain⟨a,w',rfl,hw,wok,hb,q⟩:=h;refine⟨_,(HQ (Ig (i:=1) G7.nd rfl (Or.inl rfl) HL)
  (HQ (JC Bh rfl (Kn (pv 0)) (JI rfl (Iq (H_ (i:=2) G7.nd rfl (Or.inl rfl)) (Iq (H_ (i:=3) G7.nd rfl (Or.inl rfl)) (Iq (H_ (i:=4) G7.nd rfl (Or.inl rfl)) Jr)))) (HQ (Ig (i:=5) G7.nd rfl (Or.inl rfl) (Ie Hd (hr.mono (by decide)) rfl (HG (IX (HG (pv 3) (HG (pv 4) HH))) HH)))
  (HQ (IH (J7 (Km (pv 5))) (HW (Ik JB)) IG)
  (HW (VC (i:=1) G7.nd rfl (Or.inl rfl) (pv 5) UJ)))))
  (HW (Ik (pv 1))))),?_⟩
 obtain⟨ps,rfl,hA,hP⟩:=hw;refine⟨_,rfl,a,rfl,⟨_,SqT.of hA⟩,M8 (K:=K) (a:=a) (xs:=ps.map λp=>V.ref p.1) (λi σ H'=>(∃y2 y3 y4 y5,σ=[some (.ref a),some (.int (JX ((ps.map (·.2)).take i))),y2,y3,y4,y5])∧Same H H'∧Ib ((ps.map (·.2)).take i)=true) ⟨⟨none,none,none,none,rfl⟩,Same.refl _,rfl⟩ (λi σ H' _ ⟨_,s,_⟩=>s.seqT (SqT.of hA)) ?_ ?_⟩
 · rintro i x σ H' hx ⟨⟨y2,y3,y4,y5,rfl⟩,s,hb'⟩;obtain⟨P1,e1,rfl⟩:=Ih hx;have hm:=Aj e1;have ew:(ps.map (·.2))[i]?=some P1.2:=by rw[Af,e1];rfl
   refine⟨P1.1,_,rfl,SqT.of (s _ _ (hP P1 hm)),rfl,_,_,rfl,_,_,rfl,_,_,rfl,rfl,?_⟩;refine⟨_,rfl,_,rfl,Jk,λu hu=>?_⟩;have su:=HU hu (.tup [eV P1.2.2.1,eV P1.2.2.2]);have mP:=A3 (f:=(·.2)) hm;have le1:=(wok.ok P1.2 mP).2;have hb1:=hb P1.2 mP;refine⟨.ref u,P1.2.2.1,P1.2.2.2,rfl,⟨u,rfl,HK⟩,le1,?_⟩;have out:Iv P1.2.2=false→Q .non (HI H' u (.tup [eV P1.2.2.1,eV P1.2.2.2])):=λh=>by
    have e:IZ (ps.map (·.2))=none:=by unfold IZ;rw[if_neg];intro z;rw[A9.mp z P1.2 mP] at h;cases h
    rw[e] at q;exact q _ (s.trans su)
   obtain⟨pa,f',lo,hi⟩:=P1;dsimp only at*;cases lo with
   | none=>exact⟨_,rfl,_,rfl,HP (out rfl)⟩
   | some l'=>
    cases hi with
    | none=>exact⟨_,rfl,_,rfl,HP (out rfl)⟩
    | some h'=>
     have hb2:=hb1 l' h' rfl;refine⟨_,rfl,_,rfl,HR ⟨_,rfl,_,rfl,_,_,rfl,rfl,.inr hb2,⟨some (.str f'),some (.int l'),some (.int h'),some (.int (h' - l'+1)),?_⟩,s.trans su,?_⟩⟩
     · rw[IB ew,Yd];rfl
     · rw[IB ew];unfold Ib at*;rw[FD,hb'];rfl
 · rintro σ H' ⟨⟨y2,y3,y4,y5,rfl⟩,s,hb'⟩;rw[Ab,Ar (by simp)] at hb';rw[Ab,Ar (l:=ps.map (·.2)) (by simp)];have e:IZ (ps.map (·.2))=some (JX (ps.map (·.2))):=by unfold IZ;rw[if_pos hb']
   rw[e] at q;exact⟨_,rfl,q _ s⟩
theorem ZX(F:Fun K "has_no_more" "has_no_more" Op f fd)  :FnOk P w K mg base Ir 1 f fd ["wish","fields"] (SF):=by
 refine F.ok ZN (λvs H Q E h=>?_) (λcdv A outer s H vs Q E hr h=>?_)
 · obtain⟨a,l,w',fs,rfl,hw,wok,hl,q⟩:=h;rfl
 obtain⟨a,l,w',fs,rfl,hw,wok,hl,q⟩:=h;refine⟨_,(HW (Ik (Iy (LI rfl) rfl B.all_ LG (HG (Jq (N':=["field","low","high","fields"]) (js:=[none,none,none,some 1]) rfl (IW (N:=["wish","fields"]) (outer:=HX Op) (by decide+kernel)) (Kn (pv 0)) (λ_ _ _ _ _=>(Mi K rfl (n:=3) rfl (Iq (H_ (i:=0) LP rfl (Or.inl rfl)) (Iq (H_ (i:=1) LP rfl (Or.inl rfl)) (Iq (H_ (i:=2) LP rfl (Or.inl rfl)) Jr))))) (λ_ _ _ _ _=>Jy) (λ_ _ _ _ _=>(Mh (VY K rfl) (pv 0) (pv 3) (by with_unfolding_all rfl)))) HH)))),?_⟩;obtain⟨ps,rfl,hA,hP⟩:=hw;refine⟨_,rfl,a,rfl,⟨_,SqT.of hA⟩,λp hp=>?_⟩;have lp:ps.length≤100:=by have:=wok.len;rw[Ab] at this;exact this
 refine NJ (xs:=ps.map λp=>V.ref p.1) (λi σ' ys H'=>(∃v1 v2 v3,σ'=[v1,v2,v3,some (.ref l)])∧Same H H'∧H' p=some (.lst ys)∧ys=(((ps.map (·.2)).take i).map λp=>decide (p.1∈fs)).map V.bl) ⟨⟨none,none,none,rfl⟩,HU hp _,HK,rfl⟩ ?_ ?_ ?_
 · rintro i σ' ys H' hi ⟨_,s,h1,h3⟩;refine⟨s.seqT (SqT.of hA),h1,?_⟩;rw[h3,Ab,Ab,A7,Ab];exact IQ (by omega)
 · rintro i x σ' ys H' N hx ⟨⟨v1,v2,v3,rfl⟩,s,h1,h3⟩ hN;obtain⟨P1,e1,rfl⟩:=Ih hx;have hm:=Aj e1;have ew:(ps.map (·.2))[i]?=some P1.2:=by rw[Af,e1];rfl
   refine⟨P1.1,_,rfl,SqT.of (s _ _ (hP P1 hm)),rfl,_,_,rfl,_,_,rfl,_,_,rfl,rfl,?_⟩;refine⟨_,rfl,_,rfl,l,_,rfl,.inl (SqL.of (s _ _ hl)),rfl,NP fs,?_⟩;dsimp only;rw[if_neg As,MA];refine⟨h1,hN _ _ _ ⟨⟨_,_,_,rfl⟩,Ji s hp,HK,?_⟩⟩;rw[h3,IB ew,Ah,Ah];rfl
 · rintro σ' ys H' ⟨_,s,h1,h3⟩;rw[Ab,Ar (by simp)] at h3;refine⟨p,_,rfl,SqL.of (by rw[h1,h3]),?_⟩;rw[OJ];exact q _ s
theorem Zc(F:Fun K "filled_up" "filled_up" NY f fd)(GZ:Γ12 P w K mg base):FnOk P w K mg base Ir 2 f fd ["wish","fields"] (R7):=by
 refine F.ok G8 (λvs H Q E h=>?_) (λcdv A outer s H vs Q E hr h=>?_)
 · obtain⟨a,l,w',fs,rfl,hw,wok,hl,l3,q⟩:=h;rfl
 obtain⟨a,l,w',fs,rfl,hw,wok,hl,l3,q⟩:=h;refine⟨_,(HQ (Ig (i:=2) G8.nd rfl (Or.inr rfl) (Ie GZ (hr.mono (by decide)) rfl (HG (pv 0) HH)))
  (HW (Ik (Lr On rfl B.tuple_ LH (HG (Jq (N':=["field","spans"]) (js:=[none,some 2]) rfl (IW (N:=["wish","fields","spans"]) (outer:=HX NY) (by decide+kernel)) (Jh (pv 1)) (λ_ _ _ _ _=>(H_ (i:=0) No rfl (Or.inl rfl))) (λ_ _ _ _ _=>Jy) (λ_ _ _ _ _=>(Ia M9 (IX (HG (pv 0) HH)) (Sw (KL hr) (pv 1) (pv 0) (IX (HG JB (HG JB HH))) ⟨rfl,rfl,rfl,rfl⟩)))) HH))))),?_⟩
 refine⟨_,rfl,a,w',rfl,hw,wok,λd H1 s1 n1 D1=>?_⟩;obtain⟨bs,b1,b2,b3⟩:=D1;have hl1:=s1 _ _ hl;refine⟨_,rfl,l,rfl,⟨_,SqL.of hl1⟩,λp hp=>?_⟩;refine JR (xs:=fs.map V.str) (λi σ' ys H'=>(∃v,σ'=[v,some (.ref d)])∧Same H1 H'∧H' p=some (.lst ys)∧∃ts:List (Addr×WP),ys=ts.map (λt=>V.ref t.1)∧ts.map (·.2)=IK (fs.take i) w'∧∀t∈ts,H' t.1=some (.tup [.str t.2.1,eV t.2.2.1,eV t.2.2.2])) ⟨⟨none,rfl⟩,HU hp _,HK,[],rfl,rfl,λt ht=>by simp at ht⟩ ?_ ?_ ?_
 · rintro i σ' ys H' hi ⟨_,s,h1,ts,rfl,h2,_⟩;refine⟨s.seq (SqL.of hl1),h1,?_⟩;have:=congrArg Bi h2;unfold IK at this;rw[Ab,Ab,A7] at this;rw[Ab];exact IQ (by omega)
 · rintro i x σ' ys H2 N hx ⟨⟨v,rfl⟩,s2,h1,ts,rfl,h2,h3⟩ hN;rw[Af] at hx;cases e1:fs[i]? with
   | none=>rw[e1] at hx;cases hx
   | some fi=>
    rw[e1] at hx;obtain rfl:V.str fi=x:=Az hx;refine⟨_,rfl,Kh,λc1 hc1=>?_⟩;have s3:=HU hc1 (.tup [V.str fi]);have e3:(HI H2 c1 (.tup [V.str fi])) c1=some (.tup [V.str fi]):=HK;generalize HI H2 c1 (.tup [V.str fi])=H3 at*;have k1:=s3 _ _ (s2 _ _ b1);refine⟨_,rfl,d,rfl,.inl ⟨J0 bs,.inl k1⟩,_,rfl,Jk,λv' hv=>?_⟩;have sv:=HU hv (.tup [V.non,V.non]);have ev:(HI H3 v' (.tup [V.non,V.non])) v'=some (.tup [V.non,V.non]):=HK;have k1v:=sv _ _ k1;generalize HI H3 v' (.tup [V.non,V.non])=H4 at*;have gd:=DGet.k (k:=Sum.inr fi) k1v;rw[LJ] at gd;have kf:=b3 fi;obtain⟨sp,esp,tt,ett,htt⟩:∃sp:IE,(HZ w' fi).getD (none,none)=sp∧∃tt,(IP bs fi).getD (.ref v')= .ref tt∧H4 tt=some (.tup [eV sp.1,eV sp.2]):=by
     cases hs:HZ w' fi with
     | none=>rw[hs] at kf;rw[show IP bs fi=none from kf];exact⟨(none,none),rfl,v',rfl,ev⟩
     | some sp=>rw[hs] at kf;obtain⟨t,z1,z2⟩:=kf;rw[z1];exact⟨sp,rfl,t,rfl,sv _ _ (s3 _ _ (s2 _ _ z2))⟩
    refine⟨_,gd,?_⟩;rw[ett];refine⟨c1,tt,_,_,rfl,rfl,sv _ _ e3,htt,(by simp[sizeLine_eq]),λc3 H5 s5 e5=>?_⟩;have s25:=s3.trans (sv.trans s5);have h5:=s25 _ _ h1;have tl:=K0 (o:= .lst (ts.map (λq=>V.ref q.1)++[V.ref c3])) h5;refine⟨h5,hN _ _ _ ⟨⟨_,rfl⟩,Ji (s2.trans s25) hp,HK,ts++[(c3,fi,sp)],by rw[Ah];rfl,?_,λt ht=>?_⟩⟩
    · rw[Ah,h2,IB e1];unfold IK;rw[Ah];congr 1;show [(fi,sp)]=[(fi,(HZ w' fi).getD (none,none))];rw[esp]
    · rcases Aw.mp ht with z | z
      · exact tl _ _ (s25 _ _ (h3 t z))
      · rw[Ae.mp z];exact tl _ _ (by rw[e5];rfl)
 · rintro σ' ys H2 ⟨_,s2,h1,ts,rfl,h2,h3⟩;rw[Ab,Bb] at h2;refine⟨p,_,rfl,.inl ⟨SqL.of h1,λt ht=>?_⟩⟩;have s3:=HU ht (.tup (ts.map λt=>V.ref t.1));exact q _ _ (s1.trans (s2.trans s3)) ⟨ts,h2,HK,λx hx=>s3 _ _ (h3 x hx)⟩
theorem zc9(F:Fun K "how_many_wanted" "how_many_wanted" MR f fd)(He:Γ21 P w K mg base)(Hf:Γ20 P w K mg base)(Hg:Γ19 P w K mg base)(Hh:Γ16 P w K mg base):FnOk P w K mg base Ir 7 f fd ["wishes","fields"] (SH):=by
 refine F.ok G9 (λvs H Q E h=>?_) (λcdv A outer s H vs Q E hr h=>?_)
 · obtain⟨l,f,ws,fs,lo,sz,m,rfl,hw,l7,hf,tf,gk,gw,q⟩:=h;rfl
 obtain⟨l,f,ws,fs,lo,sz,m,rfl,hw,l7,hf,tf,gk,gw,q⟩:=h;refine⟨_,(HQ (MK (N':=["wish","fields"]) (js:=[none,some 1]) (i:=2) G9.nd rfl (Or.inl rfl) rfl (IW (N:=["wishes","fields","filled","numbers","at","wish"]) (outer:=HX MR) (by decide+kernel)) (Jh (pv 0)) (λ_ _ _ _ _=>(H_ (i:=0) Nn rfl (Or.inl rfl))) (λ_ _ _ _ _=>Kt (J_ (Ie Hf (hr.mono (by decide)) rfl (HG (pv 0) (HG (pv 1) HH))))) (λ_ _ _ _ _=>(Ie He (hr.mono (by decide)) rfl (HG (pv 0) (HG (pv 1) HH)))))
  (HQ (Ig (i:=3) G9.nd rfl (Or.inl rfl) (Jc HH))
  (HQ (JC Bh rfl (V8 rfl B.enumerate_ (HG (pv 2) HH)) (JI rfl (Iq (H_ (i:=4) G9.nd rfl (Or.inl rfl)) (Iq (H_ (i:=5) G9.nd rfl (Or.inl rfl)) Jr))) (HW (Kr (KN BM PySem.F.slot_list_extend PySem.F.type_list_extend XH (pv 3) (HG (Jq (N':=["part"]) (js:=[none]) rfl (IW (N:=["wishes","fields","filled","numbers","at","wish"]) (outer:=HX MR) (by decide+kernel)) (Jh (Ie Hh (hr.mono (by decide)) rfl (HG (pv 5) (HG (Ks NM (pv 2) Kp (Kq (pv 4))) HH)))) (λ_ _ _ _ _=>(H_ (i:=0) Nc rfl (Or.inl rfl))) (λ_ _ _ _ _=>Jy) (λ_ _ _ _ _=>(Ie Hg (hr.mono (by decide)) rfl (HG (pv 0) HH)))) HH)))))
  (HW (Ik (Lx (IA TF JB (pv 3) (by with_unfolding_all rfl)) JB (Iy (WJ rfl) rfl B.sum_ UB (HG (pv 3) HH)))))))),?_⟩
 refine⟨_,rfl,l,rfl,⟨_,SqL.of hw.at'⟩,λfr hfr=>?_⟩;refine JR (xs:=ws.map λx=>V.ref x.1) (λi σ' ys H'=>(∃v,σ'=[v,some (.ref f)])∧Same H H'∧H' fr=some (.lst ys)∧∃qs:List (Addr×List WP),ys=qs.map (λx=>V.ref x.1)∧qs.map (·.2)=(((ws.map (·.2)).take i).filter λx=>Jl fs x).map (λx=>IK fs x)∧qs.length≤i∧∀q∈qs,WishAt H' q.1 q.2) ⟨⟨none,rfl⟩,HU hfr _,HK,[],rfl,rfl,Ag _,λt ht=>by simp at ht⟩ ?_ ?_ ?_
 · rintro i σ' ys H' hi ⟨_,s,h1,qs,rfl,h2,h3,_⟩;rw[Ab] at hi;refine⟨s.seq (SqL.of hw.at'),h1,?_⟩;rw[Ab];exact IQ (by omega)
 · rintro i x σ' ys H2 N hx ⟨⟨v,rfl⟩,s2,h1,qs,rfl,h2,h3,h4⟩ hN;obtain⟨X1,e1,rfl⟩:=Ih hx;have ew:(ws.map (·.2))[i]?=some X1.2:=by rw[Af,e1];rfl
   obtain⟨x1,x2⟩:=hw.ok X1 (Aj e1);refine⟨_,rfl,_,rfl,X1.1,f,X1.2,fs,rfl,x1.same s2,x2,s2 _ _ hf,λH3 s3=>⟨_,rfl,?_⟩⟩;have st:(((ws.map (·.2)).take (i+1)).filter λx=>Jl fs x).map (λx=>IK fs x)=(((ws.map (·.2)).take i).filter λx=>Jl fs x).map (λx=>IK fs x)++(if Jl fs X1.2=true then [IK fs X1.2] else []):=by
    rw[IB ew,BF,Ah,BV]
    split<;>rfl
   cases c:Jl fs X1.2 with
   | false=> rw[c] at st;exact HR (hN _ _ _ ⟨⟨_,rfl⟩,s2.trans s3,s3 _ _ h1,qs,rfl,by rw[st,h2];simp,by omega,λq hq=>(h4 q hq).same s3⟩)
   | true=>
    rw[c] at st;refine HP ⟨_,rfl,_,rfl,X1.1,f,X1.2,fs,rfl,x1.same (s2.trans s3),x2,(s2.trans s3) _ _ hf,tf.len,λr H4 s4 W4=>?_⟩;have s34:=s3.trans s4;have h5:=s34 _ _ h1;have tl:=K0 (o:= .lst (qs.map (λq=>V.ref q.1)++[V.ref r])) h5;refine⟨h5,hN _ _ _ ⟨⟨_,rfl⟩,Ji (s2.trans s34) hfr,HK,qs++[(r,IK fs X1.2)],by rw[Ah];rfl,by rw[st,Ah,h2];rfl,by rw[A5];simp;omega,λq hq=>?_⟩⟩;rcases Aw.mp hq with z | z
    · exact((h4 q z).same s34).keep tl
    · rw[Ae.mp z];exact W4.keep tl
 rintro σ' ys H1 ⟨_,s1,h1,qs,rfl,h2,h3,h4⟩;rw[Ab] at h3;rw[Ab,Ar (by simp)] at h2;have okq:∀q∈qs,WOk q.2∧q.2.length≤3∧I_ lo sz m q.2:=λq hq=>by have:q.2∈qs.map (·.2):=A3 hq;rw[h2] at this;obtain⟨y,hy,e⟩:=Ay.mp this;obtain⟨x,hx,rfl⟩:=Ay.mp (C7.mp hy).1;rw[←e];refine⟨RG tf.len tf.ok tf.asc (hw.ok x hx).2,?_,Tc (gw x hx)⟩;unfold IK;rw[Ab];exact tf.len
 refine⟨JE,λnr hnr=>?_⟩;have s2:=HU hnr (.lst []);have e2:(HI H1 nr (.lst [])) nr=some (.lst []):=HK;have h12:=s2 _ _ h1;have h42:∀q∈qs,WishAt (HI H1 nr (.lst [])) q.1 q.2:=λq hq=>(h4 q hq).same s2;have nfr:nr≠fr:=λe=>by rw[e,h1] at hnr;cases hnr
 have np:H nr=none:=s1.free hnr;generalize HI H1 nr (.lst [])=H2 at*;obtain⟨g1,g2,g3⟩:=gk;have pcount:∀n,n≤qs.length→((Bc n).flatMap λi=>HM ((qs.map (·.2)).getD i []) ((qs.map (·.2)).take i)).length≤n*7^7:=by
  intro n
  induction n with
  | zero=>intro _;simp
  | succ n ih=>
   intro hn;rw[CA,Dd,A5];have:=ih (by omega);have e0:qs[n]?=some qs[n]:=Av (by omega);have e1:(qs.map (·.2)).getD n []=qs[n].2:=by rw[AX,Af,e0];rfl
   obtain⟨k1,k2,_⟩:=okq qs[n] (DV _);have A:=Mk k1 k2 (os:=(qs.map (·.2)).take n) λo ho=>by obtain⟨y,hy,rfl⟩:=Ay.mp (AJ ho);exact(okq y hy).1
   have h5:=A.len;have h6:(7:Nat)^((qs.map (·.2)).take n).length≤7^7:=Ds (by decide) (by rw[A7,Ab];omega);rw[CC,Fp,BY,e1];omega
 refine⟨_,rfl,fr,rfl,⟨_,SqL.of h12⟩,Wo (K:=K) (a:=fr) (xs:=qs.map λx=>V.ref x.1) (λi σ H'=>(∃y4 y5,σ=[some (.ref l),some (.ref f),some (.ref fr),some (.ref nr),y4,y5])∧Same H H'∧Tups H2 H'∧H' fr=some (.lst (qs.map λx=>V.ref x.1))∧H' nr=some (.lst ((((Bc i).flatMap λi=>HM ((qs.map (·.2)).getD i []) ((qs.map (·.2)).take i)).map IZ).map eV))) ⟨⟨none,none,rfl⟩,s1.trans s2,λ_ _ z=>z,h12,e2⟩ (λi σ H' _ ⟨_,_,_,z,_⟩=>SqL.of z) ?_ ?_⟩
 · rintro i x z σ H3 hx hz ⟨⟨y4,y5,rfl⟩,s3,t3,e3,n3⟩;obtain⟨X1,e1,rfl⟩:=Ih hx;have li:=(Al.mp e1).1;have mX:=Aj e1;obtain⟨k1,k2,k3⟩:=okq X1 mX;have s4:=HU hz (.tup [V.int (i:Int),V.ref X1.1]);have e4:(HI H3 z (.tup [V.int (i:Int),V.ref X1.1])) z=some (.tup [V.int (i:Int),V.ref X1.1]):=HK;have t4:=t3.trans s4.tups;have f4:=s4 _ _ e3;have n4:=s4 _ _ n3;have S4:=s3.trans s4;generalize HI H3 z (.tup [V.int (i:Int),V.ref X1.1])=H4 at*;refine⟨z,_,rfl,SqT.of e4,rfl,_,_,rfl,_,_,rfl,rfl,?_⟩;refine⟨_,rfl,.inl ⟨rfl,_,SqL.of n4⟩,?_⟩;refine⟨_,rfl,_,rfl,_,rfl,_,rfl,fr,_,rfl,SqL.of f4,λp1 hp1=>?_⟩;rw[Ph rfl,←Df];have s5:=HU hp1 (.lst ((qs.take i).map λx=>V.ref x.1));have e5:(HI H4 p1 (.lst ((qs.take i).map λx=>V.ref x.1))) p1=some (.lst ((qs.take i).map λx=>V.ref x.1)):=HK;generalize HI H4 p1 (.lst ((qs.take i).map λx=>V.ref x.1))=H5 at*;have W5:∀q∈qs,WishAt H5 q.1 q.2:=λq hq=>((h42 q hq).keep t4).same s5;have O5:WsAt H5 p1 (qs.take i):=⟨e5,λx hx=>⟨W5 x (AJ hx),(okq x (AJ hx)).1⟩,by rw[A7];omega⟩;refine⟨X1.1,p1,X1.2,qs.take i,rfl,W5 X1 mX,k1,k2,O5,by rw[A7];omega,λx hx=>AL (okq x (AJ hx)).2.1 (by decide),λr H6 s6 P6 A6=>?_⟩;rw[Df] at P6 A6;have gp:=TV k3 (os:=(qs.map (·.2)).take i) λo ho=>by
    obtain⟨y,hy,rfl⟩:=Ay.mp (AJ ho);exact(okq y hy).2.2
   have eg:(qs.map (·.2)).getD i []=X1.2:=by rw[AX,Af,e1];rfl
   have lpp:=A6.len;have l77:(7:Nat)^((qs.map (·.2)).take i).length≤7^7:=Ds (by decide) (by rw[A7,Ab];omega);generalize hpt:HM X1.2 ((qs.map (·.2)).take i)=pts at*;obtain⟨us,u1,u2,u3⟩:=P6;have lus:us.length=pts.length:=by rw[←u1,Ab]
   refine⟨r,rfl,⟨_,SqL.of u2⟩,λcr hcr=>?_⟩;refine JR (xs:=us.map λx=>V.ref x.1) (λj σ' ys H'=>(∃v,σ'=[v])∧Same H6 H'∧H' cr=some (.lst ys)∧ys=((pts.take j).map IZ).map eV) ⟨⟨none,rfl⟩,HU hcr _,HK,rfl⟩ ?_ ?_ ?_
   · rintro j σ' ys H' hj ⟨_,s,c1,c2⟩;refine⟨s.seq (SqL.of u2),c1,?_⟩;rw[c2,Ab,Ab,A7];exact BS (show _≤7^7 by omega) (by decide)
   · rintro j x σ' ys H7 N hx ⟨⟨v,rfl⟩,s7,c1,c2⟩ hN;obtain⟨U1,eu,rfl⟩:=Ih hx;have ep:pts[j]?=some U1.2:=by rw[←u1,Af,eu];rfl
     have mp:=Aj ep;refine⟨_,rfl,U1.1,U1.2,rfl,(u3 U1 (Aj eu)).same s7,(A6.ok _ mp).1,λp hp l' h' e=>?_,λH8 s8=>?_⟩
     · have gq:=gp _ mp p hp;obtain⟨a1,a2,a3,a4⟩:=gq.low l' (by rw[e]);obtain⟨b1,b2,b3,b4⟩:=gq.high h' (by rw[e]);have c1':sz*a1≤sz*m:=Cn (by omega) (by omega);have c2':sz*b1≤sz*m:=Cn (by omega) (by omega);have c3':0≤sz*a1:=Ex (by omega) a2;have c4':0≤sz*b1:=Ex (by omega) b2;omega
     · refine⟨s8 _ _ c1,hN _ _ _ ⟨⟨_,rfl⟩,Ji (s7.trans s8) hcr,HK,?_⟩⟩;rw[c2,IB ep,Ah,Ah];rfl
   · rintro σ' ys H7 ⟨_,s7,c1,rfl⟩;rw[Ab,lus,Bb] at c1;have s47:=s5.trans (s6.trans s7);have n7:=s47 _ _ n4;have f7:=s47 _ _ f4;have pc:=pcount i (by omega);refine⟨nr,cr,_,_,rfl,rfl,n7,c1,?_,?_⟩
     · rw[Ab,Ab,Ab,Ab];refine AL (show _≤8*7^7 by omega) (by decide)
     · have tl:=K0 (o:= .lst ((((Bc i).flatMap λi=>HM ((qs.map (·.2)).getD i []) ((qs.map (·.2)).take i)).map IZ).map eV++(pts.map IZ).map eV)) n7;refine⟨⟨_,_,rfl⟩,Ji (S4.trans s47) np,(t4.trans s47.tups).trans tl,by rw[Ij nfr.symm];exact f7,?_⟩;rw[HK,CA,Dd,Ah,Ah,CC,Fp,BY,eg,hpt]
 · rintro σ H3 ⟨⟨y4,y5,rfl⟩,s3,t3,e3,n3⟩;rw[Ab] at n3;have pe:((Bc qs.length).flatMap λi=>HM ((qs.map (·.2)).getD i []) ((qs.map (·.2)).take i))=HY (qs.map (·.2)):=by unfold HY;rw[Ab]
   rw[pe] at n3;have em:IV fs (ws.map (·.2))=IS (qs.map (·.2)):=by unfold IV;rw[h2]
   rw[em] at q;obtain⟨w1,w2⟩:=XW (HY (qs.map (·.2)));refine⟨_,rfl,nr,_,rfl,.inl (SqL.of n3),rfl,XQ _,_,rfl,?_⟩;rw[if_neg As,SS,w1];cases c:(HY (qs.map (·.2))).all Ib with
   | false=>
    have:IS (qs.map (·.2))=none:=by unfold IS;rw[if_neg (by rw[c];exact As)]
    rw[this] at q;exact HP (q _ s3)
   | true=>
    have:IS (qs.map (·.2))=some (((HY (qs.map (·.2))).map JX).sum):=by unfold IS;rw[if_pos c]
    rw[this] at q;rw[Tb _ (by rw[w1,c];rfl),w2 c] at n3;exact HR ⟨_,rfl,nr,_,rfl,SqL.of n3,q _ s3⟩
theorem zcP(F:Fun K "is_list_of_fields" "is_list_of_fields" MS f fd)(GU:Γ6 P w K mg base):FnOk P w K mg base Ir 2 f fd ["thing"] (Si):=by
 refine F.ok zcO (λvs H Q E h=>?_) (λcdv A outer s H vs Q E hr h=>?_)
 · obtain⟨f,fs,rfl,hf,tf,q⟩:=h;rfl
 obtain⟨f,fs,rfl,hf,tf,q⟩:=h;refine⟨_,(HQ (IH (PW.pt (Ll (Ko (J_ (Iy (KE (n:="")) rfl B.isinstance_ KH (HG (pv 0) (HG (KD (v:= .ty "list") rfl B.list_ M6 rfl) HH))))) (Lo (IA KM (Iy JQ rfl B.len_ J9 (HG (pv 0) HH)) (NL (v:= .int 3) rfl C_MOST_FIELDS ⟨_,rfl⟩) (I0 _))))) (HW (Ik Kj)) IG)
  (HQ (IH (Ko (J_ (Iy (LI rfl) rfl B.all_ LG (HG (Jq (N':=["field"]) (js:=[none]) rfl (IW (N:=["thing"]) (outer:=HX MS) (by decide+kernel)) (Jh (pv 0)) (λ_ _ _ _ _=>(H_ (i:=0) Nm rfl (Or.inl rfl))) (λ_ _ _ _ _=>Jy) (λ_ _ _ _ _=>(Ie GU (hr.mono (by decide)) rfl (HG (pv 0) HH)))) HH)))) (HW (Ik Kj)) IG)
  (HW (Ik (Iy (LI rfl) rfl B.all_ LG (HG (Jq (N':=["ahead","behind"]) (js:=[none,none]) rfl (IW (N:=["thing"]) (outer:=HX MS) (by decide+kernel)) (VA rfl B.zip_ (HG (pv 0) (HG (Ks NM (pv 0) (Kq HL) Kp) HH))) (λ_ _ _ _ _=>(Mi K rfl (n:=2) rfl (Iq (H_ (i:=0) La rfl (Or.inl rfl)) (Iq (H_ (i:=1) La rfl (Or.inl rfl)) Jr)))) (λ_ _ _ _ _=>Jy) (λ_ _ _ _ _=>(Mh TJ (pv 0) (pv 1) (I0 _)))) HH)))))),?_⟩
 have l3:=tf.len;refine⟨_,rfl,_,"list","list",true,rfl,.lst hf,rfl,_,rfl,HR ⟨_,rfl,f,_,rfl,.inl (SqL.of hf),_,_,rfl,rfl,_,rfl,Il (λh=>absurd (of_decide_eq_true h) (by rw[Ab];omega)) (λ_=>?_)⟩⟩;refine⟨_,rfl,f,rfl,⟨_,SqL.of hf⟩,λp hp=>?_⟩;refine JR (xs:=fs.map V.str) (λi σ' ys H'=>(∃v,σ'=[v])∧Same H H'∧H' p=some (.lst ys)∧ys=((fs.take i).map λ_=>true).map V.bl) ⟨⟨none,rfl⟩,HU hp _,HK,rfl⟩ ?_ ?_ ?_
 · rintro i σ' ys H' hi ⟨_,s,h1,h2⟩;refine⟨s.seq (SqL.of hf),h1,?_⟩;rw[h2,Ab,Ab,A7];exact IQ (by omega)
 · rintro i x σ' ys H2 N hx ⟨⟨v,rfl⟩,s2,h1,h2⟩ hN;rw[Af] at hx;cases e1:fs[i]? with
   | none=>rw[e1] at hx;cases hx
   | some fi=> rw[e1] at hx;obtain rfl:V.str fi=x:=Az hx;refine⟨_,rfl,fi,rfl,tf.ok fi (Aj e1),λH3 s3=>⟨s3 _ _ h1,hN _ _ _ ⟨⟨_,rfl⟩,Ji (s2.trans s3) hp,HK,?_⟩⟩⟩;rw[h2,IB e1,Ah,Ah];rfl
 · rintro σ' ys H2 ⟨_,s2,h1,rfl⟩;refine⟨p,_,rfl,SqL.of h1,_,rfl,?_⟩;have:((fs.take (fs.map V.str).length).map λ_=>true).all id=true:=by rw[OJ];exact A9.mpr λ_ _=>rfl
   rw[this];refine HR ?_;have hf2:=s2 _ _ hf;refine⟨_,rfl,_,rfl,_,rfl,f,_,rfl,SqL.of hf2,λp1 hp1=>?_⟩;rw[show II (fs.map V.str) (some 1) none=(fs.map V.str).drop 1 from UC _ 1,←EN];have s3:=HU hp1 (.lst ((fs.drop 1).map V.str));have e3:(HI H2 p1 (.lst ((fs.drop 1).map V.str))) p1=some (.lst ((fs.drop 1).map V.str)):=HK;have hf3:=s3 _ _ hf2;generalize HI H2 p1 (.lst ((fs.drop 1).map V.str))=H3 at*;refine⟨f,p1,rfl,⟨_,SqL.of hf3⟩,⟨_,SqL.of e3⟩,λc hc=>?_⟩;refine V1 (n:=fs.length - 1) (xs:=fs.map V.str) (ys:=(fs.drop 1).map V.str) (by rw[Ab];omega) (by rw[Ab,C5];exact Ag _) (.inr (by rw[Ab,C5];exact Ag _)) (λi σ' ys H'=>(∃v w,σ'=[v,w])∧Same H3 H'∧H' c=some (.lst ys)∧ys=((Bc i).map λ_=>true).map V.bl) ⟨⟨none,none,rfl⟩,HU hc _,HK,rfl⟩ ?_ ?_ ?_
   · rintro i σ' zs H' hi ⟨_,s,c1,c2⟩;refine⟨s.seq (SqL.of hf3),s.seq (SqL.of e3),c1,?_⟩;rw[c2,Ab,Ab,CB];exact IQ (by omega)
   · rintro i x y σ' zs H' r N hx hy hr' ⟨⟨v,w',rfl⟩,s,c1,c2⟩ hN;rw[Af] at hx hy;rw[E5,Fm] at hy;cases e1:fs[i]? with
     | none=>rw[e1] at hx;cases hx
     | some f1=>
      cases e2:fs[i+1]? with
      | none=>rw[e2] at hy;cases hy
      | some f2=>
       rw[e1] at hx;rw[e2] at hy;obtain rfl:V.str f1=x:=Az hx;obtain rfl:V.str f2=y:=Az hy;have s5:=HU hr' (.tup [V.str f1,V.str f2]);have lt:f1.cps.toList<f2.cps.toList:=by have:=CV.mp tf.asc i (i+1) (Al.mp e1).1 (Al.mp e2).1 (by omega);rw[(Al.mp e1).2,(Al.mp e2).2] at this;exact this
       refine⟨r,_,rfl,SqT.of HK,rfl,_,_,rfl,_,_,rfl,rfl,?_⟩;refine⟨_,rfl,_,rfl,_,_,rfl,rfl,?_⟩;refine⟨s5 _ _ c1,hN _ _ _ ⟨⟨_,_,rfl⟩,Ji (s.trans s5) hc,HK,?_⟩⟩;rw[c2,CA,Ah,Ah,decide_eq_true lt];rfl
   · rintro σ' zs H' ⟨_,s,c1,rfl⟩;refine⟨c,_,rfl,SqL.of c1,?_⟩;have:((Bc (fs.length - 1)).map λ_=>true).all id=true:=by rw[OJ];exact A9.mpr λ_ _=>rfl
     rw[this];exact q _ (s2.trans (s3.trans s))
theorem ZP(F:Fun K "check_fields" "check_fields" Qg f fd)(Hi:Γ23 P w K mg base):FnOk P w K mg base Ir 3 f fd ["thing"] (R6):=by
 refine F.ok zd4 (λvs H Q E h=>?_) (λcdv A outer s H vs Q E hr h=>?_)
 · obtain⟨f,fs,rfl,hf,tf,q⟩:=h;rfl
 obtain⟨f,fs,rfl,hf,tf,q⟩:=h;refine⟨_,(HW (IH (Ko (J_ (Ie Hi (hr.mono (by decide)) rfl (HG (pv 0) HH)))) (HW MJ) IG)),?_⟩;exact⟨_,rfl,f,fs,rfl,hf,tf,λH1 s1=>⟨_,rfl,HR (q H1 s1)⟩⟩
theorem zda(F:FunD K "how_many_pieces" Ot f fd)(Hj:Γ11 P w K mg base)(Hk:Γ17 P w K mg base)(Hl:Γ18 P w K mg base)(Hm:Γ22 P w K mg base)(Hn:Γ24 P w K mg base):FnOk P w K mg base Ir 8 f fd ["wishes","fields"] (Sj):=by
 refine F.ok GA (λvs H Q E h=>?_) (λcdv A outer s H vs Q E hr h=>?_)
 · obtain⟨l,v,ws,ns,fs,lo,sz,m,rfl,hw,l7,tn,hin,tf,hv,gk,gw,q⟩:=h;rfl
 obtain⟨l,v,ws,ns,fs,lo,sz,m,rfl,hw,l7,tn,hin,tf,hv,gk,gw,q⟩:=h;refine⟨_,(HQ (Kr (Ie Hj (hr.mono (by decide)) rfl (HG (pv 0) HH)))
  (HQ (IH (J7 (KR (pv 1))) (HW (Kr (Ie Hn (hr.mono (by decide)) rfl (HG (pv 1) HH)))) IG)
  (HQ (Ig (i:=2) GA.nd rfl (Or.inl rfl) (Ie Hk (hr.mono (by decide)) rfl (HG (pv 0) HH)))
  (HQ (Kr (Ie Hl (hr.mono (by decide)) rfl (HG (pv 0) (HG (pv 2) HH))))
  (HW (Ik (Ie Hm (hr.mono (by decide)) rfl (HG (pv 0) (HG (Lx (J7 (Km (pv 1))) (pv 2) (pv 1)) HH))))))))),?_⟩
 refine⟨_,rfl,l,ws,rfl,hw,λH1 s1=>?_⟩;have hw1:=hw.same s1;unfold Rf;dsimp only;refine Ku (λσ' H'=>σ'=[some (.ref l),some v,none]∧Same H H') (λZ hZ=>?_) ?_
 · rcases hv with⟨rfl,_⟩ | ⟨f,rfl,hf⟩
   · exact⟨_,rfl,_,rfl,HR (hZ _ _ ⟨rfl,s1⟩)⟩
   · exact⟨_,rfl,_,rfl,HP ⟨_,rfl,f,fs,rfl,s1 _ _ hf,tf,λH2 s2=>hZ _ _ ⟨rfl,s1.trans s2⟩⟩⟩
 rintro σ' H2 ⟨rfl,s2⟩;have hw2:=hw.same s2;have n3:=tn.len;refine⟨_,rfl,l,ws,ns,rfl,hw2,by omega,hin,λfr ms H3 s3 nf e3 nd so mem=>?_⟩;have lm:ms.length≤ns.length:=Pi nd λf hf'=>by obtain⟨x,hx,hf2⟩:=(mem f).mp hf';obtain⟨p',hp',rfl⟩:=Ay.mp hf2;exact hin x hx p' hp'
 have t3:=s2.trans s3;have hw3:=hw.same t3;refine⟨_,rfl,_,rfl,l,fr,_,_,rfl,hw3.at',e3,by rw[Ab];exact l7,by rw[Ab];omega,?_⟩;have fo:FieldsOf (ws.map (·.2)) ms:=⟨MC so nd,λf=>by
  rw[mem];constructor
  · rintro⟨x,hx,hf⟩;exact⟨x.2,A3 hx,hf⟩
  · rintro⟨y,hy,hf⟩;obtain⟨x,hx,rfl⟩:=Ay.mp hy;exact⟨x,hx,hf⟩⟩
 rcases hv with⟨rfl,fo'⟩ | ⟨f,rfl,hf⟩
 · have e:=fo.uniq fo';subst e;exact⟨_,rfl,_,rfl,_,rfl,HP ⟨_,rfl,l,fr,ws,ms,lo,sz,m,rfl,hw3,l7,e3,tf,gk,gw,λH4 s4=>q _ (t3.trans s4)⟩⟩
 · exact⟨_,rfl,_,rfl,_,rfl,HR ⟨_,rfl,l,f,ws,fs,lo,sz,m,rfl,hw3,l7,t3 _ _ hf,tf,gk,gw,λH4 s4=>q _ (t3.trans s4)⟩⟩
theorem Zy(F:Fun K "_law_well" "_law_well" MQ f fd)  :FnOk P w K mg base Ir 1 f fd ["script"] (Rm K):=by
 refine F.ok GB (λvs H Q E h=>?_) (λcdv A outer s H vs Q E hr h=>?_)
 · obtain⟨a,ns,rfl,hS,h63,q⟩:=h;rfl
 obtain⟨a,ns,rfl,hS,h63,q⟩:=h;refine⟨_,(HQ (MK (N':=["cell"]) (js:=[none]) (i:=1) GB.nd rfl (Or.inl rfl) rfl (IW (N:=["script","great","small","seed","number"]) (outer:=HX MQ) (by decide+kernel)) (Jh (Ks NM (pv 0) Kp (Kq HL))) (λ_ _ _ _ _=>(H_ (i:=0) L3 rfl (Or.inl rfl))) (λ_ _ _ _ _=>Kt (IA Va (Iy Pf rfl B.abs_ O7 (HG (pv 0) HH)) (Ia KC HL HL) (I0 _))) (λ_ _ _ _ _=>(Ia KU (Iy Pf rfl B.abs_ O7 (HG (pv 0) HH)) (Ia Mg (Ia KC HL HL) (Ia KC HL HL)))))
  (HQ (MK (N':=["cell"]) (js:=[none]) (i:=2) GB.nd rfl (Or.inl rfl) rfl (IW (N:=["script","great","small","seed","number"]) (outer:=HX MQ) (by decide+kernel)) (Jh (Ks NM (pv 0) Kp (Kq HL))) (λ_ _ _ _ _=>(H_ (i:=0) L3 rfl (Or.inl rfl))) (λ_ _ _ _ _=>Kt (IA LY (Iy Pf rfl B.abs_ O7 (HG (pv 0) HH)) (Ia KC HL HL) (I0 _))) (λ_ _ _ _ _=>(Ia KU (pv 0) HL)))
  (HQ (Ig (i:=3) GB.nd rfl (Or.inl rfl) (Ia Jf HL (Iy JQ rfl B.len_ J9 (HG (pv 2) HH))))
  (HQ (JC Bh rfl (Jh (pv 2)) (H_ (i:=4) GB.nd rfl (Or.inl rfl)) (HW (Ig (i:=3) GB.nd rfl (Or.inl rfl) (Ia KU (Ia Jf (Ia Jf (Ia Mg (pv 3) HL) (Ia Mg (pv 4) HL)) HL) HL))))
  (HW (Ik (Jc (HG (pv 1) (HG (pv 2) (HG (pv 3) (HG HL HH))))))))))),?_⟩
 have cut:II (ns.map V.int) none (some 63)=ns.map V.int:=by unfold II;rw[show HT.sIx (ns.map V.int).length 0 none=0 from rfl,show HT.sIx (ns.map V.int).length (ns.map V.int).length (some 63)=min 63 (ns.map V.int).length from HT.sIx_nat _ _ 63];rw[Et];exact Ar (by rw[Ab];omega)
 have m60:QX (10^(60:Int).toNat) (10^(60:Int).toNat):=⟨by decide,by decide⟩;refine⟨_,rfl,_,rfl,a,_,rfl,hS,λp1 hp1=>⟨p1,rfl,⟨_,SqL.of HK⟩,λp hp=>?_⟩⟩;refine R_ (cap:=[]) ns (λn=>(if n<0 then -n else n)%(10^(60:Int).toNat*10^(60:Int).toNat)) (λn=>decide ((10:Int)^(18:Int).toNat≤(if n<0 then -n else n))) (by omega) (SqL.of (by rw[HK,cut])) hp ?_ ?_ ?_ ?_
 · rfl
 · exact λn H' R s r=>⟨_,rfl,_,rfl,_,_,rfl,rfl,Jz (by decide) (by decide),_,_,rfl,rfl,_,rfl,r⟩
 · exact λn H' R s r=>⟨_,rfl,_,rfl,_,_,rfl,rfl,Jz (by decide) (by decide),_,_,rfl,rfl,Jz (by decide) (by decide),_,_,rfl,rfl,m60,_,_,rfl,rfl,(by show(0:Int)<10^(60:Int).toNat*10^(60:Int).toNat;decide),r⟩
 intro H1 s1 h1;have t1:Same H H1:=(HU hp1 _).trans s1;have pn1:H p=none:=(HU hp1 _).free hp;refine⟨_,rfl,_,rfl,a,_,rfl,t1.seq hS,λp2 hp2=>⟨p2,rfl,⟨_,SqL.of HK⟩,λp' hp'=>?_⟩⟩;refine R_ (cap:=[]) ns (λn=>n%2147483563) (λn=>decide ((if n<0 then -n else n)<(10:Int)^(18:Int).toNat)) (by omega) (SqL.of (by rw[HK,cut])) hp' ?_ ?_ ?_ ?_
 · rfl
 · exact λn H' R s r=>⟨_,rfl,_,rfl,_,_,rfl,rfl,Jz (by decide) (by decide),_,_,rfl,rfl,_,rfl,r⟩
 · exact λn H' R s r=>⟨_,rfl,_,_,rfl,rfl,(by show(0:Int)<2147483563;decide),r⟩
 intro H2 s2 h2;have t12:Same H1 H2:=(HU hp2 _).trans s2;have t2:Same H H2:=t1.trans t12;have g2:=t12 _ _ h1;have n2:H1 p'=none:=(HU hp2 _).free hp';have lb:∀x∈(ns.filter λn=>decide ((if n<0 then -n else n)<(10:Int)^(18:Int).toNat)).map (λn=>n%2147483563),0≤x∧x<wM:=λx hx=>by obtain⟨y,_,rfl⟩:=Ay.mp hx;exact⟨Cz _ (by decide),Ca _ (by decide)⟩
 have ll:=Bk (λn=>decide ((if n<0 then -n else n)<(10:Int)^(18:Int).toNat)) ns
 have gg:=Bk (λn=>decide ((10:Int)^(18:Int).toNat≤(if n<0 then -n else n))) ns
 generalize hls:(ns.filter λn=>decide ((if n<0 then -n else n)<(10:Int)^(18:Int).toNat)).map (λn=>n%2147483563)=ls at*
 have lz:ls.length≤63:=by rw[←hls,Ab];omega
 generalize hgs:(ns.filter λn=>decide ((10:Int)^(18:Int).toNat≤(if n<0 then -n else n))).map (λn=>(if n<0 then -n else n)%(10^(60:Int).toNat*10^(60:Int).toNat))=gs at*
 have gz:gs.length≤63:=by rw[←hgs,Ab];omega
 refine⟨_,rfl,p',_,rfl,.inl (SqL.of h2),_,_,rfl,rfl,?_⟩;refine⟨_,rfl,p',rfl,⟨_,SqL.of h2⟩,Lv (K:=K) (a:=p') (xs:=ls.map V.int) (λi σ H'=>∃(st:Int)(x4:Option V),σ=[some (.ref a),some (.ref p),some (.ref p'),some (.int st),x4]∧H'=H2∧0≤st∧st<wM) ⟨_,none,rfl,rfl,by omega,by rw[Ab];unfold wM;omega⟩ (λi σ H' _ ⟨_,_,_,e,_⟩=>by rw[e];exact SqL.of h2) ?_ ?_⟩
 · rintro i x σ H' hx ⟨st,x4,rfl,rfl,z0,z1⟩;rw[Af] at hx;cases hn:ls[i]? with
   | none=>rw[hn] at hx;cases hx
   | some y=> rw[hn] at hx;obtain rfl:V.int y=x:=Az hx;obtain⟨y0,y1⟩:=lb y (Aj hn);have sm:∀z:Int,z.natAbs<2^100→z.natAbs<2^1000:=λz h=>AE h (by decide);refine⟨_,rfl,_,_,rfl,rfl,⟨sm _ (by unfold wM at z1;omega),by decide⟩,_,rfl,_,_,rfl,rfl,⟨sm _ (by unfold wM at y1;omega),by decide⟩,_,_,rfl,rfl,_,_,rfl,rfl,_,_,rfl,rfl,(by show(0:Int)<2147483563;decide),_,_,rfl,rfl,Cz _ (by decide),Ca _ (by decide)⟩
 · rintro σ H' ⟨st,x4,rfl,rfl,z0,z1⟩;refine⟨_,rfl,_,rfl,_,rfl,QQ,λp5 hp5=>?_⟩;have s5:=HU hp5 (.lst [V.ref p,V.ref p',V.int st,V.int 0]);exact q p5 p p' _ ⟨⟨gs,ls,st,0,HK,s5 _ _ g2,s5 _ _ h2,gz,lz,lb,z0,z1,by decide,by decide⟩,J8 h1 n2,(J8 g2 hp5).symm,(J8 h2 hp5).symm⟩ (t2.trans s5) (t2.free hp5) pn1
theorem Zw(F:Fun K "_law_take" "_law_take" Py f fd)  :FnOk P w K mg base Ir 1 f fd ["well","many"] (Rj):=by
 refine F.ok GC (λvs H Q E h=>?_) (λcdv A outer s H vs Q E hr h=>?_)
 · obtain⟨b,g,l,n,many,rfl,Bg,hn,hm,hm2,q⟩:=h;rfl
 obtain⟨b,g,l,n,many,rfl,Bg,hn,hm,hm2,q⟩:=h;refine⟨_,(HQ (IH (IA (OE (Ly hr)) (IC Jx (pv 0) HL (λ_ _=>rfl)) (Jc HH) (I0 _)) (HQ (Ig (i:=2) GC.nd rfl (Or.inl rfl) (IC Jx (IC Jx (pv 0) HL (λ_ _=>rfl)) HL (λ_ _=>rfl)))
  (HQ (KW (Ia Sv (pv 2) (pv 1)) (OG (IC Jx (pv 0) HL (λ_ _=>rfl)) HL Pe))
  (HQ (IH (IA LY (pv 2) (pv 1) (I0 _)) (HW (Kr (KN BM PySem.F.slot_list_pop PySem.F.type_list_pop Xp (IC Jx (pv 0) HL (λ_ _=>rfl)) (HG HL HH)))) IG)
  (HW (Ik (Ia KU (pv 2) (pv 1))))))) IG)
  (HQ (KW (Ia Jf (IC Jx (pv 0) HL (λ_ _=>rfl)) HL) (OG (pv 0) HL Pe))
  (HQ (Ig (i:=3) GC.nd rfl (Or.inl rfl) HL)
  (HQ (IH (IA (OE (Ly hr)) (IC Jx (pv 0) HL (λ_ _=>rfl)) (Jc HH) (I0 _)) (HW (Ig (i:=3) GC.nd rfl (Or.inl rfl) (Ia Jf (IC Jx (IC Jx (pv 0) HL (λ_ _=>rfl)) (Ia KU (IC Jx (pv 0) HL (λ_ _=>rfl)) (Iy JQ rfl B.len_ J9 (HG (IC Jx (pv 0) HL (λ_ _=>rfl)) HH))) (λ_ _=>rfl)) HL))) IG)
  (HQ (Ig (i:=2) GC.nd rfl (Or.inl rfl) (Ia KU (Ia KC (Ia Jf (IC Jx (pv 0) HL (λ_ _=>rfl)) (Ia Mg (pv 3) (Ia Jf (Ia Mg (IC Jx (pv 0) HL (λ_ _=>rfl)) HL) HL))) HL) HL))
  (HQ (KW (Ia KU (Ia Jf (Ia Jf (Ia Mg (IC Jx (pv 0) HL (λ_ _=>rfl)) HL) (pv 2)) (IC Jx (pv 0) HL (λ_ _=>rfl))) HL) (OG (pv 0) HL Pe))
  (HW (Ik (Ia KU (Ia Sv (pv 2) HL) (pv 1)))))))))),?_⟩
 obtain⟨gs,ls,sd,c,e1,e2,e3,z1,z2,z4,z5,z6,z7,z8⟩:=id Bg.ex;refine⟨_,rfl,b,_,0,_,rfl,rfl,SqL.of e1,rfl,JE,λp hp=>?_⟩;have s1:=HU hp (.lst []);have B2:=Bg.same s1;have e1':=s1 _ _ e1;have e2':=s1 _ _ e2;have e3':=s1 _ _ e3;refine QW (SqL.of e2') (SqL.of HK) ⟨_,rfl,?_⟩;generalize HI H p (.lst [])=H2 at*;have S2:SameB b g H H2:=s1.sameB;clear s1;have bg:=Bg.bg;have bl:=Bg.bl;have gl:=Bg.gl;cases gs with
 | cons x r=>
  refine HP ?_;refine⟨_,rfl,b,_,0,_,rfl,rfl,SqL.of e1',rfl,g,_,0,_,rfl,rfl,SqL.of e2',QM,?_⟩;refine⟨_,rfl,_,rfl,_,_,rfl,rfl,⟨hm,Int.lt_of_lt_of_le hm2 (by decide)⟩,_,rfl,b,_,0,_,rfl,rfl,SqL.of e1',rfl,g,_,0,0,rfl,rfl,e2',Uz,?_⟩;have f2:(HI H2 g (.lst (((x::r).map V.int).set 0 (V.int (x / many))))) g=some (.lst (((x / many)::r).map V.int)):=HK;have f1:(HI H2 g (.lst (((x::r).map V.int).set 0 (V.int (x / many))))) b=some (.lst [V.ref g,V.ref l,V.int sd,V.int c]):=by rw[Ij bg];exact e1'
  have f3:(HI H2 g (.lst (((x::r).map V.int).set 0 (V.int (x / many))))) l=some (.lst (ls.map V.int)):=by rw[Ij (Bq gl)];exact e3'
  have S3:SameB b g H (HI H2 g (.lst (((x::r).map V.int).set 0 (V.int (x / many))))):=λa o h1 h2 h3=>by rw[Ij h3];exact S2 a o h1 h2 h3
  dsimp only;generalize HI H2 g (.lst (((x::r).map V.int).set 0 (V.int (x / many))))=H3 at*;refine⟨_,rfl,_,rfl,_,_,rfl,rfl,_,rfl,Il (λ_=>?_) (λ_=>?_)⟩
  · refine⟨_,rfl,b,_,0,_,rfl,rfl,SqL.of f1,rfl,.inl ⟨rfl,_,SqL.of f2⟩,g,_,0,0,_,rfl,rfl,f2,by decide,by decide,(OM (Uz (x:=V.int (x / many)) (r:=r.map V.int))).1,rfl,?_⟩;refine⟨_,rfl,_,rfl,_,_,rfl,rfl,hm,q _ _ (Cz _ (by omega)) (Ca _ hm) ⟨⟨r,ls,sd,c,?_,HK,?_,by simp only[AF] at z1;omega,z2,z4,z5,z6,z7,by omega⟩,gl,bg,bl⟩ ?_⟩
    · rw[Ij bg];exact f1
    · rw[Ij (Bq gl)];exact f3
    · intro a o h1 h2 h3;rw[Ij h3];exact S3 a o h1 h2 h3
  · exact⟨_,rfl,_,rfl,_,_,rfl,rfl,hm,q _ _ (Cz _ (by omega)) (Ca _ hm) ⟨⟨x / many::r,ls,sd,c,f1,f2,f3,by simp only[AF] at z1 ⊢;omega,z2,z4,z5,z6,z7,by omega⟩,gl,bg,bl⟩ S3⟩
 | nil=>
  refine HR ?_;refine⟨_,rfl,b,_,3,_,rfl,rfl,SqL.of e1',rfl,_,_,rfl,rfl,_,rfl,b,_,3,3,rfl,rfl,e1',rfl,?_⟩;have f1:(HI H2 b (.lst ([V.ref g,V.ref l,V.int sd,V.int c].set 3 (V.int (c+1))))) b=some (.lst [V.ref g,V.ref l,V.int sd,V.int (c+1)]):=HK;have f2:(HI H2 b (.lst ([V.ref g,V.ref l,V.int sd,V.int c].set 3 (V.int (c+1))))) g=some (.lst []):=by rw[Ij (Bq bg)];exact e2'
  have f3:(HI H2 b (.lst ([V.ref g,V.ref l,V.int sd,V.int c].set 3 (V.int (c+1))))) l=some (.lst (ls.map V.int)):=by rw[Ij (Bq bl)];exact e3'
  have S3:SameB b g H (HI H2 b (.lst ([V.ref g,V.ref l,V.int sd,V.int c].set 3 (V.int (c+1))))):=λa o h1 h2 h3=>by rw[Ij h2];exact S2 a o h1 h2 h3
  dsimp only;generalize HI H2 b (.lst ([V.ref g,V.ref l,V.int sd,V.int c].set 3 (V.int (c+1))))=H3 at*;have c1:0≤c+1:=by omega
  have c2:c+1≤2^41:=by omega
  refine LM ?_;dsimp only;refine Ku (λσ' H'=>∃(cell:Int),σ'=[some (.ref b),some (.int many),none,some (.int cell)]∧1≤cell∧cell≤wM∧H' b=some (.lst [V.ref g,V.ref l,V.int sd,V.int (c+1)])∧H' g=some (.lst [])∧H' l=some (.lst (ls.map V.int))∧SameB b g H H') (λZ hZ=>?_) ?_
  · refine⟨_,rfl,b,_,1,_,rfl,rfl,SqL.of f1,rfl,JE,λp4 hp4=>?_⟩;have s4:=HU hp4 (.lst []);have k1:=s4 _ _ f1;have k2:=s4 _ _ f2;have k3:=s4 _ _ f3;have S4:=S3.trans s4.sameB;refine QW (SqL.of k3) (SqL.of HK) ⟨_,rfl,?_⟩;generalize HI H3 p4 (.lst [])=H4 at*;cases ls with
    | nil=>exact HR (hZ _ _ ⟨1,rfl,by decide,by decide,k1,k2,k3,S4⟩)
    | cons y ys=>
     refine HP ?_;have lpos:(0:Int)<(((y::ys).map V.int).length:Int):=by rw[Ab,AF];omega
     have i0:=Cz (c+1) (Int.ne_of_gt lpos);have i1:=Ca (c+1) lpos;obtain⟨v,hv,hvm⟩:=U7 (ls:=y::ys) i0 (by rw[Ab] at i1 ⊢;exact i1);obtain⟨v0,v1⟩:=z4 v hvm;refine⟨_,rfl,b,_,1,_,rfl,rfl,SqL.of k1,rfl,_,rfl,b,_,3,_,rfl,rfl,SqL.of k1,rfl,_,rfl,b,_,1,_,rfl,rfl,SqL.of k1,rfl,l,_,rfl,.inl (SqL.of k3),_,_,rfl,rfl,lpos,l,_,_,_,rfl,rfl,SqL.of k3,hv,_,_,rfl,rfl,?_⟩;exact hZ _ _ ⟨v+1,rfl,by omega,by omega,k1,k2,k3,S4⟩
  rintro σ' H4 ⟨cell,rfl,l0,l1,k1,k2,k3,S4⟩;have sm:∀z:Int,z.natAbs<2^900→z.natAbs<2^1000:=λz h=>AE h (by decide);have b3:(c+1).natAbs<2^900:=BS (show(c+1).natAbs≤2^41 by omega) (by decide);have b4:((c+1)*3163+1).natAbs<2^900:=BS (show((c+1)*3163+1).natAbs≤2^60 by omega) (by decide);have b5:cell.natAbs<2^900:=BS (show cell.natAbs≤2^60 by unfold wM at l1;omega) (by decide);have big:(sd+cell*((c+1)*3163+1)).natAbs<2^1000:=by
   have a5:cell*((c+1)*3163+1)≤2^60*2^60:=Ey (by unfold wM at l1;omega) (by omega) (by omega) (by decide);have a6:0≤cell*((c+1)*3163+1):=Ex (by omega) (by omega);generalize cell*((c+1)*3163+1)=y at*;have a8:(sd+y).natAbs<2^125:=by unfold wM at z6;omega
   exact AE a8 (by decide)
  refine⟨_,rfl,b,_,2,_,rfl,rfl,SqL.of k1,rfl,_,rfl,_,rfl,b,_,3,_,rfl,rfl,SqL.of k1,rfl,_,_,rfl,rfl,⟨sm _ b3,by decide⟩,_,_,rfl,rfl,_,_,rfl,rfl,⟨sm _ b5,sm _ b4⟩,_,_,rfl,rfl,_,_,rfl,rfl,⟨by decide,by decide,big⟩,_,_,rfl,rfl,(by show(0:Int)<2147483563;decide),?_⟩;dsimp only;generalize(sd+cell*((c+1)*3163+1))^(5:Int).toNat=y;have y0:=Cz y (show(2147483563:Int)≠0 by decide);have y1:=Ca y (show(0:Int)<2147483563 by decide);generalize y%2147483563=u at*;have b6:sd.natAbs<2^1000:=sm _ (BS (show sd.natAbs≤2^60 by unfold wM at z6;omega) (by decide));refine⟨_,rfl,b,_,2,_,rfl,rfl,SqL.of k1,rfl,_,_,rfl,rfl,⟨b6,by decide⟩,_,rfl,_,_,rfl,rfl,_,rfl,b,_,3,_,rfl,rfl,SqL.of k1,rfl,_,_,rfl,rfl,_,_,rfl,rfl,(by show(0:Int)<2147483563;decide),?_⟩;refine⟨_,rfl,b,_,2,2,rfl,rfl,k1,rfl,?_⟩;dsimp only;generalize sd*40692+u+(c+1)=v;have v0:=Cz v (show(2147483563:Int)≠0 by decide);have v1:=Ca v (show(0:Int)<2147483563 by decide);generalize v%2147483563=t at*;refine⟨_,rfl,_,_,rfl,rfl,⟨by decide,by decide⟩,_,rfl,_,_,rfl,rfl,hm,?_⟩;refine q _ _ (Cz _ (by omega)) (Ca _ hm) ⟨⟨[],ls,t,c+1,HK,?_,?_,by simp,z2,z4,v0,v1,c1,by omega⟩,gl,bg,bl⟩ ?_
  · rw[Ij (Bq bg)];exact k2
  · rw[Ij (Bq bl)];exact k3
  · intro a o h1 h2 h3;rw[Ij h2];exact S4 a o h1 h2 h3
theorem Zu(F:Fun K "_law_name" "_law_name" Od f fd)(Ho:Γ27 P w K mg base):FnOk P w K mg base Ir 2 f fd ["well","most"] (Ri):=by
 refine F.ok GD (λvs H Q E h=>?_) (λcdv A outer s H vs Q E hr h=>?_)
 · obtain⟨b,g,l,n,most,rfl,Bg,hn,m1,m8,q⟩:=h;rfl
 obtain⟨b,g,l,n,most,rfl,Bg,hn,m1,m8,q⟩:=h;refine⟨_,(HQ (Ig (i:=2) GD.nd rfl (Or.inr rfl) M4)
  (HW (Ik (KN PySem.F.plainAttrs_str PySem.F.slot_str_join PySem.F.type_str_join V3 M4 (HG (Jq (N':=["k","well","letters"]) (js:=[none,some 0,some 2]) rfl (IW (N:=["well","most","letters"]) (outer:=HX Od) (by decide+kernel)) (Pm rfl B.range_ (HG (Ia Jf HL (Ie Ho (hr.mono (by decide)) rfl (HG (pv 0) (HG (pv 1) HH)))) HH)) (λ_ _ _ _ _=>(H_ (i:=0) Nl rfl (Or.inl rfl))) (λ_ _ _ _ _=>Jy) (λ_ _ _ _ _=>(IC Rx (pv 2) (Ie Ho (hr.mono (by decide)) rfl (HG (pv 1) (HG HL HH))) (λ_ _=>rfl)))) HH))))),?_⟩
 refine LM ?_;refine⟨rfl,_,rfl,_,rfl,b,g,l,n,most,rfl,Bg,by omega,by omega,Lj (by omega),λr H2 r0 r1 B2 S2=>?_⟩;refine⟨_,_,rfl,rfl,_,rfl,by omega,by omega,λp hp=>?_⟩;obtain⟨pb,pg,pl⟩:=B2.free hp;have s3:=HU hp (.lst []);have np:H p=none:=B2.back S2 p hp;refine SX (n:=(1+r).toNat) (λi σ' ys H'=>(∃v,σ'=[v,some (.ref b),some (.str "abcdefghijklmnopqrstuvwxyz")])∧SameB b g H H'∧Well H' b g l (n+1+i)∧H' p=some (.lst ys)∧∃cs:List Nat,ys=(cs.map λc=>(⟨#[c]⟩:Str)).map V.str∧cs.length=i∧∀c∈cs,Lw c=true) ?_ ?_ ?_ ?_
 · exact⟨⟨none,rfl⟩,S2.trans s3.sameB,(B2.same s3).mono (by omega),HK,[],rfl,rfl,λc hc=>by simp at hc⟩
 · rintro i σ' ys H' hi ⟨_,_,_,h1,cs,rfl,h2,_⟩;exact⟨h1,by rw[Ab,Ab,h2];exact IQ (by omega)⟩
 · rintro i σ' ys H4 N hi ⟨⟨v,rfl⟩,S4,B4,h1,cs,rfl,h2,h3⟩ hN;refine⟨_,rfl,_,rfl,b,g,l,_,26,rfl,B4,by omega,by decide,by decide,λk H5 k0 k1 B5 S5=>?_⟩;obtain⟨c,hc,ok⟩:=QR k0 k1;have h5:=S5 _ _ h1 pb pg;refine⟨_,_,c,rfl,rfl,(by show 26≤Au;decide),hc,h5,hN _ _ _ ⟨⟨_,rfl⟩,?_,?_,HK,cs++[c],?_,?_,?_⟩⟩
   · exact(S4.trans S5).off np
   · exact(B5.off pb pg pl).mono (by omega)
   · rw[Ah,Ah];rfl
   · rw[A5,h2];rfl
   · intro c' hc';rcases Aw.mp hc' with z | z
     · exact h3 c' z
     · rw[Ae.mp z];exact ok
 · rintro σ' ys H4 ⟨_,S4,B4,h1,cs,rfl,h2,h3⟩;refine⟨_,_,_,rfl,rfl,SqL.of h1,Vz cs (by omega),q _ _ (Y5 (by omega) (by omega) h3) (B4.mono (by omega)) S4⟩
theorem Z4(F:Fun K "_law_fields" "_law_fields" Qa f fd)(Hq:Γ28 P w K mg base)(Ho:Γ27 P w K mg base):FnOk P w K mg base Ir 3 f fd ["well","many"] (Tu):=by
 refine F.ok GE (λvs H Q E h=>?_) (λcdv A outer s H vs Q E hr h=>?_)
 · obtain⟨b,g,l,n,many,rfl,Bg,hn,m1,m6,q⟩:=h;rfl
 obtain⟨b,g,l,n,many,rfl,Bg,hn,m1,m6,q⟩:=h;refine⟨_,(HQ (Ig (i:=2) GE.nd rfl (Or.inl rfl) M4)
  (HQ (Ig (i:=3) GE.nd rfl (Or.inl rfl) (Jc (HG (Ie Hq (hr.mono (by decide)) rfl (HG (pv 0) (HG HL HH))) HH)))
  (HQ (JC Bh rfl (Pm rfl B.range_ (HG (Ie Ho (hr.mono (by decide)) rfl (HG (pv 0) (HG (pv 1) HH))) HH)) (H_ (i:=4) GE.nd rfl (Or.inl rfl)) (HQ (Ig (i:=5) GE.nd rfl (Or.inl rfl) (Ie Ho (hr.mono (by decide)) rfl (HG (pv 0) (HG HL HH))))
  (HQ (Ig (i:=6) GE.nd rfl (Or.inl rfl) (IC Jx (pv 3) (Ie Ho (hr.mono (by decide)) rfl (HG (pv 0) (HG (Iy JQ rfl B.len_ J9 (HG (pv 3) HH)) HH))) (λ_ _=>rfl)))
  (HQ (Ig (i:=7) GE.nd rfl (Or.inl rfl) (IC Rx (pv 2) (Ie Ho (hr.mono (by decide)) rfl (HG (pv 0) (HG HL HH))) (λ_ _=>rfl)))
  (HQ (Ig (i:=8) GE.nd rfl (Or.inl rfl) (Ie Ho (hr.mono (by decide)) rfl (HG (pv 0) (HG (Iy Um rfl B.len_ J9 (HG (pv 6) HH)) HH))))
  (HQ (Ig (i:=9) GE.nd rfl (Or.inl rfl) (Ks OV (IC Jx (Jc (HG (Ia Ob (pv 7) (pv 6)) (HG (Ia Ob (pv 6) (pv 7)) (HG (Ia Ob (Ia Ob (Ks OV (pv 6) Kp (Kq (pv 8))) (pv 7)) (Ks OV (pv 6) (Kq (Ia Jf (pv 8) HL)) Kp)) (HG (pv 7) HH))))) (pv 5) (λ_ _=>rfl)) Kp (Kq HL)))
  (HQ (IH (IA Kb (pv 5) HL (I0 _)) (HW (Ig (i:=9) GE.nd rfl (Or.inl rfl) (Ie Hq (hr.mono (by decide)) rfl (HG (pv 0) (HG HL HH))))) IG)
  (HW (IH (IA PZ (pv 9) (pv 3) (by with_unfolding_all rfl)) (HW (Kr (KN BM Cu Cv Lq (pv 3) (HG (pv 9) HH)))) IG)))))))))
  (HW (Ik (Iy PY rfl B.sorted_ MI (HG (pv 3) HH))))))),?_⟩
 refine LM ?_;refine⟨_,rfl,b,g,l,n,7,rfl,Bg,by omega,by decide,by decide,λx0 H1 ok0 B1 S1=>?_⟩;refine⟨Kh,λr hr'=>?_⟩;obtain⟨rb,rg,rl⟩:=B1.free hr';have nr:H r=none:=B1.back S1 r hr';have s2:=HU hr' (.lst [V.str x0]);have e2:(HI H1 r (.lst [V.str x0])) r=some (.lst [V.str x0]):=HK;have B2:=B1.same s2;have S2:=S1.trans s2.sameB;generalize HI H1 r (.lst [V.str x0])=H2 at*;refine⟨_,rfl,_,rfl,b,g,l,_,many,rfl,B2,by omega,by omega,Lj (by omega),λc H3 c0 c1 B3 S3=>?_⟩;have e3:=S3 _ _ e2 rb rg;have S03:=S2.trans S3;refine⟨c,rfl,by omega,by omega,Td (lo:=0) (n:=c.toNat) (λi σ H'=>(∃y4 y5 y6 y7 y8 y9,σ=[some (.ref b),some (.int many),some (.str "abcdefghijklmnopqrstuvwxyz"),some (.ref r),y4,y5,y6,y7,y8,y9])∧SameB b g H H'∧Well H' b g l (n+13+20*i)∧∃ts:List Str,H' r=some (.lst (ts.map V.str))∧ts.Nodup∧1≤ts.length∧ts.length≤i+1∧∀t∈ts,FieldOk t) ?_ ?_ ?_⟩
 · exact⟨⟨none,none,none,none,none,none,rfl⟩,S03,B3.mono (by omega),[x0],e3,by simp,by simp,by simp,λt ht=>by rw[Ae.mp ht];exact ok0⟩
 · rintro i σ H4 hi ⟨⟨y4,y5,y6,y7,y8,y9,rfl⟩,S4,B4,ts,e4,nd,l1,l2,ok⟩;refine⟨_,rfl,b,g,l,_,4,rfl,B4,by omega,by decide,by decide,λpick H5 p0 p1 B5 S5=>?_⟩;have e5:=S5 _ _ e4 rb rg;refine⟨_,rfl,_,rfl,_,rfl,r,_,rfl,.inl (SqL.of e5),b,g,l,_,_,rfl,B5,by omega,by rw[Ab];omega,Lj (by rw[Ab];omega),λk H6 k0 k1 B6 S6=>?_⟩;have e6:=S6 _ _ e5 rb rg;rw[Ab] at k1;obtain⟨j,rfl⟩:∃j:Nat,k=(j:Int):=⟨k.toNat,by omega⟩;obtain⟨first,ef⟩:∃f,ts[j]?=some f:=⟨ts[j]'(by omega),Av (by omega)⟩
   have hf:JW (ts.map V.str) (j:Int)=some (V.str first):=Mm (by rw[Af,ef];rfl)
   have okf:=ok first (Aj ef)
   refine⟨r,_,_,_,rfl,rfl,SqL.of e6,hf,?_⟩;refine⟨_,rfl,_,rfl,b,g,l,_,26,rfl,B6,by omega,by decide,by decide,λk H7 k0 k1 B7 S7=>?_⟩;have e7:=S7 _ _ e6 rb rg;obtain⟨c,hc,okc⟩:=QR k0 k1;refine⟨_,_,c,rfl,rfl,(by show 26≤Au;decide),hc,?_⟩;have okl:FieldOk (⟨#[c]⟩:Str):=⟨by show 1≤1;decide,by show 1≤8;decide,λc' hc'=>by
    have:c'=c:=by simpa using hc'
    rw[this];exact okc⟩
   generalize(⟨#[c]⟩:Str)=letter at*;have f1:=okf.one;have f8:=okf.eight;have g1:=okl.one;have g8:=okl.eight;have sz:(100:Nat)≤Au:=by decide
   refine⟨_,rfl,_,rfl,_,rfl,by omega,b,g,l,_,_,rfl,B7,by omega,by omega,Lj (by omega),λat' H8 a0 a1 B8 S8=>?_⟩;have e8:=S8 _ _ e7 rb rg;have S48:=S4.trans (S5.trans (S6.trans (S7.trans S8)));refine⟨_,rfl,_,rfl,_,_,rfl,rfl,by omega,_,rfl,_,rfl,_,_,rfl,rfl,by omega,_,rfl,_,rfl,_,rfl,first,rfl,by omega,λz1 a1' _ a3 _=>?_⟩
   refine⟨_,rfl,_,_,rfl,rfl,by omega,_,rfl,_,rfl,_,_,rfl,rfl,_,rfl,first,rfl,by omega,λz2 b1 _ b3 _=>?_⟩
   have la:(z1++letter).length=z1.length+letter.length:=by show(z1.cps++letter.cps).size=_;rw[ET];rfl
   refine⟨_,_,rfl,rfl,by omega,_,rfl,QQ,λwl hwl=>?_⟩;have s9:=HU hwl (.lst [V.str (letter++first),V.str (first++letter),V.str (z1++letter++z2),V.str letter])
   have e9:(HI H8 wl (.lst [V.str (letter++first),V.str (first++letter),V.str (z1++letter++z2),V.str letter])) wl=some (.lst [V.str (letter++first),V.str (first++letter),V.str (z1++letter++z2),V.str letter]):=HK
   have e8:=s9 _ _ e8;have B9:=B8.same s9;have S49:=S48.trans s9.sameB;generalize HI H8 wl (.lst [V.str (letter++first),V.str (first++letter),V.str (z1++letter++z2),V.str letter])=H9 at*
   have mem2:∀(x y:Str)(c:Nat),c∈(x++y).cps.toList→c∈x.cps.toList∨c∈y.cps.toList:=λx y c hc=>by have:c∈(x.cps++y.cps).toList:=hc;rw[Array.toList_append] at this;exact Aw.mp this
   have len2:∀x y:Str,(x++y).length=x.length+y.length:=λx y=>by show(x.cps++y.cps).size=_;rw[ET];rfl
   obtain⟨W,hW,w1,w100,wl'⟩:∃W:Str,JW [V.str (letter++first),V.str (first++letter),V.str (z1++letter++z2),V.str letter] pick=some (.str W)∧1≤W.length∧W.length≤100∧∀c∈W.cps.toList,Lw c=true:=by
    have:pick=0∨pick=1∨pick=2∨pick=3:=by omega
    rcases this with rfl | rfl | rfl | rfl
    · refine⟨_,rfl,by rw[len2];omega,by rw[len2];omega,λc hc=>?_⟩;rcases mem2 _ _ c hc with z | z
      · exact okl.all c z
      · exact okf.all c z
    · refine⟨_,rfl,by rw[len2];omega,by rw[len2];omega,λc hc=>?_⟩;rcases mem2 _ _ c hc with z | z
      · exact okf.all c z
      · exact okl.all c z
    · refine⟨_,rfl,by rw[len2,len2];omega,by rw[len2,len2];omega,λc hc=>?_⟩;rcases mem2 _ _ c hc with z | z
      · rcases mem2 _ _ c z with z | z
        · exact okf.all c (a3 c z)
        · exact okl.all c z
      · exact okf.all c (b3 c z)
    · exact⟨_,rfl,g1,by omega,okl.all⟩
   refine⟨_,rfl,wl,_,_,_,rfl,rfl,SqL.of e9,hW,_,rfl,W,rfl,by omega,λword v1 v2 v3 v4=>?_⟩;have okw:FieldOk word:=⟨v4 8 rfl rfl (by decide) w1,by have:=v2 8 rfl (by decide);omega,λc hc=>wl' c (v3 c hc)⟩;refine LM ?_;dsimp only;refine Ku (λσ' H'=>∃word:Str,σ'=[some (.ref b),some (.int many),some (.str "abcdefghijklmnopqrstuvwxyz"),some (.ref r),some (.int (0+(i:Int))),some (.int pick),some (.str first),some (.str letter),some (.int at'),some (.str word)]∧FieldOk word∧SameB b g H H'∧Well H' b g l (n+13+20*i+17)∧H' r=some (.lst (ts.map V.str))) (λZ hZ=>?_) ?_
   · refine⟨_,rfl,rfl,_,rfl,Il (λ_=>?_) (λ_=>?_)⟩
     · exact⟨_,rfl,b,g,l,_,8,rfl,B9,by omega,by decide,by decide,λx H10 ok10 B10 S10=>hZ _ _ ⟨x,rfl,ok10,S49.trans S10,B10.mono (by omega),S10 _ _ e8 rb rg⟩⟩
     · exact hZ _ _ ⟨word,rfl,okw,S49,B9.mono (by omega),e8⟩
   rintro σ' H10 ⟨word',rfl,okw',S10,B10,e10⟩;have fl:(ts.map V.str).all Kw=true:=by rw[DA];exact A9.mpr λx _=>rfl
   refine⟨_,rfl,_,rfl,r,_,rfl,.inl (SqL.of e10),rfl,fl,_,rfl,?_⟩;have inE:L4 (.str word') (ts.map V.str)=decide (word'∈ts):=by
    unfold L4;rw[DE,Bt,Ct,decide_eq_true_iff];constructor
    · rintro⟨x,hx,e⟩;have:x=word':=by simpa [K6] using e
      exact this ▸ hx
    · exact λh=>⟨word',h,by simp[K6]⟩
   rw[inE];by_cases hm:word'∈ts
   · rw[decide_eq_true hm];exact HR ⟨⟨_,_,_,_,_,_,rfl⟩,S10,B10.mono (by omega),ts,e10,nd,l1,by omega,ok⟩
   · rw[decide_eq_false hm];refine HP ⟨_,rfl,.inl ⟨rfl,_,SqL.of e10⟩,_,rfl,r,_,_,rfl,rfl,e10,(by rw[Ab];exact IQ (by omega)),?_⟩;refine⟨⟨_,_,_,_,_,_,rfl⟩,S10.off nr,(B10.off rb rg rl).mono (by omega),ts++[word'],by rw[HK,Ah];rfl,?_,by rw[A5];omega,by rw[A5];simp;omega,λt ht=>?_⟩
     · rw[EW];exact⟨nd,by simp,λa ha b hb=>by rw[Ae.mp hb];exact λz=>hm (z ▸ ha)⟩
     · rcases Aw.mp ht with z | z
       · exact ok t z
       · rw[Ae.mp z];exact okw'
 · rintro σ H4 ⟨⟨y4,y5,y6,y7,y8,y9,rfl⟩,S4,B4,ts,e4,nd,l1,l2,ok⟩;refine⟨_,rfl,r,ts,rfl,SqL.of e4,by omega,λz ms mp mso hz=>?_⟩;have s5:=HU hz (.lst (ms.map V.str));exact q z ms _ (B4.back S4 z hz) HK (MC mso (mp.nodup_iff.mpr nd)) (λf hf=>ok f (mp.mem_iff.mp hf)) (by rw[mp.length_eq];exact l1) (by rw[mp.length_eq];omega) ((B4.same s5).mono (by omega)) (S4.trans s5.sameB)
theorem Zr(F:Fun K "_law_base" "_law_base" Pu f fd)(Ho:Γ27 P w K mg base):FnOk P w K mg base Ir 2 f fd ["well"] (R4):=by
 refine F.ok GF (λvs H Q E h=>?_) (λcdv A outer s H vs Q E hr h=>?_)
 · obtain⟨b,g,l,n,rfl,Bg,hn,q⟩:=h;rfl
 obtain⟨b,g,l,n,rfl,Bg,hn,q⟩:=h;refine⟨_,(HQ (Ig (i:=1) GF.nd rfl (Or.inl rfl) (Ie Ho (hr.mono (by decide)) rfl (HG (pv 0) (HG HL HH))))
  (HQ (Ig (i:=2) GF.nd rfl (Or.inl rfl) (Ia KB HL (Ia Kz HL (Ie Ho (hr.mono (by decide)) rfl (HG (pv 0) (HG HL HH))))))
  (HQ (IH (IA Kb (pv 1) HL (I0 _)) (HW (Ik HL)) IG)
  (HQ (Ig (i:=3) GF.nd rfl (Or.inl rfl) (Ie Ho (hr.mono (by decide)) rfl (HG (pv 0) (HG HL HH))))
  (HQ (IH (IA Kb (pv 1) HL (I0 _)) (HW (Ig (i:=3) GF.nd rfl (Or.inl rfl) (Ia Jf (Ia Kz (Ia Jf (Ia Kz (pv 3) HL) (Ie Ho (hr.mono (by decide)) rfl (HG (pv 0) (HG HL HH)))) HL) (Ie Ho (hr.mono (by decide)) rfl (HG (pv 0) (HG HL HH)))))) IG)
  (HW (Ik (Ia Kz (pv 2) (Ia KU (pv 3) (Ia KB (Ia KC HL HL) HL)))))))))),?_⟩
 have L6:(10:Int)^(15:Int).toNat=1000000000000000:=by decide
 refine⟨_,rfl,b,g,l,n,3,rfl,Bg,by omega,by decide,by decide,λpick H1 p0 p1 B1 S1=>?_⟩;refine⟨_,rfl,b,g,l,_,2,rfl,B1,by omega,by decide,by decide,λc H2 c0 c1 B2 S2=>?_⟩;have S02:=S1.trans S2;refine⟨_,_,rfl,rfl,.inl ⟨by decide,by decide⟩,_,_,rfl,rfl,?_⟩;refine⟨_,rfl,rfl,_,rfl,Il (λ_=>q _ _ (by decide) (by decide) (B2.mono (by omega)) S02) (λ_=>?_)⟩;refine⟨_,rfl,b,g,l,_,100000,rfl,B2,by omega,by decide,by decide,λm H3 m0 m1 B3 S3=>?_⟩;have S03:=S02.trans S3;refine LM ?_;dsimp only;refine Ku (λσ' H'=>∃m:Int,σ'=[some (.ref b),some (.int pick),some (.int (1 - 2*c)),some (.int m)]∧0≤m∧SameB b g H H'∧Well H' b g l (n+5)) (λZ hZ=>?_) ?_
 · refine⟨_,rfl,rfl,_,rfl,Il (λ_=>?_) (λ_=>hZ _ _ ⟨m,rfl,m0,S03,B3.mono (by omega)⟩)⟩;refine⟨_,rfl,_,_,rfl,rfl,.inl ⟨by omega,by omega⟩,_,rfl,b,g,l,_,100000,rfl,B3,by omega,by decide,by decide,λm2 H4 m20 m21 B4 S4=>?_⟩;refine⟨_,_,rfl,rfl,_,_,rfl,rfl,.inl ⟨by omega,by omega⟩,_,rfl,b,g,l,_,100000,rfl,B4,by omega,by decide,by decide,λm3 H5 m30 m31 B5 S5=>?_⟩;exact⟨_,_,rfl,rfl,hZ _ _ ⟨_,rfl,by omega,S03.trans (S4.trans S5),B5.mono (by omega)⟩⟩
 rintro σ' H4 ⟨m,rfl,m0,S4,B4⟩;refine⟨_,rfl,_,rfl,_,_,rfl,rfl,Jz (by decide) (by decide),_,_,rfl,rfl,_,_,rfl,rfl,(by show(0:Int)<10^(15:Int).toNat - 1000;decide),?_⟩;dsimp only;rw[L6];have y0:=Cz m (show(1000000000000000 - 1000:Int)≠0 by decide);have y1:=Ca m (show(0:Int)<1000000000000000 - 1000 by decide);generalize m%(1000000000000000 - 1000)=y at*;have hc:c=0∨c=1:=by omega
 refine⟨_,_,rfl,rfl,.inl ⟨by omega,by omega⟩,q _ _ ?_ ?_ B4 S4⟩
 all_goals
  rcases hc with rfl | rfl
  all_goals omega
theorem Zs(F:Fun K "_law_grid" "_law_grid" Pw f fd)(Ho:Γ27 P w K mg base)(Hr:Γ30 P w K mg base):FnOk P w K mg base Ir 3 f fd ["well"] (R8):=by
 refine F.ok GG (λvs H Q E h=>?_) (λcdv A outer s H vs Q E hr h=>?_)
 · obtain⟨b,g,l,n,rfl,Bg,hn,q⟩:=h;rfl
 obtain⟨b,g,l,n,rfl,Bg,hn,q⟩:=h;refine⟨_,(HQ (Ig (i:=1) GG.nd rfl (Or.inl rfl) (Ie Ho (hr.mono (by decide)) rfl (HG (pv 0) (HG HL HH))))
  (HQ (Ig (i:=2) GG.nd rfl (Or.inl rfl) HL)
  (HQ (IH (IA Kb (pv 1) HL (I0 _)) (HW (Ig (i:=2) GG.nd rfl (Or.inl rfl) (Ia Jf HL (Ie Ho (hr.mono (by decide)) rfl (HG (pv 0) (HG HL HH)))))) IG)
  (HQ (IH (IA Kb (pv 1) HL (I0 _)) (HW (Ig (i:=2) GG.nd rfl (Or.inl rfl) (Ia Jf HL (Ia Kz (Ie Ho (hr.mono (by decide)) rfl (HG (pv 0) (HG HL HH))) (Ie Ho (hr.mono (by decide)) rfl (HG (pv 0) (HG HL HH))))))) IG)
  (HW (Ik (IX (HG (Iy (WF rfl) rfl B.max_ Rr (HG (Ia KB (Ia KC HL HL) (Ia KC HL HL)) (HG (Iy (WH rfl) rfl B.min_ Rs (HG (Ia KB (Ia KC HL HL) (Ia KC HL HL)) (HG (Ie Hr (hr.mono (by decide)) rfl (HG (pv 0) HH)) HH))) HH))) (HG (pv 2) HH))))))))),?_⟩
 have L6:(10:Int)^(15:Int).toNat=1000000000000000:=by decide
 have e13:(10:Int)^(13:Int).toNat=10000000000000:=by decide
 refine⟨_,rfl,b,g,l,n,4,rfl,Bg,by omega,by decide,by decide,λpick H1 p0 p1 B1 S1=>?_⟩;refine LM ?_;dsimp only;refine Xc ?_;refine Ku (λσ' H'=>∃m:Int,σ'=[some (.ref b),some (.int pick),some (.int m)]∧1≤m∧m≤10^10∧SameB b g H H'∧Well H' b g l (n+2)) (λZ hZ=>?_) ?_
 · refine⟨_,rfl,rfl,_,rfl,Il (λ_=>?_) (λ_=>hZ _ _ ⟨1,rfl,by decide,by decide,S1,B1.mono (by omega)⟩)⟩;exact⟨_,rfl,b,g,l,_,1000,rfl,B1,by omega,by decide,by decide,λm2 H4 m20 m21 B4 S4=>⟨_,_,rfl,rfl,hZ _ _ ⟨_,rfl,by omega,by omega,S1.trans S4,B4.mono (by omega)⟩⟩⟩
 rintro σ' H2 ⟨m,rfl,m0,m1,S2,B2⟩;refine Ku (λσ' H'=>∃m:Int,σ'=[some (.ref b),some (.int pick),some (.int m)]∧1≤m∧m≤10^10∧SameB b g H H'∧Well H' b g l (n+4)) (λZ hZ=>?_) ?_
 · refine⟨_,rfl,rfl,_,rfl,Il (λ_=>?_) (λ_=>hZ _ _ ⟨m,rfl,m0,m1,S2,B2.mono (by omega)⟩)⟩;refine⟨_,rfl,b,g,l,_,100000,rfl,B2,by omega,by decide,by decide,λm2 H4 m20 m21 B4 S4=>?_⟩;refine⟨_,rfl,b,g,l,_,100000,rfl,B4,by omega,by decide,by decide,λm3 H5 m30 m31 B5 S5=>?_⟩;have x1:m2*m3≤99999*99999:=Ey (by omega) (by omega) m30 (by decide);have x0:0≤m2*m3:=Ex m20 m30;exact⟨_,_,rfl,rfl,.inl ⟨by omega,by omega⟩,_,_,rfl,rfl,hZ _ _ ⟨_,rfl,by show 1≤1+m2*m3;omega,by show 1+m2*m3≤_;omega,S2.trans (S4.trans S5),B5.mono (by omega)⟩⟩
 rintro σ' H3 ⟨m,rfl,m0,m1,S3,B3⟩;refine⟨_,_,rfl,rfl,Jz (by decide) (by decide),_,_,rfl,rfl,Jz (by decide) (by decide),_,_,rfl,rfl,_,_,rfl,rfl,Jz (by decide) (by decide),_,_,rfl,rfl,Jz (by decide) (by decide),_,_,rfl,rfl,_,rfl,b,g,l,_,rfl,B3,by omega,λx H4 x0 x1 B4 S4=>?_⟩;dsimp only;rw[L6,e13];refine⟨_,_,rfl,_,_,rfl,_,rfl,Jk,λt ht=>?_⟩;have s5:=HU ht (.tup [V.int (if(if x<1000000000000000 - 10000000000000 then x else 1000000000000000 - 10000000000000)>10000000000000 - 1000000000000000 then(if x<1000000000000000 - 10000000000000 then x else 1000000000000000 - 10000000000000) else 10000000000000 - 1000000000000000),V.int m])
 refine q t _ m _ HK ?_ ?_ m0 m1 ((B4.same s5).mono (by omega)) ((S3.trans S4).trans s5.sameB)
 · split<;>split<;>omega
 · split<;>split<;>omega
theorem Zv(F:Fun K "_law_span" "_law_span" Px f fd)(Ho:Γ27 P w K mg base):FnOk P w K mg base Ir 2 f fd ["well","grid","wide"] (Sl):=by
 refine F.ok GH (λvs H Q E h=>?_) (λcdv A outer s H vs Q E hr h=>?_)
 · obtain⟨b,g,l,t,n,lo,sz,wide,rfl,Bg,hn,et,s1,s2,w1,w2,q⟩:=h;rfl
 obtain⟨b,g,l,t,n,lo,sz,wide,rfl,Bg,hn,et,s1,s2,w1,w2,q⟩:=h;refine⟨_,(HQ (Ig (i:=3) GH.nd rfl (Or.inl rfl) (Ie Ho (hr.mono (by decide)) rfl (HG (pv 0) (HG HL HH))))
  (HQ (Ig (i:=4) GH.nd rfl (Or.inl rfl) (Ia Jf (IC JA (pv 1) HL (λ_ _=>rfl)) (Ia Kz (IC JA (pv 1) HL (λ_ _=>rfl)) (Ie Ho (hr.mono (by decide)) rfl (HG (pv 0) (HG (pv 2) HH))))))
  (HQ (Ig (i:=5) GH.nd rfl (Or.inl rfl) (Ia KB (Ia Jf (pv 4) (Ia Kz (IC JA (pv 1) HL (λ_ _=>rfl)) (Ia Jf HL (Ie Ho (hr.mono (by decide)) rfl (HG (pv 0) (HG (pv 2) HH)))))) HL))
  (HQ (IH (IA Kb (pv 3) HL (I0 _)) (HW (Ik (IX (HG JB (HG JB HH))))) IG)
  (HQ (IH (IA Kb (pv 3) HL (I0 _)) (HW (Ik (IX (HG JB (HG (pv 5) HH))))) IG)
  (HW (Ik (Lx (IA Kb (pv 3) HL (I0 _)) (IX (HG (pv 4) (HG JB HH))) (IX (HG (pv 4) (HG (pv 5) HH))))))))))),?_⟩
 refine⟨_,rfl,b,g,l,n,8,rfl,Bg,by omega,by decide,by decide,λpick H1 p0 p1 B1 S1=>?_⟩;have e1:=Bg.tup S1 et;refine⟨_,rfl,t,_,0,_,rfl,rfl,SqT.of e1,rfl,_,rfl,t,_,1,_,rfl,rfl,SqT.of e1,rfl,_,rfl,_,rfl,b,g,l,_,wide,rfl,B1,by omega,by omega,Lj (by omega),λx H2 x0 x1 B2 S2=>?_⟩;have e2:=B1.tup S2 e1;refine⟨_,_,rfl,rfl,.inl ⟨by omega,by omega⟩,_,_,rfl,rfl,?_⟩;refine⟨_,rfl,_,rfl,t,_,1,_,rfl,rfl,SqT.of e2,rfl,_,rfl,_,rfl,b,g,l,_,wide,rfl,B2,by omega,by omega,Lj (by omega),λy H3 y0 y1 B3 S3=>?_⟩;have S03:=S1.trans (S2.trans S3);refine⟨_,_,rfl,rfl,_,_,rfl,rfl,.inl ⟨by omega,by omega⟩,_,_,rfl,rfl,_,_,rfl,rfl,?_⟩;have hp:1≤sz*(1+y):=by have:1*1≤sz*(1+y):=Ey s1 (by omega) (by decide) (by omega);omega
 dsimp only;have gL:∃i,0≤i∧i<wide∧lo+sz*x=lo+sz*i:=⟨x,x0,by omega,rfl⟩;have gH:∃j,1≤j∧j<2*wide∧lo+sz*x+sz*(1+y) - 1=lo+sz*j - 1:=⟨x+(1+y),by omega,by omega,by rw[Int.mul_add sz x (1+y)];omega⟩;generalize sz*(1+y)=d at*;generalize lo+sz*x=L at*;have fin:∀(a b':Option Int),(IY a b'=true∧Grid2 lo sz wide (a,b'))→∀r,H3 r=none→Q (.ref r) (HI H3 r (.tup [eV a,eV b'])):=λa b' h r hr=>q r a b' _ HK h ((B3.same (HU hr _)).mono (by omega)) (S03.trans (HU hr _).sameB);refine⟨_,rfl,rfl,_,rfl,Il (λ_=>⟨Jk,fin none none ⟨rfl,λ_ e=>(nomatch e),λ_ e=>(nomatch e)⟩⟩) (λ_=>?_)⟩;refine⟨_,rfl,rfl,_,rfl,Il (λ_=>⟨_,rfl,Jk,fin none (some (L+d - 1)) ⟨rfl,λ_ e=>(nomatch e),λ_ e=>by cases e;exact gH⟩⟩) (λ_=>?_)⟩;refine⟨_,rfl,rfl,_,rfl,Il (λ_=>⟨_,rfl,Jk,fin (some L) none ⟨rfl,λ_ e=>by cases e;exact gL,λ_ e=>(nomatch e)⟩⟩) (λ_=>⟨_,rfl,_,rfl,Jk,fin (some L) (some (L+d - 1)) ⟨decide_eq_true (by omega),λ_ e=>by cases e;exact gL,λ_ e=>by cases e;exact gH⟩⟩)⟩
theorem Zz(F:Fun K "_law_wish" "_law_wish" P0 f fd)(Ho:Γ27 P w K mg base)(Hs:Γ32 P w K mg base):FnOk P w K mg base Ir 3 f fd ["well","names","grid","wide"] (Sn):=by
 refine F.ok GI (λvs H Q E h=>?_) (λcdv A outer s H vs Q E hr h=>?_)
 · obtain⟨b,g,l,a,t,n,lo,sz,wide,fs,rfl,Bg,hn,FA,et,s1,s2,w1,w2,q⟩:=h;rfl
 obtain⟨b,g,l,a,t,n,lo,sz,wide,fs,rfl,Bg,hn,FA,et,s1,s2,w1,w2,q⟩:=h;refine⟨_,(HQ (Ig (i:=4) GI.nd rfl (Or.inl rfl) (Jc HH))
  (HQ (JC Bh rfl (Jh (pv 1)) (H_ (i:=5) GI.nd rfl (Or.inl rfl)) (HW (IH (IA KM (Ie Ho (hr.mono (by decide)) rfl (HG (pv 0) (HG HL HH))) HL (I0 _)) (HQ (KW (Ie Hs (hr.mono (by decide)) rfl (HG (pv 0) (HG (pv 2) (HG (pv 3) HH)))) (JI rfl (Iq (H_ (i:=6) GI.nd rfl (Or.inl rfl)) (Iq (H_ (i:=7) GI.nd rfl (Or.inl rfl)) Jr))))
  (HW (Kr (KN BM Cu Cv Lq (pv 4) (HG (IX (HG (pv 5) (HG (pv 6) (HG (pv 7) HH)))) HH))))) IG)))
  (HW (Ik (Lr On rfl B.tuple_ LH (HG (pv 4) HH)))))),?_⟩
 refine⟨JE,λr hr'=>?_⟩;obtain⟨rb,rg,rl⟩:=Bg.free hr';have s0:=HU hr' (.lst []);have FA0:=FA.sameB s0.sameB;have rf:r≠a:=λe=>by rw[e,FA.at'] at hr';cases hr'
 refine⟨_,rfl,a,rfl,⟨_,SqL.of FA0.at'⟩,Lv (K:=K) (a:=a) (xs:=fs.map V.str) (λi σ H'=>(∃y5 y6 y7,σ=[some (.ref b),some (.ref a),some (.ref t),some (.int wide),some (.ref r),y5,y6,y7])∧SameB b g H H'∧Well H' b g l (n+4*i)∧NamesAt H' b g a fs∧H' t=some (.tup [.int lo,.int sz])∧
  ∃qs:List (Addr×WP),H' r=some (.lst (qs.map λq=>V.ref q.1))∧(∀q∈qs,H' q.1=some (.tup [.str q.2.1,eV q.2.2.1,eV q.2.2.2])∧(IY q.2.2.1 q.2.2.2=true∧Grid2 lo sz wide q.2.2))∧(qs.map (·.2.1)).Sublist (fs.take i)) ?_ ?_ ?_ ?_⟩
 · exact⟨⟨none,none,none,rfl⟩,s0.sameB,(Bg.same s0).mono (by omega),FA0,s0 _ _ et,[],HK,λq hq=>by simp at hq,by simp⟩
 · rintro i σ H' _ ⟨_,_,_,F1,_⟩;exact SqL.of F1.at'
 · rintro i x σ H1 hx ⟨⟨y5,y6,y7,rfl⟩,S1,B1,F1,t1,qs,e1,a1,u1⟩;rw[Af] at hx;cases ef:fs[i]? with
   | none=>rw[ef] at hx;cases hx
   | some f'=>
    rw[ef] at hx;obtain rfl:V.str f'=x:=Az hx;have li:i<6:=by have:=(Al.mp ef).1;have:=FA.len;omega
    refine⟨_,rfl,b,g,l,_,4,rfl,B1,by omega,by decide,by decide,λc H2 c0 c1 B2 S2=>?_⟩;have e2:=S2 _ _ e1 rb rg;have F2:=F1.sameB S2;have t2:=B1.tup S2 t1;have a2:∀q∈qs,H2 q.1=some (.tup [.str q.2.1,eV q.2.2.1,eV q.2.2.2])∧(IY q.2.2.1 q.2.2.2=true∧Grid2 lo sz wide q.2.2):=λq hq=>⟨B1.tup S2 (a1 q hq).1,(a1 q hq).2⟩;have u2:(qs.map (·.2.1)).Sublist (fs.take (i+1)):=u1.trans (Dl (by omega));refine⟨_,_,rfl,rfl,_,rfl,Il (λ_=>?_) (λ_=>?_)⟩
    · refine⟨_,rfl,_,rfl,_,rfl,b,g,l,t,_,lo,sz,wide,rfl,B2,by omega,t2,s1,s2,w1,w2,λv lo' hi' H3 sp le3 B3 S3=>?_⟩;have e3:=S3 _ _ e2 rb rg;have F3:=F2.sameB S3;have t3:=B2.tup S3 t2;have S03:=S1.trans (S2.trans S3);have a3:∀q∈qs,H3 q.1=some (.tup [.str q.2.1,eV q.2.2.1,eV q.2.2.2])∧(IY q.2.2.1 q.2.2.2=true∧Grid2 lo sz wide q.2.2):=λq hq=>⟨B2.tup S3 (a2 q hq).1,(a2 q hq).2⟩;refine⟨v,_,rfl,SqT.of sp,rfl,_,_,rfl,_,_,rfl,rfl,?_⟩;refine⟨_,rfl,.inl ⟨rfl,_,SqL.of e3⟩,_,rfl,_,rfl,_,rfl,Li,λt' ht=>?_⟩;have st:=HU ht (.tup [V.str f',eV lo',eV hi']);have e4:=st _ _ e3;refine⟨r,_,_,rfl,rfl,e4,(by rw[Ab];have:=u1.length_le;simp at this;exact IQ (by omega)),?_⟩;have tl:=K0 (o:= .lst (qs.map (λq=>V.ref q.1)++[V.ref t'])) e4;have nr:H r=none:=hr';refine⟨⟨_,_,_,rfl⟩,(S03.trans st.sameB).off nr,((B3.same st).off rb rg rl).mono (by omega),?_,tl _ _ (st _ _ t3),qs++[(t',f',lo',hi')],?_,?_,?_⟩
      · have F4:=F3.sameB st.sameB;exact⟨by rw[Ij rf.symm];exact F4.at',F4.nb,F4.ng,F4.len,F4.ok,F4.asc⟩
      · rw[HK,Ah];rfl
      · intro q hq;rcases Aw.mp hq with z | z
        · exact⟨tl _ _ (st _ _ (a3 q z).1),(a3 q z).2⟩
        · rw[Ae.mp z];exact⟨tl _ _ HK,le3⟩
      · rw[Ah,IB ef];exact u1.append (EY _)
    · exact⟨⟨_,_,_,rfl⟩,S1.trans S2,B2.mono (by omega),F2,t2,qs,e2,a2,u2⟩
 · rintro σ H1 ⟨⟨y5,y6,y7,rfl⟩,S1,B1,F1,t1,qs,e1,a1,u1⟩;rw[show fs.take (fs.map V.str).length=fs from Ar (by simp)] at u1;have ll:qs.length≤6:=by have h1:=u1.length_le;have h2:=FA.len;rw[Ab] at h1;omega
   refine⟨_,rfl,r,_,rfl,.inl ⟨SqL.of e1,λt ht=>?_⟩⟩;have st:=HU ht (.tup (qs.map λq=>V.ref q.1));have sub:∀q∈qs,q.2.1∈fs:=λq hq=>u1.subset (A3 (f:=λ(x:Addr×WP)=>x.2.1) hq);refine q t (qs.map (·.2)) _ ⟨qs,rfl,HK,λq hq=>st _ _ (a1 q hq).1⟩ ⟨by rw[Ab];omega,λp hp=>?_,?_⟩ (λp hp=>?_) (by rw[Ab];exact ll) ((B1.same st).mono (by rw[Ab];have:=FA.len;omega)) (S1.trans st.sameB)
   · obtain⟨q',hq',rfl⟩:=Ay.mp hp;exact⟨FA.ok _ (sub q' hq'),(a1 q' hq').2.1⟩
   · rw[BA];exact FA.asc.sublist u1
   · obtain⟨q',hq',rfl⟩:=Ay.mp hp;exact⟨sub q' hq',(a1 q' hq').2.2⟩
theorem Z5(F:Fun K "_law_wishes" "_law_wishes" PF f fd)(Ho:Γ27 P w K mg base)(Ht:Γ33 P w K mg base):FnOk P w K mg base Ir 4 f fd ["well","names","grid","wide","many"] (Tv):=by
 refine F.ok GJ (λvs H Q E h=>?_) (λcdv A outer s H vs Q E hr h=>?_)
 · obtain⟨b,g,l,a,t,n,lo,sz,wide,many,fs,rfl,Bg,hn,FA,et,s1,s2,w1,w2,m0,m1,q⟩:=h;rfl
 obtain⟨b,g,l,a,t,n,lo,sz,wide,many,fs,rfl,Bg,hn,FA,et,s1,s2,w1,w2,m0,m1,q⟩:=h;refine⟨_,(HQ (Ig (i:=5) GJ.nd rfl (Or.inl rfl) (Jc HH))
  (HQ (JC Bh rfl (Pm rfl B.range_ (HG (pv 4) HH)) (H_ (i:=6) GJ.nd rfl (Or.inl rfl)) (HQ (Ig (i:=7) GJ.nd rfl (Or.inl rfl) (Ie Ho (hr.mono (by decide)) rfl (HG (pv 0) (HG HL HH))))
  (HQ (Ig (i:=8) GJ.nd rfl (Or.inl rfl) (Ie Ht (hr.mono (by decide)) rfl (HG (pv 0) (HG (pv 1) (HG (pv 2) (HG (pv 3) HH))))))
  (HQ (IH (PW.pt (Ln (IA (OF (Ly hr)) (pv 5) (Jc HH) (I0 _)) (Mj (IA LY (pv 7) HL (I0 _))))) (HQ (Ig (i:=9) GJ.nd rfl (Or.inl rfl) (IC Jx (pv 5) (Ie Ho (hr.mono (by decide)) rfl (HG (pv 0) (HG (Iy JQ rfl B.len_ J9 (HG (pv 5) HH)) HH))) (λ_ _=>rfl)))
  (HQ (Ig (i:=10) GJ.nd rfl (Or.inl rfl) (Ie Ho (hr.mono (by decide)) rfl (HG (pv 0) (HG (Ia Jf (Iy JQ rfl B.len_ J9 (HG (pv 9) HH)) HL) HH))))
  (HW (Ig (i:=8) GJ.nd rfl (Or.inl rfl) (Lx (IA Kb (pv 7) HL (I0 _)) (pv 9) (Ia M9 (Ks NN (pv 9) Kp (Kq (pv 10))) (Ks NN (pv 9) (Kq (Ia Jf (pv 10) HL)) Kp))))))) IG)
  (HW (Kr (KN BM Cu Cv Lq (pv 5) (HG (pv 8) HH))))))))
  (HW (Ik (pv 5))))),?_⟩
 refine⟨JE,λr hr'=>?_⟩;obtain⟨rb,rg,rl⟩:=Bg.free hr';have s0:=HU hr' (.lst []);have e0:(HI H r (.lst [])) r=some (.lst []):=HK;have FA0:=FA.sameB s0.sameB;have rf:r≠a:=λe=>by rw[e,FA.at'] at hr';cases hr'
 have nr:H r=none:=hr';have B0:=Bg.same s0;have t0:=s0 _ _ et;generalize HI H r (.lst [])=H0 at*;obtain⟨N,rfl,N1⟩:∃N:Nat,many=(N:Int)∧N≤400:=⟨many.toNat,by omega,by omega⟩;refine⟨_,rfl,_,rfl,by omega,by omega,Td (lo:=0) (n:=N) (λi σ H'=>(∃y6 y7 y8 y9 y10,σ=[some (.ref b),some (.ref a),some (.ref t),some (.int wide),some (.int (N:Int)),some (.ref r),y6,y7,y8,y9,y10])∧SameB b g H H'∧Well H' b g l (n+40*i)∧NamesAt H' b g a fs∧H' t=some (.tup [.int lo,.int sz])∧
  ∃ws:List (Addr×List WP),H' r=some (.lst (ws.map λx=>V.ref x.1))∧ws.length=i∧∀x∈ws,WishAt H' x.1 x.2∧WOk x.2∧Mt fs lo sz wide x.2∧x.2.length≤6) ?_ ?_ ?_⟩
 · exact⟨⟨none,none,none,none,none,rfl⟩,s0.sameB,B0.mono (by omega),FA0,t0,[],e0,rfl,λx hx=>by simp at hx⟩
 · rintro i σ H1 hi ⟨⟨y6,y7,y8,y9,y10,rfl⟩,S1,B1,F1,t1,ws,e1,lw,g1⟩;refine⟨_,rfl,b,g,l,_,6,rfl,B1,by omega,by decide,by decide,λpick H2 p0 p1 B2 S2=>?_⟩;refine⟨_,rfl,_,rfl,_,rfl,_,rfl,b,g,l,a,t,_,lo,sz,wide,fs,rfl,B2,by omega,F1.sameB S2,B1.tup S2 t1,s1,s2,w1,w2,λwr w H3 W3 ok3 in3 len3 B3 S3=>?_⟩;have S13:=S2.trans S3;have e3:=S13 _ _ e1 rb rg;have F3:=F1.sameB S13;have t3:=B2.tup S3 (B1.tup S2 t1);have g3:∀x∈ws,WishAt H3 x.1 x.2∧WOk x.2∧Mt fs lo sz wide x.2∧x.2.length≤6:=λx hx=>⟨((g1 x hx).1.sameW B1 S2).sameW B2 S3,(g1 x hx).2⟩;refine LM ?_;dsimp only;refine Ku (λσ' H'=>∃(wr:Addr)(w:List WP)(y9 y10:Option V),σ'=[some (.ref b),some (.ref a),some (.ref t),some (.int wide),some (.int (N:Int)),some (.ref r),some (.int (0+(i:Int))),some (.int pick),some (.ref wr),y9,y10]∧WishAt H' wr w∧WOk w∧Mt fs lo sz wide w∧w.length≤6∧SameB b g H3 H'∧Well H' b g l (n+40*i+35)) (λZ hZ=>?_) ?_
   · refine⟨_,rfl,JE,λep hep=>?_⟩;have s4:=HU hep (.lst []);have e4:=s4 _ _ e3;have g4:∀x∈ws,WishAt (HI H3 ep (.lst [])) x.1 x.2∧WOk x.2∧Mt fs lo sz wide x.2∧x.2.length≤6:=λx hx=>⟨(g3 x hx).1.same s4,(g3 x hx).2⟩;have B4:=B3.same s4;have W4:=W3.same s4;have h4:(HI H3 ep (.lst [])) ep=some (.lst []):=HK;generalize HI H3 ep (.lst [])=H4 at*;have nope:Z [some (.ref b),some (.ref a),some (.ref t),some (.int wide),some (.int (N:Int)),some (.ref r),some (.int (0+(i:Int))),some (.int pick),some (.ref wr),y9,y10] H4:=hZ _ _ ⟨wr,w,y9,y10,rfl,W4,ok3,in3,len3,s4.sameB,B4.mono (by omega)⟩;refine⟨r,ep,_,rfl,rfl,e4,h4,_,rfl,?_⟩;by_cases hw:ws=[]
     · subst hw;exact HR (HR nope)
     · have wpos:0<ws.length:=List.length_pos_iff.mpr hw;have ne:(ws.map λx=>V.ref x.1).isEmpty=false:=by
        cases ws with
        | nil=>exact absurd rfl hw
        | cons x0 r0=>rfl
       rw[ne];refine HP ⟨_,rfl,_,_,rfl,rfl,_,rfl,Il (λ_=>?_) (λ_=>nope)⟩;refine⟨_,rfl,_,rfl,_,rfl,r,_,rfl,.inl (SqL.of e4),b,g,l,_,_,rfl,B4,by omega,by rw[Ab];omega,Lj (by rw[Ab];omega),λk H5 k0 k1 B5 S5=>?_⟩;have e5:=S5 _ _ e4 rb rg;rw[Ab] at k1;obtain⟨j,rfl⟩:∃j:Nat,k=(j:Int):=⟨k.toNat,by omega⟩;obtain⟨X1,eX⟩:∃X1,ws[j]?=some X1:=⟨ws[j]'(by omega),Av (by omega)⟩;have hX:JW (ws.map λx=>V.ref x.1) (j:Int)=some (V.ref X1.1):=Mm (by rw[Af,eX];rfl);obtain⟨x1,x2,x3,x4⟩:=g4 X1 (Aj eX);have x5:=x1.sameW B4 S5;refine⟨r,_,_,_,rfl,rfl,SqL.of e5,hX,?_⟩;obtain⟨xs1,ex1,lx1⟩:=x5.tyN;refine⟨_,rfl,_,rfl,X1.1,_,rfl,.inr (SqT.of ex1),_,_,rfl,rfl,b,g,l,_,_,rfl,B5,by omega,by omega,Lj (by omega),λat' H6 a0 a1 B6 S6=>?_⟩;have x6:=x5.sameW B5 S6;have S36:=s4.sameB.trans (S5.trans S6);refine⟨_,rfl,rfl,_,rfl,Il (λ_=>⟨_,rfl,hZ _ _ ⟨X1.1,X1.2,_,_,rfl,x6,x2,x3,x4,S36,B6.mono (by omega)⟩⟩) (λ_=>?_)⟩;obtain⟨k',rfl⟩:∃k':Nat,at'=(k':Int):=⟨at'.toNat,by omega⟩;obtain⟨ps,hps,hA,hP⟩:=x6;have lps:ps.length≤6:=by rw[←hps,Ab] at x4;exact x4
       refine⟨_,rfl,_,rfl,_,rfl,X1.1,_,rfl,hA,λp1 H12 s12 e12=>?_⟩;rw[Ph rfl,←Df] at e12;refine⟨_,rfl,_,rfl,_,_,rfl,rfl,_,rfl,X1.1,_,rfl,s12 _ _ hA,λp2 H13 s13 e13=>?_⟩;rw[SZ (n:=k'+1) (by omega),←EN] at e13;refine⟨p1,p2,_,_,rfl,rfl,s13 _ _ e12,e13,(by rw[Ab,A7,Ab,C5];exact LD (by omega)),λr2 H14 s14 e14=>?_⟩;rw[←Ah] at e14;have tt:=s12.trans (s13.trans s14);have sub:(ps.take k'++ps.drop (k'+1)).Sublist ps:=by rw[←List.eraseIdx_eq_take_drop_succ];exact List.eraseIdx_sublist ..
       have subw:((ps.take k'++ps.drop (k'+1)).map (·.2)).Sublist X1.2:=by rw[←hps];exact sub.map _
       refine hZ _ _ ⟨r2,(ps.take k'++ps.drop (k'+1)).map (·.2),_,_,rfl,⟨_,rfl,e14,λx hx=>tt _ _ (hP x (sub.subset hx))⟩,⟨AL subw.length_le x2.len,λp hp=>x2.ok p (subw.subset hp),x2.asc.sublist (subw.map _)⟩,λp hp=>x3 p (subw.subset hp),AL subw.length_le x4,S36.trans tt.sameB,(B6.same tt).mono (by omega)⟩
   rintro σ' H5 ⟨wr,w,y9,y10,rfl,W5,ok5,in5,len5,S5,B5⟩;have e5:=S5 _ _ e3 rb rg;have F5:=F3.sameB S5;refine⟨_,rfl,.inl ⟨rfl,_,SqL.of e5⟩,_,rfl,r,_,_,rfl,rfl,e5,(by rw[Ab];exact IQ (by omega)),?_⟩;have tl:=K0 (o:= .lst (ws.map (λq=>V.ref q.1)++[V.ref wr])) e5;refine⟨⟨_,_,_,_,_,rfl⟩,((S1.trans S13).trans S5).off nr,(B5.off rb rg rl).mono (by omega),⟨by rw[Ij rf.symm];exact F5.at',F5.nb,F5.ng,F5.len,F5.ok,F5.asc⟩,tl _ _ (B3.tup S5 t3),ws++[(wr,w)],by rw[HK,Ah];rfl,by rw[A5,lw];rfl,λx hx=>?_⟩;rcases Aw.mp hx with z | z
   · exact⟨((g3 x z).1.sameW B3 S5).keep tl,(g3 x z).2⟩
   · rw[Ae.mp z];exact⟨W5.keep tl,ok5,in5,len5⟩
 · rintro σ H1 ⟨⟨y6,y7,y8,y9,y10,rfl⟩,S1,B1,F1,t1,ws,e1,lw,g1⟩;exact⟨_,rfl,q r ws _ nr ⟨e1,λx hx=>⟨(g1 x hx).1,(g1 x hx).2.1⟩,by omega⟩ (by omega) (λx hx=>(g1 x hx).2.2) (B1.mono (by omega)) S1⟩
theorem ZL(F:Fun K "_law_whole" "_law_whole" PV f fd)  :FnOk P w K mg base Ir 1 f fd ["thing"] (NO K):=by
 refine F.ok ZD (λvs H Q E h=>?_) (λcdv A outer s H vs Q E hr h=>?_)
 · obtain⟨v,t,rfl,hty,q⟩:=h;rfl
 obtain⟨v,t,rfl,hty,q⟩:=h;refine⟨_,(HW (Ik (Me (Iy (KE (n:="")) rfl B.isinstance_ KH (HG (pv 0) (HG (KD (v:= .ty "int") rfl B.int_ Rq rfl) HH))) (Lm (Rz (Iy (KE (n:="")) rfl B.isinstance_ KH (HG (pv 0) (HG (KD (v:= .ty "bool") rfl B.bool_ RB rfl) HH)))))))),?_⟩;cases hty
 all_goals first
  | exact⟨_,rfl,_,"int","int",true,rfl,.int _,rfl,_,rfl,HP ⟨_,rfl,_,"int","bool",false,rfl,.int _,rfl,_,rfl,q⟩⟩
  | exact⟨_,rfl,_,"bool","int",true,rfl,.bl _,rfl,_,rfl,HP ⟨_,rfl,_,"bool","bool",true,rfl,.bl _,rfl,_,rfl,q⟩⟩
  | exact⟨_,rfl,_,_,"int",false,rfl,(by first | exact .non | exact .str _ | exact .flt _ | (exact .lst (by assumption)) | (exact .frz (by assumption)) | (exact .tup (by assumption)) | (exact .dK (by assumption)) | (exact .dT (by assumption))),rfl,_,rfl,HR q⟩
theorem Zd(F:Fun K "_law_wants" "_law_wants" PU f fd)  :FnOk P w K mg base Ir 1 f fd ["wish","piece"] (Sm):=by
 refine F.ok GK (λvs H Q E h=>?_) (λcdv A outer s H vs Q E hr h=>?_)
 · obtain⟨a,b,w',p,rfl,hw,hp,pok,q⟩:=h;rfl
 obtain⟨a,b,w',p,rfl,hw,hp,pok,q⟩:=h;refine⟨_,(HQ (Ig (i:=2) GK.nd rfl (Or.inl rfl) (Lr (Y0 rfl) rfl B.dict_ Vt (HG (pv 1) HH)))
  (HQ (JC Bh rfl (Kn (pv 0)) (JI rfl (Iq (H_ (i:=3) GK.nd rfl (Or.inl rfl)) (Iq (H_ (i:=4) GK.nd rfl (Or.inl rfl)) (Iq (H_ (i:=5) GK.nd rfl (Or.inl rfl)) Jr)))) (HQ (IH (J7 (Xt (KL hr) (pv 3) (pv 2)) (by with_unfolding_all rfl)) (HW (Ik Kj)) IG)
  (HW (IH (PW.pt (Ll (PW.pt (Ln (J7 (KR (pv 4))) (Mj (IA LY (NK (KL hr) (pv 2) (pv 3) (λ_ _=>rfl)) (pv 4) (I0 _))))) (Lo (PW.pt (Ln (J7 (KR (pv 5))) (Mj (IA KM (NK (KL hr) (pv 2) (pv 3) (λ_ _=>rfl)) (pv 5) (I0 _)))))))) (HW (Ik Kj)) IG))))
  (HW (Ik Kj)))),?_⟩
 obtain⟨ps,rfl,hA,hP⟩:=hp;have ll:ps.length≤100:=by have:=pok.len;rw[Ab] at this;exact this
 refine⟨_,rfl,b,Kx ps,rfl,?_,?_,λd hd=>?_⟩
 · unfold Kx;rw[BA];exact hA
 · intro r hr';unfold Kx at hr';obtain⟨P1,hm,rfl⟩:=Ay.mp hr';exact hP P1 hm
 have s1:=HU hd (.dK ((Kx ps).foldl (λacc p=>Ii acc p.2.1 p.2.2) []));have h1:(HI H d (.dK ((Kx ps).foldl (λacc p=>Ii acc p.2.1 p.2.2) []))) d=some (.dK ((Kx ps).foldl (λacc p=>Ii acc p.2.1 p.2.2) [])):=HK;have h3:∀f:Str,Io ((Kx ps).foldl (λacc p=>Ii acc p.2.1 p.2.2) []) (.inr f:Ic)=(IU (ps.map (·.2)) f).map V.int:=YH ps pok;generalize(Kx ps).foldl (λacc p=>Ii acc p.2.1 p.2.2) []=kvs at*;generalize HI H d (.dK kvs)=H1 at*;obtain⟨ws,rfl,hB,hW⟩:=hw.same s1;refine⟨_,rfl,a,rfl,⟨_,SqT.of hB⟩,M8 (K:=K) (a:=a) (xs:=ws.map λp=>V.ref p.1) (λi σ H'=>(∃y3 y4 y5,σ=[some (.ref a),some (.ref b),some (.ref d),y3,y4,y5])∧Same H1 H'∧HV ((ws.map (·.2)).take i) (ps.map (·.2))=true) ⟨⟨none,none,none,rfl⟩,Same.refl _,rfl⟩ (λi σ H' _ ⟨_,s,_⟩=>s.seqT (SqT.of hB)) ?_ ?_⟩
 · rintro i x σ H' hx ⟨⟨y2,y3,y4,rfl⟩,s,hr'⟩;obtain⟨P1,e1,rfl⟩:=Ih hx;have hm:=Aj e1;have ew:(ws.map (·.2))[i]?=some P1.2:=by rw[Af,e1];rfl
   have k1:=s _ _ h1;have kf:=h3 P1.2.1;refine⟨P1.1,_,rfl,SqT.of (s _ _ (hW P1 hm)),rfl,_,_,rfl,_,_,rfl,_,_,rfl,rfl,?_⟩;have out:JP (ps.map (·.2)) P1.2=false→HV (ws.map (·.2)) (ps.map (·.2))=false:=λh=>Yk (A3 hm) h;refine⟨_,rfl,_,rfl,d,_,rfl,DGet.k (k:=Sum.inr P1.2.1) k1,_,rfl,?_⟩;cases hs:IU (ps.map (·.2)) P1.2.1 with
   | none=> rw[hs] at kf;rw[kf];refine HP ?_;have o1:=out (Uk hs);rw[o1] at q;exact q _ (s1.trans s)
   | some n=>
    rw[hs] at kf;rw[kf];refine HR ?_;have gd:DGet H' d (.str P1.2.1) (some (.int n)):=by have:=DGet.k (k:=Sum.inr P1.2.1) k1;rw[kf] at this;exact this
    have tp:=N_ hs;have bad:Im P1.2.2.1 P1.2.2.2 n=false→Q (.bl false) H':=λhb=>by have o1:=out (tp.trans hb);rw[o1] at q;exact q _ (s1.trans s)
    have good:Im P1.2.2.1 P1.2.2.2 n=true→HV ((ws.map (·.2)).take (i+1)) (ps.map (·.2))=true:=λhb=>by rw[IB ew];unfold HV at*;rw[FD,hr',Bool.true_and,CF,List.all_nil,tp,hb];rfl
    obtain⟨pa,f',lo,hi⟩:=P1;dsimp only at gd bad good;have low:∀l,lo=some l→n<l→Im lo hi n=false:=λl e h=>by subst e;unfold Im;rw[show Jb (some l) n=false from decide_eq_false (by omega)];rfl
    have high:∀h',hi=some h'→h'<n→Im lo hi n=false:=λh' e h=>by subst e;unfold Im;rw[show Jd (some h') n=false from decide_eq_false (by omega),DH]
    cases lo with
    | none=>
     refine⟨_,rfl,_,rfl,HR (HR ?_)⟩;cases hi with
     | none=>exact⟨_,rfl,_,rfl,HR (HR ⟨⟨_,_,_,rfl⟩,s,good rfl⟩)⟩
     | some h'=>
      refine⟨_,rfl,_,rfl,HP ⟨_,rfl,_,rfl,d,_,rfl,gd,_,rfl,_,_,rfl,rfl,_,rfl,Il (λh=>?_) (λh=>?_)⟩⟩
      · exact bad (high h' rfl (of_decide_eq_true h))
      · refine⟨⟨_,_,_,rfl⟩,s,good ?_⟩;have:¬n>h':=λz=>h (decide_eq_true z);simp[Im,Jb,Jd];omega
    | some l'=>
     refine⟨_,rfl,_,rfl,HP ⟨_,rfl,_,rfl,d,_,rfl,gd,_,rfl,_,_,rfl,rfl,_,rfl,Il (λh=>?_) (λh=>?_)⟩⟩
     · exact HP (bad (low l' rfl (of_decide_eq_true h)))
     · have hl':¬n<l':=λz=>h (decide_eq_true z);cases hi with
       | none=> refine⟨_,rfl,_,rfl,HR (HR ⟨⟨_,_,_,rfl⟩,s,good ?_⟩)⟩;simp[Im,Jb,Jd];omega
       | some h'=>
        refine⟨_,rfl,_,rfl,HP ⟨_,rfl,_,rfl,d,_,rfl,gd,_,rfl,_,_,rfl,rfl,_,rfl,Il (λh=>?_) (λh=>?_)⟩⟩
        · exact bad (high h' rfl (of_decide_eq_true h))
        · refine⟨⟨_,_,_,rfl⟩,s,good ?_⟩;have:¬n>h':=λz=>h (decide_eq_true z);simp[Im,Jb,Jd];omega
 · rintro σ H' ⟨_,s,hr'⟩;rw[show(ws.map (·.2)).take (ws.map λp=>V.ref p.1).length=ws.map (·.2) from Ar (by simp)] at hr';rw[hr'] at q;exact q _ (s1.trans s)
theorem zdT(F:Fun K "_law_both_ends" "_law_both_ends" Qe f fd)  :FnOk P w K mg base Ir 1 f fd ["wishes","grid"] (R5):=by
 refine F.ok GL (λvs H Q E h=>?_) (λcdv A outer s H vs Q E hr h=>?_)
 · obtain⟨l,t,ws,lo,sz,wide,rfl,hw,l7,ht,z1,w1,gr,q⟩:=h;rfl
 obtain⟨l,t,ws,lo,sz,wide,rfl,hw,l7,ht,z1,w1,gr,q⟩:=h;refine⟨_,(HQ (Ig (i:=2) GL.nd rfl (Or.inl rfl) (Jc HH))
  (HQ (JC Bh rfl (Jh (pv 0)) (H_ (i:=3) GL.nd rfl (Or.inl rfl)) (HQ (Ig (i:=4) GL.nd rfl (Or.inl rfl) (Jc HH))
  (HQ (JC Bh rfl (Kn (pv 3)) (JI rfl (Iq (H_ (i:=5) GL.nd rfl (Or.inl rfl)) (Iq (H_ (i:=6) GL.nd rfl (Or.inl rfl)) (Iq (H_ (i:=7) GL.nd rfl (Or.inl rfl)) Jr)))) (HQ (Ig (i:=8) GL.nd rfl (Or.inl rfl) (Lx (J7 (Km (pv 6))) (IC JA (pv 1) HL (λ_ _=>rfl)) (pv 6)))
  (HW (Kr (KN BM Cu Cv Lq (pv 4) (HG (IX (HG (pv 5) (HG (pv 8) (HG (Lx (J7 (Km (pv 7))) (Ia KB (Ia Jf (pv 8) (IC JA (pv 1) HL (λ_ _=>rfl))) HL) (pv 7)) HH)))) HH))))))
  (HW (Kr (KN BM Cu Cv Lq (pv 2) (HG (Lr On rfl B.tuple_ LH (HG (pv 4) HH)) HH)))))))
  (HW (Ik (pv 2))))),?_⟩
 refine⟨JE,λfr hfr=>?_⟩;have s0:=HU hfr (.lst []);have e0:(HI H fr (.lst [])) fr=some (.lst []):=HK;generalize HI H fr (.lst [])=H0 at*;have hw0:=hw.same s0;refine⟨_,rfl,l,rfl,⟨_,SqL.of hw0.at'⟩,Lv (K:=K) (a:=l) (xs:=ws.map λx=>V.ref x.1) (λi σ H'=>(∃y3 y4 y5 y6 y7 y8,σ=[some (.ref l),some (.ref t),some (.ref fr),y3,y4,y5,y6,y7,y8])∧Same H H'∧∃qs:List (Addr×List WP),H' fr=some (.lst (qs.map λx=>V.ref x.1))∧qs.map (·.2)=((ws.map (·.2)).take i).map (K9 lo sz)∧∀q∈qs,WishAt H' q.1 q.2) ⟨⟨none,none,none,none,none,none,rfl⟩,s0,[],e0,rfl,λq hq=>by simp at hq⟩ (λi σ H' _ ⟨_,z,_⟩=>SqL.of (z _ _ hw.at')) ?_ ?_⟩
 · rintro i x σ H1 hx ⟨⟨y3,y4,y5,y6,y7,y8,rfl⟩,s1,qs,e1,v1,g1⟩;obtain⟨X1,ew,rfl⟩:=Ih hx;have mX:=Aj ew;have li:=(Al.mp ew).1;have eX:(ws.map (·.2))[i]?=some X1.2:=by rw[Af,ew];rfl
   obtain⟨x1,x2⟩:=hw.ok X1 mX;have lqs:qs.length≤7:=by have:=congrArg Bi v1;rw[Ab,Ab,A7] at this;omega
   refine⟨JE,λpr hpr=>?_⟩;have s2:=HU hpr (.lst []);have e2:(HI H1 pr (.lst [])) pr=some (.lst []):=HK;have f2:=s2 _ _ e1;have g2:∀q∈qs,WishAt (HI H1 pr (.lst [])) q.1 q.2:=λq hq=>(g1 q hq).same s2;have npf:pr≠fr:=λe=>by rw[e,e1] at hpr;cases hpr
   generalize HI H1 pr (.lst [])=H2 at*;have S2:=s1.trans s2;obtain⟨ps,hps,hA,hP⟩:=x1.same S2;have lp:ps.length≤100:=by have:=x2.len;rw[←hps,Ab] at this;exact this
   refine⟨_,rfl,X1.1,rfl,⟨_,SqT.of hA⟩,M8 (K:=K) (a:=X1.1) (xs:=ps.map λp=>V.ref p.1) (λj σ H'=>(∃y5 y6 y7 y8,σ=[some (.ref l),some (.ref t),some (.ref fr),some (.ref X1.1),some (.ref pr),y5,y6,y7,y8])∧(Same H H'∧Tups H2 H'∧H' fr=some (.lst (qs.map λx=>V.ref x.1)))∧∃us:List (Addr×WP),H' pr=some (.lst (us.map λx=>V.ref x.1))∧us.map (·.2)=((ps.map (·.2)).take j).map (JM lo sz)∧∀u∈us,H' u.1=some (.tup [.str u.2.1,eV u.2.2.1,eV u.2.2.2])) ⟨⟨_,_,_,_,rfl⟩,⟨S2,λ_ _ z=>z,f2⟩,[],e2,rfl,λq hq=>by simp at hq⟩ (λi σ H' _ ⟨_,⟨_,z,_⟩,_⟩=>SqT.of (z _ _ hA)) ?_ ?_⟩
   · rintro j y σ H3 hy ⟨⟨y5',y6',y7',y8',rfl⟩,⟨s3,t3,f3⟩,us,e3,u3,g3⟩;obtain⟨P1,ep,rfl⟩:=Ih hy;have hm:=Aj ep;have eP:(ps.map (·.2))[j]?=some P1.2:=by rw[Af,ep];rfl
     have ht3:=s3 _ _ ht;have lus:us.length≤100:=by have:=congrArg Bi u3;rw[Ab,Ab,A7,Ab] at this;omega
     refine⟨P1.1,_,rfl,SqT.of (t3 _ _ (hP P1 hm)),rfl,_,_,rfl,_,_,rfl,_,_,rfl,rfl,?_⟩;have fin:∀(yy:Option V)(u:Addr),H3 u=none→RQ (V.ref pr) [V.ref u] (HI H3 u (.tup [.str P1.2.1,eV (JM lo sz P1.2).2.1,eV (JM lo sz P1.2).2.2])) λx H1=>(∃y5 y6 y7 y8,[some (.ref l),some (.ref t),some (.ref fr),some (.ref X1.1),some (.ref pr),some (.str P1.2.1),some (eV P1.2.2.1),some (eV P1.2.2.2),yy]=[some (V.ref l),some (.ref t),some (.ref fr),some (.ref X1.1),some (.ref pr),y5,y6,y7,y8])∧(Same H H1∧Tups H2 H1∧H1 fr=some (.lst (qs.map λx=>V.ref x.1)))∧∃us:List (Addr×WP),H1 pr=some (.lst (us.map λx=>V.ref x.1))∧us.map (·.2)=((ps.map (·.2)).take (j+1)).map (JM lo sz)∧∀u∈us,H1 u.1=some (.tup [.str u.2.1,eV u.2.2.1,eV u.2.2.2]):=λyy u hu=>by
      have su:=HU hu (.tup [.str P1.2.1,eV (JM lo sz P1.2).2.1,eV (JM lo sz P1.2).2.2]);have eu:(HI H3 u (.tup [.str P1.2.1,eV (JM lo sz P1.2).2.1,eV (JM lo sz P1.2).2.2])) u=some (.tup [.str P1.2.1,eV (JM lo sz P1.2).2.1,eV (JM lo sz P1.2).2.2]):=HK;generalize HI H3 u (.tup [.str P1.2.1,eV (JM lo sz P1.2).2.1,eV (JM lo sz P1.2).2.2])=H4 at*;have e4:=su _ _ e3;have tl:=K0 (o:= .lst (us.map (λq=>V.ref q.1)++[V.ref u])) e4;refine⟨pr,_,_,rfl,rfl,e4,(by rw[Ab];exact IQ (by omega)),⟨_,_,_,_,rfl⟩,⟨Ji (s3.trans su) (s1.free hpr),(t3.trans su.tups).trans tl,by rw[Ij npf.symm];exact su _ _ f3⟩,us++[(u,JM lo sz P1.2)],by rw[HK,Ah];rfl,by rw[Ah,u3,IB eP,Ah];rfl,λq hq=>?_⟩;rcases Aw.mp hq with z | z
      · exact tl _ _ (su _ _ (g3 q z))
      · rw[Ae.mp z];exact tl _ _ eu
     obtain⟨pa,f',a,b⟩:=P1;dsimp only at*;unfold JM at fin;dsimp only at fin;cases a with
     | none=>
      refine⟨_,rfl,_,rfl,HP ⟨_,rfl,t,_,0,_,rfl,rfl,SqT.of ht3,rfl,?_⟩⟩;refine⟨_,rfl,.inl ⟨rfl,_,SqL.of e3⟩,_,rfl,_,rfl,?_⟩;cases b with
      | none=>exact⟨_,rfl,_,rfl,HP ⟨_,rfl,_,rfl,t,_,1,_,rfl,rfl,SqT.of ht3,rfl,_,_,rfl,rfl,_,_,rfl,rfl,Li,λu hu=>fin _ u hu⟩⟩
      | some h=>exact⟨_,rfl,_,rfl,HR ⟨_,rfl,Li,λu hu=>fin _ u hu⟩⟩
     | some a=>
      refine⟨_,rfl,_,rfl,HR ⟨_,rfl,?_⟩⟩;refine⟨_,rfl,.inl ⟨rfl,_,SqL.of e3⟩,_,rfl,_,rfl,?_⟩;cases b with
      | none=>exact⟨_,rfl,_,rfl,HP ⟨_,rfl,_,rfl,t,_,1,_,rfl,rfl,SqT.of ht3,rfl,_,_,rfl,rfl,_,_,rfl,rfl,Li,λu hu=>fin _ u hu⟩⟩
      | some h=>exact⟨_,rfl,_,rfl,HR ⟨_,rfl,Li,λu hu=>fin _ u hu⟩⟩
   · rintro σ H3 ⟨⟨y5',y6',y7',y8',rfl⟩,⟨s3,t3,f3⟩,us,e3,u3,g3⟩;rw[Ab,Ar (by simp),hps] at u3;refine⟨_,rfl,.inl ⟨rfl,_,SqL.of f3⟩,_,rfl,pr,_,rfl,.inl ⟨SqL.of e3,λu hu=>?_⟩⟩;have su:=HU hu (.tup (us.map λx=>V.ref x.1));have W4:WishAt (HI H3 u (.tup (us.map λx=>V.ref x.1))) u (K9 lo sz X1.2):=⟨us,u3,HK,λx hx=>su _ _ (g3 x hx)⟩;have f4:=su _ _ f3;have g4:∀q∈qs,WishAt (HI H3 u (.tup (us.map λx=>V.ref x.1))) q.1 q.2:=λq hq=>((g2 q hq).keep t3).same su;generalize HI H3 u (.tup (us.map λx=>V.ref x.1))=H4 at*;have tl:=K0 (o:= .lst (qs.map (λq=>V.ref q.1)++[V.ref u])) f4;refine⟨fr,_,_,rfl,rfl,f4,(by rw[Ab];exact IQ (by omega)),⟨_,_,_,_,_,_,rfl⟩,Ji (s3.trans su) hfr,qs++[(u,K9 lo sz X1.2)],by rw[HK,Ah];rfl,by rw[Ah,v1,IB eX,Ah];rfl,λq hq=>?_⟩;rcases Aw.mp hq with z | z
     · exact(g4 q z).keep tl
     · rw[Ae.mp z];exact W4.keep tl
 · rintro σ H1 ⟨⟨y3,y4,y5,y6,y7,y8,rfl⟩,s1,qs,e1,v1,g1⟩;rw[Ab,Ar (by simp)] at v1;have lqs:qs.length=ws.length:=by have:=congrArg Bi v1;simpa using this
   refine⟨_,rfl,q fr qs H1 s1 hfr ⟨e1,λx hx=>⟨g1 x hx,?_⟩,by omega⟩ v1⟩;have:x.2∈qs.map (·.2):=A3 hx;rw[v1] at this;obtain⟨y,hy,e⟩:=Ay.mp this;obtain⟨z,hz,rfl⟩:=Ay.mp hy;rw[←e];exact(RA z1 w1 (hw.ok z hz).2 (gr z hz)).1
theorem zdS(F:Fun K "_law_fields_of" "_law_fields_of" Qf f fd)  :FnOk P w K mg base Ir 1 f fd ["wishes"] (Ts):=by
 refine F.ok GM (λvs H Q E h=>?_) (λcdv A outer s H vs Q E hr h=>?_)
 · obtain⟨l,ws,rfl,hw,l7,l6,q⟩:=h;rfl
 obtain⟨l,ws,rfl,hw,l7,l6,q⟩:=h;refine⟨_,(HQ (Ig (i:=1) GM.nd rfl (Or.inl rfl) WX)
  (HQ (JC Bh rfl (Jh (pv 0)) (H_ (i:=2) GM.nd rfl (Or.inl rfl)) (HW (JC Bh rfl (Kn (pv 2)) (JI rfl (Iq (H_ (i:=3) GM.nd rfl (Or.inl rfl)) (Iq (H_ (i:=4) GM.nd rfl (Or.inl rfl)) (Iq (H_ (i:=5) GM.nd rfl (Or.inl rfl)) Jr)))) (HW (RO (KL hr) (pv 1) (pv 3) Kj rfl)))))
  (HW (Ik (Iy PY rfl B.sorted_ MI (HG (Lr (Y1 rfl) rfl B.list_ M6 (HG (pv 1) HH)) HH)))))),?_⟩
 refine λd hd=>?_;have s0:=HU hd (.dK []);have e0:(HI H d (.dK [])) d=some (.dK (J0 [])):=HK;generalize HI H d (.dK [])=H0 at*;have seen:∀i,∀f,(∃x∈(ws.map (·.2)).take (i+1),f∈x.map (·.1))↔(∃x∈(ws.map (·.2)).take i,f∈x.map (·.1))∨∃x,(ws.map (·.2))[i]?=some x∧f∈x.map (·.1):=λi f=>by
  cases e:(ws.map (·.2))[i]? with
  | none=> have hl:(ws.map (·.2)).length≤i:=List.getElem?_eq_none_iff.mp e;rw[Ar hl,Ar (by omega)];exact⟨.inl,λh=>h.elim id λ⟨x,hx,_⟩=>by cases hx⟩
  | some y=>
   rw[IB e];constructor
   · rintro⟨x,hx,hf⟩;rcases Aw.mp hx with z | z
     · exact .inl ⟨x,z,hf⟩
     · rw[Ae.mp z] at hf;exact .inr ⟨y,rfl,hf⟩
   · rintro(⟨x,hx,hf⟩ | ⟨x,hx,hf⟩)
     · exact⟨x,Bn _ hx,hf⟩
     · cases hx;exact⟨y,An _ (by simp),hf⟩
 refine⟨_,rfl,l,rfl,⟨_,SqL.of (s0 _ _ hw.at')⟩,Lv (K:=K) (a:=l) (xs:=ws.map λx=>V.ref x.1) (λi σ H'=>(∃y2 y3 y4 y5,σ=[some (.ref l),some (.ref d),y2,y3,y4,y5])∧Same H H'∧∃bs:List (Str×V),H' d=some (.dK (J0 bs))∧bs.length≤6*i∧∀f,f∈bs.map (·.1)↔∃x∈(ws.map (·.2)).take i,f∈x.map (·.1)) ⟨⟨none,none,none,none,rfl⟩,s0,[],e0,Ag _,λf=>by simp⟩ (λi σ H' _ ⟨_,z,_⟩=>SqL.of (z _ _ hw.at')) ?_ ?_⟩
 · rintro i x σ H1 hx ⟨⟨y2,y3,y4,y5,rfl⟩,s1,bs,e1,l1,m1⟩;obtain⟨X1,ew,rfl⟩:=Ih hx;have mX:=Aj ew;have li:=(Al.mp ew).1;have eX:(ws.map (·.2))[i]?=some X1.2:=by rw[Af,ew];rfl
   obtain⟨ps,hps,hA,hP⟩:=((hw.ok X1 mX).1).same s1;have lp:ps.length≤6:=by have:=l6 X1 mX;rw[←hps,Ab] at this;exact this
   have nA:X1.1≠d:=Ki hA e1 (by intro z;cases z);have nP:∀p∈ps,p.1≠d:=λp hp=>Ki (hP p hp) e1 (by intro z;cases z);refine⟨_,rfl,X1.1,rfl,⟨_,SqT.of hA⟩,M8 (K:=K) (a:=X1.1) (xs:=ps.map λp=>V.ref p.1) (λj σ H'=>(∃y3 y4 y5,σ=[some (.ref l),some (.ref d),some (.ref X1.1),y3,y4,y5])∧(Same H H'∧∀c o,H1 c=some o→c≠d→H' c=some o)∧∃bs:List (Str×V),H' d=some (.dK (J0 bs))∧bs.length≤6*i+j∧∀f,f∈bs.map (·.1)↔(∃x∈(ws.map (·.2)).take i,f∈x.map (·.1))∨f∈((ps.map (·.2)).take j).map (·.1)) ⟨⟨_,_,_,rfl⟩,⟨s1,λ_ _ z _=>z⟩,bs,e1,by omega,λf=>by rw[m1];simp⟩ (λi σ H' _ ⟨_,⟨_,z⟩,_⟩=>SqT.of (z _ _ hA nA)) ?_ ?_⟩
   · rintro j y σ H2 hy ⟨⟨y3',y4',y5',rfl⟩,⟨s2,k2⟩,bs2,e2,l2,m2⟩;obtain⟨P1,ep,rfl⟩:=Ih hy;have hm:=Aj ep;have lj:=(Al.mp ep).1;have eP:(ps.map (·.2))[j]?=some P1.2:=by rw[Af,ep];rfl
     refine⟨P1.1,_,rfl,SqT.of (k2 _ _ (hP P1 hm) (nP P1 hm)),rfl,_,_,rfl,_,_,rfl,_,_,rfl,rfl,?_⟩;refine⟨_,rfl,_,rfl,d,_,rfl,DPut.k (k:=Sum.inr P1.2.1) e2 (IQ (by unfold J0;rw[Ab];omega)),⟨_,_,_,rfl⟩,⟨Ji s2 hd,λc o h cd=>by rw[Ij cd];exact k2 c o h cd⟩,Jj bs2 P1.2.1 (V.bl true),by rw[HK,NV],?_,λf=>?_⟩
     · have:=Sz bs2 P1.2.1 (V.bl true);omega
     · rw[Xa,m2,IB eP,Ah,Aw];constructor
       · rintro((h | h) | h)
         · exact .inl h
         · exact .inr (.inl h)
         · exact .inr (.inr (by rw[h];simp))
       · rintro(h | h | h)
         · exact .inl (.inl h)
         · exact .inl (.inr h)
         · exact .inr (by simpa using h)
   · rintro σ H2 ⟨⟨y3',y4',y5',rfl⟩,⟨s2,k2⟩,bs2,e2,l2,m2⟩;rw[Ab] at l2;refine⟨⟨_,_,_,_,rfl⟩,s2,bs2,e2,by omega,λf=>?_⟩;have e6:(ps.map (·.2)).take (ps.map λp=>V.ref p.1).length=X1.2:=by rw[Ab,Ar (by simp),hps]
     rw[m2,seen i f,e6];constructor
     · rintro(h | h)
       · exact .inl h
       · exact .inr ⟨X1.2,eX,h⟩
     · rintro(h | ⟨x,hx,h⟩)
       · exact .inl h
       · rw[eX] at hx;cases hx;exact .inr h
 · rintro σ H1 ⟨⟨y2,y3,y4,y5,rfl⟩,s1,bs,e1,l1,m1⟩;rw[Ab] at l1;have et:(ws.map (·.2)).take (ws.map λx=>V.ref x.1).length=ws.map (·.2):=Ar (by simp);rw[et] at m1;refine⟨_,rfl,d,_,bs.map (·.1),rfl,e1,SV bs,λnd kl hkl=>?_⟩;have s2:=HU hkl (.lst ((bs.map (·.1)).map V.str));refine⟨kl,_,rfl,SqL.of HK,by rw[Ab];omega,λz ms mp mso hz=>?_⟩;have s3:=HU hz (.lst (ms.map V.str));refine q z ms _ (s1.trans (s2.trans s3)) (s1.free (s2.free hz)) HK ⟨MC mso (mp.nodup_iff.mpr nd),λf=>(mp.mem_iff).trans (m1 f)⟩ ?_;rw[mp.length_eq,Ab];omega
theorem Z_(F:Fun K "_law_endless" "_law_endless" ML f fd)  :FnOk P w K mg base Ir 1 f fd ["wish","told"] (Tr):=by
 refine F.ok GN (λvs H Q E h=>?_) (λcdv A outer s H vs Q E hr h=>?_)
 · obtain⟨a,l,w',fs,rfl,hw,wok,hl,l3,q⟩:=h;rfl
 obtain⟨a,l,w',fs,rfl,hw,wok,hl,l3,q⟩:=h;refine⟨_,(HQ (Ig (i:=2) GN.nd rfl (Or.inr rfl) (Jq (N':=["field","low","high"]) (js:=[none,none,none]) rfl (IW (N:=["wish","told","there"]) (outer:=HX ML) (by decide+kernel)) (Kn (pv 0)) (λ_ _ _ _ _=>(Mi K rfl (n:=3) rfl (Iq (H_ (i:=0) Kd rfl (Or.inl rfl)) (Iq (H_ (i:=1) Kd rfl (Or.inl rfl)) (Iq (H_ (i:=2) Kd rfl (Or.inl rfl)) Jr))))) (λ_ _ _ _ _=>Kt (PW.pt (Ln (J7 (KR (pv 1))) (Mj (J7 (KR (pv 2))))))) (λ_ _ _ _ _=>(pv 0))))
  (HW (Ik (Mh (OF (Ly hr)) (Jq (N':=["field","there"]) (js:=[none,some 2]) rfl (IW (N:=["wish","told","there"]) (outer:=HX ML) (by decide+kernel)) (Jh (pv 1)) (λ_ _ _ _ _=>(H_ (i:=0) Nk rfl (Or.inl rfl))) (λ_ _ _ _ _=>Kt (IA (TK K rfl) (pv 0) (pv 1) (by with_unfolding_all rfl))) (λ_ _ _ _ _=>(pv 0))) (Jc HH) (I0 _))))),?_⟩
 obtain⟨ps,rfl,hA,hP⟩:=hw;have lp:ps.length≤100:=by have:=wok.len;rw[Ab] at this;exact this
 refine⟨_,rfl,a,rfl,⟨_,SqT.of hA⟩,λtr htr=>?_⟩;refine NJ (xs:=ps.map λp=>V.ref p.1) (λi σ' ys H'=>(∃v1 v2 v3,σ'=[v1,v2,v3])∧Same H H'∧H' tr=some (.lst ys)∧ys=((((ps.map (·.2)).take i).filter λp=>Iv p.2).map (·.1)).map V.str) ⟨⟨none,none,none,rfl⟩,HU htr _,HK,rfl⟩ ?_ ?_ ?_
 · rintro i σ' ys H' hi ⟨_,s,h1,h3⟩;refine⟨s.seqT (SqT.of hA),h1,?_⟩;rw[h3,Ab,Ab];have:=Bk (λp:WP=>Iv p.2) ((ps.map (·.2)).take i);rw[A7,Ab] at this;exact IQ (by omega)
 · rintro i x σ' ys H' N hx ⟨⟨v1,v2,v3,rfl⟩,s,h1,h3⟩ hN;obtain⟨P1,e1,rfl⟩:=Ih hx;have hm:=Aj e1;have ew:(ps.map (·.2))[i]?=some P1.2:=by rw[Af,e1];rfl
   refine⟨P1.1,_,rfl,SqT.of (s _ _ (hP P1 hm)),rfl,_,_,rfl,_,_,rfl,_,_,rfl,rfl,?_⟩;have st:((((ps.map (·.2)).take (i+1)).filter λp=>Iv p.2).map (·.1)).map V.str=((((ps.map (·.2)).take i).filter λp=>Iv p.2).map (·.1)).map V.str++(if Iv P1.2.2=true then [V.str P1.2.1] else []):=by
    rw[IB ew,BF,Ah,Ah,BV]
    split<;>rfl
   obtain⟨pa,f',lo,hi⟩:=P1;dsimp only at*;cases lo with
   | none=> rw[show Iv (none,hi)=false from rfl,if_neg As,BY] at st;exact⟨_,rfl,_,rfl,HR (HR (hN _ _ _ ⟨⟨_,_,_,rfl⟩,s,h1,by rw[h3,st]⟩))⟩
   | some l'=>
    cases hi with
    | none=> rw[show Iv (some l',none)=false from rfl,if_neg As,BY] at st;exact⟨_,rfl,_,rfl,HP ⟨_,rfl,_,rfl,HR (hN _ _ _ ⟨⟨_,_,_,rfl⟩,s,h1,by rw[h3,st]⟩)⟩⟩
    | some h'=> rw[show Iv (some l',some h')=true from rfl,if_pos rfl] at st;exact⟨_,rfl,_,rfl,HP ⟨_,rfl,_,rfl,HP ⟨_,rfl,h1,hN _ _ _ ⟨⟨_,_,_,rfl⟩,Ji s htr,HK,by rw[h3,st]⟩⟩⟩⟩
 rintro σ' ys H1 ⟨_,s1,h1,rfl⟩;rw[Ab,Ar (by simp)] at h1;generalize hth:(((ps.map (·.2)).filter λp=>Iv p.2).map (·.1))=th at*;have memT:∀f,f∈th↔Iv ((HZ (ps.map (·.2)) f).getD (none,none))=true:=λf=>by
  rw[←hth];constructor
  · intro h;obtain⟨p,hp,rfl⟩:=Ay.mp h;obtain⟨hp,b⟩:=C7.mp hp;rw[KG wok.asc hp];exact b
  · intro h;rcases Pj (w:=ps.map (·.2)) (f:=f) with⟨p,hp,rfl,e⟩ | e
    · rw[e] at h;exact Ay.mpr ⟨p,C7.mpr ⟨hp,h⟩,rfl⟩
    · rw[e] at h;cases h
 have hl1:=s1 _ _ hl;refine⟨_,rfl,l,rfl,⟨_,SqL.of hl1⟩,λp hp=>?_⟩;refine JR (xs:=fs.map V.str) (λi σ' ys H'=>(∃v,σ'=[v,some (.ref tr)])∧Same H1 H'∧H' p=some (.lst ys)∧ys=((fs.take i).filter λf=>!decide (f∈th)).map V.str) ⟨⟨none,rfl⟩,HU hp _,HK,rfl⟩ ?_ ?_ ?_
 · rintro i σ' ys H' hi ⟨_,s,c1,c2⟩;refine⟨s.seq (SqL.of hl1),c1,?_⟩;rw[c2,Ab];have:=Bk (λf=>!decide (f∈th)) (fs.take i);rw[A7] at this;exact IQ (by omega)
 · rintro i x σ' ys H2 N hx ⟨⟨v,rfl⟩,s2,c1,c2⟩ hN;rw[Af] at hx;cases e1:fs[i]? with
   | none=>rw[e1] at hx;cases hx
   | some fi=>
    rw[e1] at hx;obtain rfl:V.str fi=x:=Az hx;refine⟨_,rfl,_,rfl,tr,_,rfl,.inl (SqL.of (s2 _ _ h1)),rfl,NP th,_,rfl,?_⟩;rw[if_pos rfl,MA];have st:((fs.take (i+1)).filter λf=>!decide (f∈th)).map V.str=((fs.take i).filter λf=>!decide (f∈th)).map V.str++(if(!decide (fi∈th))=true then [V.str fi] else []):=by
     rw[IB e1,BF,Ah,BV]
     split<;>rfl
    cases c:decide (fi∈th) with
    | true=> rw[c] at st;exact HR (hN _ _ _ ⟨⟨_,rfl⟩,s2,c1,by rw[c2,st];simp⟩)
    | false=> rw[c] at st;exact HP ⟨_,rfl,c1,hN _ _ _ ⟨⟨_,rfl⟩,Ji s2 hp,HK,by rw[c2,st];simp⟩⟩
 · rintro σ' ys H2 ⟨_,s2,c1,rfl⟩;rw[Ab,Bb] at c1;refine⟨JE,λep hep=>?_⟩;have s3:=HU hep (.lst []);refine⟨p,ep,_,rfl,rfl,s3 _ _ c1,HK,?_⟩;have e:(!((fs.filter λf=>!decide (f∈th)).map V.str).isEmpty)=!Ib (IK fs (ps.map (·.2))):=by
    rw[Fn];congr 1;rw[Bt,Fo,DR];unfold Ib IK;rw[DA,A9];constructor
    · intro h f hf;have:=h f hf;exact(memT f).mp (by simpa using this)
    · intro h f hf;have:=(memT f).mpr (h f hf);simp[this]
   rw[e];exact q _ (s1.trans (s2.trans s3))
theorem Zt(F:Fun K "_law_many" "_law_many" Lz f fd)(Hu:Γ36 P w K mg base):FnOk P w K mg base Ir 3 f fd ["wishes","told","grid","wide"] (Sh):=by
 refine F.ok GO (λvs H Q E h=>?_) (λcdv A outer s H vs Q E hr h=>?_)
 · obtain⟨wl,a,t,ws,fs,lo,sz,wide,rfl,hw,l7,ha,tf,ht,z1,z2,w1,w2,q⟩:=h;rfl
 obtain⟨wl,a,t,ws,fs,lo,sz,wide,rfl,hw,l7,ha,tf,ht,z1,z2,w1,w2,q⟩:=h;refine⟨_,(HQ (MK (N':=["k","grid"]) (js:=[none,some 2]) (i:=4) GO.nd rfl (Or.inl rfl) rfl (IW (N:=["wishes","told","grid","wide","numbers","found","size","field","longer","piece"]) (outer:=HX Lz) (by decide+kernel)) (Xu rfl B.range_ (HG (Ia KB HL HL) (HG (Ia Kz HL (pv 3)) HH))) (λ_ _ _ _ _=>(H_ (i:=0) Nj rfl (Or.inl rfl))) (λ_ _ _ _ _=>Jy) (λ_ _ _ _ _=>(Ia Jf (IC (Mn K rfl) (pv 1) HL (λ_ _=>rfl)) (Ia Kz (IC (Mn K rfl) (pv 1) HL (λ_ _=>rfl)) (pv 0)))))
  (HQ (Ig (i:=5) GO.nd rfl (Or.inl rfl) (Jc (HG (IX HH) HH)))
  (HQ (Ig (i:=6) GO.nd rfl (Or.inl rfl) HL)
  (HQ (JC Bh rfl (Jh (pv 1)) (H_ (i:=7) GO.nd rfl (Or.inr rfl)) (HQ (Ig (i:=8) GO.nd rfl (Or.inl rfl) (Jc HH))
  (HQ (JC Bh rfl (Jh (pv 5)) (H_ (i:=9) GO.nd rfl (Or.inr rfl)) (HW (Ig (i:=8) GO.nd rfl (Or.inl rfl) (Ia OD (pv 8) (Jq (N':=["number","field","piece"]) (js:=[none,some 7,some 9]) rfl (IW (N:=["wishes","told","grid","wide","numbers","found","size","field","longer","piece"]) (outer:=HX Lz) (by decide+kernel)) (Jh (pv 4)) (λ_ _ _ _ _=>(H_ (i:=0) Ni rfl (Or.inl rfl))) (λ_ _ _ _ _=>Jy) (λ_ _ _ _ _=>(Ia M9 (pv 2) (IX (HG (IX (HG (pv 1) (HG (pv 0) HH))) HH)))))))))
  (HQ (Ig (i:=5) GO.nd rfl (Or.inl rfl) (pv 8))
  (HW (Ig (i:=6) GO.nd rfl (Or.inl rfl) (Ia Kz (pv 6) (IC JA (pv 2) HL (λ_ _=>rfl)))))))))
  (HW (Ik (Ia Kz (pv 6) (Iy JQ rfl B.len_ J9 (HG (Jq (N':=["piece","wishes"]) (js:=[none,some 0]) rfl (IW (N:=["wishes","told","grid","wide","numbers","found","size","field","longer","piece"]) (outer:=HX Lz) (by decide+kernel)) (Jh (pv 5)) (λ_ _ _ _ _=>(H_ (i:=0) Nh rfl (Or.inr rfl))) (λ_ _ _ _ _=>Kt (J_ (Iy (WE K rfl rfl) rfl B.any_ U9 (HG (Jq (N':=["wish","piece"]) (js:=[none,some 0]) rfl (IW (N:=["piece","wishes"]) (outer:=MW (HX Lz) (Vg Lz 4)) (by decide+kernel)) (Pb K rfl (pv 1)) (λ_ _ _ _ _=>(H_ (i:=0) Ng rfl (Or.inl rfl))) (λ_ _ _ _ _=>Jy) (λ_ _ _ _ _=>(Ie Hu (hr.mono (by decide)) rfl (HG (pv 0) (HG (pv 1) HH))))) HH)))) (λ_ _ _ _ _=>(pv 0))) HH))))))))),?_⟩
 have lf:=tf.len;have fok:=tf.ok;have fasc:=tf.asc;refine⟨_,_,rfl,rfl,_,rfl,_,_,rfl,rfl,.inl ⟨by decide,by decide⟩,_,_,rfl,⟨by decide,by decide,by omega,by omega⟩,λp hp=>?_⟩;have s0:=HU hp (.lst []);refine SX (lo:=0 - 1) (n:=(2*wide - (0 - 1)).toNat) (λi σ' ys H'=>(∃v,σ'=[v,some (.ref t)])∧Same H H'∧H' p=some (.lst ys)∧∃ns:List Int,ys=ns.map V.int∧(ns.length=i∧ns=Jv lo sz i)) ⟨⟨none,rfl⟩,s0,HK,[],rfl,rfl,rfl⟩ ?_ ?_ ?_
 · rintro i σ' ys H' hi ⟨_,_,h1,ns,rfl,h2⟩;exact⟨h1,by rw[Ab,h2.1];exact IQ (by omega)⟩
 · rintro i σ' ys H' N hi ⟨⟨v,rfl⟩,s,h1,ns,rfl,h2⟩ hN;have e1:=s _ _ ht;refine⟨_,rfl,t,_,0,_,rfl,rfl,SqT.of e1,rfl,_,rfl,t,_,1,_,rfl,rfl,SqT.of e1,rfl,_,rfl,_,_,rfl,rfl,.inl ⟨by omega,by omega⟩,_,_,rfl,rfl,h1,hN _ _ _ ⟨⟨_,rfl⟩,Ji s hp,HK,ns++[_],by rw[Ah];rfl,⟨by rw[A5,h2.1];rfl,by rw[h2.2];unfold Jv;rw[CA,Ah];rfl⟩⟩⟩
 rintro σ' ys H1 ⟨_,s1,h1,ns,rfl,ln,lnN⟩;have ln':ns.length≤19:=by omega
 refine⟨U6,λe0 he0=>?_⟩;have s2:=HU he0 (.tup []);have e2:(HI H1 e0 (.tup [])) e0=some (.tup []):=HK;have k2:=s2 _ _ h1;generalize HI H1 e0 (.tup [])=H2 at*;refine⟨Kh,λf0 hf0=>?_⟩;have s3:=HU hf0 (.lst [V.ref e0]);have e3:(HI H2 f0 (.lst [V.ref e0])) f0=some (.lst [V.ref e0]):=HK;have e2':=s3 _ _ e2;have k3:=s3 _ _ k2;have S3:=s1.trans (s2.trans s3);generalize HI H2 f0 (.lst [V.ref e0])=H3 at*;have ha3:=S3 _ _ ha;refine⟨_,rfl,a,rfl,⟨_,SqL.of ha3⟩,Lv (K:=K) (a:=a) (xs:=fs.map V.str) (λi σ H'=>(∃(f:Addr)(y5 y6 y7:Option V)(qs:List (Addr×List PP)),σ=[some (.ref wl),some (.ref a),some (.ref t),some (.int wide),some (.ref p),some (.ref f),some (.int (sz^i)),y5,y6,y7]∧H' f=some (.lst (qs.map λq=>V.ref q.1))∧(qs.length≤20^i∧qs.map (·.2)=IM ns (fs.take i))∧∀q∈qs,PieceAt H' q.1 q.2∧(q.2.map (·.1)).Sublist (fs.take i))∧Same H3 H') ⟨⟨f0,none,none,none,[(e0,[])],by rw[Int.pow_zero];rfl,e3,⟨by simp,rfl⟩,λq hq=>by rw[Ae.mp hq];exact⟨⟨[],rfl,e2',λx hx=>by simp at hx⟩,by simp⟩⟩,Same.refl _⟩ (λi σ H' _ ⟨_,z⟩=>SqL.of (z _ _ ha3)) ?_ ?_⟩
 · rintro i x σ H4 hx ⟨⟨f,y5,y6,y7,qs,rfl,e4,⟨l4,x4⟩,g4⟩,s4⟩;rw[Af] at hx;cases ef:fs[i]? with
   | none=>rw[ef] at hx;cases hx
   | some fi=>
    rw[ef] at hx;obtain rfl:V.str fi=x:=Az hx;have li:i<3:=by have:=(Al.mp ef).1;omega
    have p20:(20:Nat)^i≤400:=by
     have:i=0∨i=1∨i=2:=by omega
     rcases this with rfl | rfl | rfl<;>decide
    refine⟨JE,λl0 hl0=>?_⟩;have s5:=HU hl0 (.lst []);have e5:(HI H4 l0 (.lst [])) l0=some (.lst []):=HK;have f5:=s5 _ _ e4;have S5:=s4.trans s5;have g5:∀q∈qs,PieceAt (HI H4 l0 (.lst [])) q.1 q.2∧(q.2.map (·.1)).Sublist (fs.take i):=λq hq=>⟨(g4 q hq).1.same s5,(g4 q hq).2⟩;generalize HI H4 l0 (.lst [])=H5 at*;have sub1:∀q∈qs,(q.2.map (·.1)).Sublist (fs.take (i+1)):=λq hq=>(g4 q hq).2.trans (Dl (by omega));refine⟨_,rfl,f,rfl,⟨_,SqL.of f5⟩,Lv (K:=K) (a:=f) (xs:=qs.map λq=>V.ref q.1) (λj σ H'=>(∃(l:Addr)(y7:Option V)(us:List (Addr×List PP)),σ=[some (.ref wl),some (.ref a),some (.ref t),some (.int wide),some (.ref p),some (.ref f),some (.int (sz^i)),some (.str fi),some (.ref l),y7]∧H' l=some (.lst (us.map λq=>V.ref q.1))∧(us.length≤20*j∧us.map (·.2)=((qs.map (·.2)).take j).flatMap λp=>ns.map λn=>p++[(fi,n)])∧∀q∈us,PieceAt H' q.1 q.2∧(q.2.map (·.1)).Sublist (fs.take (i+1)))∧Same H5 H') ⟨⟨l0,_,[],rfl,e5,⟨by simp,by simp⟩,λq hq=>by simp at hq⟩,Same.refl _⟩ (λj σ H' _ ⟨_,z⟩=>SqL.of (z _ _ f5)) ?_ ?_⟩
    · rintro j x σ H6 hx ⟨⟨l,y7',us,rfl,e6,⟨l6,x6⟩,g6⟩,s6⟩;obtain⟨q0,eq,rfl⟩:=Ih hx;have hq0:=Aj eq;have lj:j<400:=by have:=(Al.mp eq).1;omega
      have k6:=s6 _ _ (S5 _ _ k3);obtain⟨cs,hcs,hC,hD⟩:=(g5 q0 hq0).1.same s6;have sq0:=(g5 q0 hq0).2;have lc:cs.length≤3:=by have h1:=sq0.length_le;rw[←hcs] at h1;simp at h1;omega
      refine⟨_,rfl,_,rfl,p,rfl,⟨_,SqL.of k6⟩,λm hm=>?_⟩;refine JR (xs:=ns.map V.int) (λk σ' ys H'=>(∃v,σ'=[v,some (.str fi),some (.ref q0.1)])∧Same H6 H'∧H' m=some (.lst ys)∧∃vs:List (Addr×List PP),ys=vs.map (λq=>V.ref q.1)∧(vs.length=k∧vs.map (·.2)=(ns.take k).map λn=>q0.2++[(fi,n)])∧∀q∈vs,PieceAt H' q.1 q.2∧(q.2.map (·.1)).Sublist (fs.take (i+1))) ⟨⟨none,rfl⟩,HU hm _,HK,[],rfl,⟨rfl,rfl⟩,λq hq=>by simp at hq⟩ ?_ ?_ ?_
      · rintro k σ' ys H' hk ⟨_,s,h1,vs,rfl,h2,_⟩;rw[Ab] at hk;exact⟨s.seq (SqL.of k6),h1,by rw[Ab,h2.1];exact IQ (by omega)⟩
      · rintro k y σ' ys H7 N hy ⟨⟨v,rfl⟩,s7,h7,vs,rfl,v7,g7⟩ hN;rw[Af] at hy;cases en:ns[k]? with
        | none=>rw[en] at hy;cases hy
        | some nk=>
         rw[en] at hy;obtain rfl:V.int nk=y:=Az hy;refine⟨_,rfl,_,rfl,_,rfl,Jk,λc1 hc1=>?_⟩;have s8:=HU hc1 (.tup [V.str fi,V.int nk]);have e8:(HI H7 c1 (.tup [V.str fi,V.int nk])) c1=some (.tup [V.str fi,V.int nk]):=HK;generalize HI H7 c1 (.tup [V.str fi,V.int nk])=H8 at*;refine⟨Kh,λc2 hc2=>?_⟩;have s9:=HU hc2 (.tup [V.ref c1]);have e9:(HI H8 c2 (.tup [V.ref c1])) c2=some (.tup [V.ref c1]):=HK;generalize HI H8 c2 (.tup [V.ref c1])=H9 at*;have t9:=s7.trans (s8.trans s9);refine⟨q0.1,c2,_,_,rfl,rfl,t9 _ _ hC,e9,(by rw[Ab];exact LD (by simp;omega)),λc3 H10 s10 e10=>?_⟩;have s810:=s8.trans (s9.trans s10);have h10:=s810 _ _ h7;have tl:=K0 (o:= .lst (vs.map (λq=>V.ref q.1)++[V.ref c3])) h10;refine⟨h10,hN _ _ _ ⟨⟨_,rfl⟩,Ji (s7.trans s810) hm,HK,vs++[(c3,q0.2++[(fi,nk)])],by rw[Ah];rfl,⟨by rw[A5,v7.1];rfl,by rw[Ah,v7.2,IB en,Ah];rfl⟩,λq hq=>?_⟩⟩;rcases Aw.mp hq with z | z
         · exact⟨((g7 q z).1.same s810).keep tl,(g7 q z).2⟩
         · rw[Ae.mp z];refine⟨⟨cs++[(c1,fi,nk)],by rw[Ah,hcs];rfl,?_,λx hx=>?_⟩,?_⟩
           · exact tl _ _ (by rw[e10,Ah];rfl)
           · rcases Aw.mp hx with y | y
             · exact tl _ _ (s10 _ _ (t9 _ _ (hD x y)))
             · rw[Ae.mp y];exact tl _ _ (s10 _ _ (s9 _ _ e8))
           · rw[Ah,IB ef];exact sq0.append (EY _)
      · rintro σ' ys H7 ⟨_,s7,h7,vs,rfl,v7,g7⟩;rw[Ab] at v7;obtain⟨v7,z7⟩:=v7;rw[Bb] at z7;have ej:(qs.map (·.2))[j]?=some q0.2:=by rw[Af,eq];rfl
        refine⟨l,m,_,_,rfl,rfl,s7 _ _ e6,h7,(by rw[Ab,Ab];exact AL (show us.length+vs.length≤10000 by omega) (by decide)),λr hr'=>?_⟩;have s8:=HU hr' (.lst (us.map (λq=>V.ref q.1)++vs.map λq=>V.ref q.1));refine⟨⟨r,_,us++vs,rfl,by rw[HK,Ah],⟨by rw[A5];omega,by rw[Ah,x6,z7,IB ej,Dd];simp⟩,λq hq=>?_⟩,s6.trans (s7.trans s8)⟩;rcases Aw.mp hq with z | z
        · exact⟨(g6 q z).1.same (s7.trans s8),(g6 q z).2⟩
        · exact⟨(g7 q z).1.same s8,(g7 q z).2⟩
    · rintro σ H6 ⟨⟨l,y7',us,rfl,e6,⟨l6,x6⟩,g6⟩,s6⟩;rw[Ab] at l6 x6;refine⟨_,rfl,_,rfl,_,rfl,t,_,1,_,rfl,rfl,SqT.of (s6 _ _ (S5 _ _ (S3 _ _ ht))),rfl,_,_,rfl,rfl,.inr ⟨by omega,by omega⟩,⟨l,_,_,_,us,by rw[Int.pow_succ];rfl,e6,⟨?_,?_⟩,g6⟩,S5.trans s6⟩
      · rw[Nat.pow_succ];omega
      · rw[x6,show(qs.map (·.2)).take qs.length=qs.map (·.2) from Ar (by simp),x4,IB ef,P7]
 · rintro σ H4 ⟨⟨f,y5,y6,y7,qs,rfl,e4,⟨l4,x4⟩,g4⟩,s4⟩;rw[Ab] at l4 g4 x4;rw[Ar (Ag _),lnN] at x4;rw[Ar (Ag _)] at g4;have l8:qs.length≤8000:=by
    have:(20:Nat)^fs.length≤20^3:=Ds (by decide) lf;omega
   have pok:∀q∈qs,POk q.2:=λq hq=>by obtain⟨_,sub⟩:=g4 q hq;refine⟨?_,λx hx=>fok _ (sub.subset (A3 hx)),fasc.sublist sub⟩;have:=sub.length_le;rw[Ab] at this;omega
   have T4:=S3.trans s4;have hw4:=hw.same T4;rw[Ab];refine⟨_,rfl,_,rfl,f,rfl,⟨_,SqL.of e4⟩,λcr hcr=>?_⟩;refine JR (xs:=qs.map λq=>V.ref q.1) (λi σ' ys H'=>(∃v,σ'=[v,some (.ref wl)])∧Same H4 H'∧H' cr=some (.lst ys)∧ys=((qs.take i).filter λq=>ws.any λw=>HV w.2 q.2).map λq=>V.ref q.1) ⟨⟨none,rfl⟩,HU hcr _,HK,rfl⟩ ?_ ?_ ?_
   · rintro i σ' ys H' hi ⟨_,s,c1,c2⟩;refine⟨s.seq (SqL.of e4),c1,?_⟩;rw[c2,Ab];have:=Bk (λq:Addr×List PP=>ws.any λw=>HV w.2 q.2) (qs.take i);rw[A7] at this;exact BS (show _≤8000 by omega) (by decide)
   · rintro i x σ' ys H5 N hx ⟨⟨v,rfl⟩,s5,c1,c2⟩ hN;obtain⟨Q1,eq,rfl⟩:=Ih hx;have mq:=Aj eq;have hw5:=hw4.same s5;refine⟨_,rfl,wl,rfl,⟨_,SqL.of hw5.at'⟩,λir hir=>?_⟩;refine JR (xs:=ws.map λx=>V.ref x.1) (λj σ' zs H'=>(∃v,σ'=[v,some (.ref Q1.1)])∧Same H5 H'∧H' ir=some (.lst zs)∧zs=((ws.take j).map λw=>HV w.2 Q1.2).map V.bl) ⟨⟨none,rfl⟩,HU hir _,HK,rfl⟩ ?_ ?_ ?_
     · rintro j σ' zs H' hj ⟨_,s,d1,d2⟩;refine⟨s.seq (SqL.of hw5.at'),d1,?_⟩;rw[d2,Ab,Ab,A7];exact IQ (by omega)
     · rintro j x σ' zs H6 N6 hx ⟨⟨v,rfl⟩,s6,d1,d2⟩ hN6;obtain⟨X1,ew,rfl⟩:=Ih hx;refine⟨_,rfl,_,rfl,X1.1,Q1.1,X1.2,Q1.2,rfl,((hw5.ok X1 (Aj ew)).1).same s6,((g4 Q1 mq).1).same (s5.trans s6),pok Q1 mq,λH7 s7=>⟨s7 _ _ d1,hN6 _ _ _ ⟨⟨_,rfl⟩,Ji (s6.trans s7) hir,HK,?_⟩⟩⟩;rw[d2,IB ew,Ah,Ah];rfl
     · rintro σ' zs H6 ⟨_,s6,d1,rfl⟩;rw[Ab,Bb] at d1;refine⟨ir,_,rfl,SqL.of d1,_,rfl,?_⟩;have ea:(ws.map λw=>HV w.2 Q1.2).any id=ws.any λw=>HV w.2 Q1.2:=by rw[DE];rfl
       rw[ea];have st:((qs.take (i+1)).filter λq=>ws.any λw=>HV w.2 q.2)=((qs.take i).filter λq=>ws.any λw=>HV w.2 q.2)++(if(ws.any λw=>HV w.2 Q1.2)=true then [Q1] else []):=by rw[IB eq,BF];congr 1;rw[BV];rfl
       cases c:(ws.any λw=>HV w.2 Q1.2) with
       | false=> rw[c] at st;exact HR (hN _ _ _ ⟨⟨_,rfl⟩,s5.trans s6,s6 _ _ c1,by rw[c2,st];simp⟩)
       | true=> rw[c] at st;exact HP ⟨_,rfl,s6 _ _ c1,hN _ _ _ ⟨⟨_,rfl⟩,Ji (s5.trans s6) hcr,HK,by rw[c2,st];simp⟩⟩
   · rintro σ' ys H5 ⟨_,s5,c1,rfl⟩;rw[Ab,Bb] at c1;have ec:(qs.filter λq=>ws.any λw=>HV w.2 q.2).length=(IM (Jv lo sz (2*wide+1).toNat) fs).countP (λP=>ws.any λw=>HV w.2 P):=by
      rw[show(2*wide+1).toNat=(2*wide - (0 - 1)).toNat by omega,←x4,Ek,List.countP_eq_length_filter];rfl
     have lcr:(qs.filter λq=>ws.any λw=>HV w.2 q.2).length≤8000:=AL (Bk _ _) l8;refine⟨cr,_,rfl,.inl (SqL.of c1),_,_,rfl,rfl,.inr ⟨by rw[Ab];omega,by rw[Ab];omega⟩,?_⟩;rw[Ab,ec];exact q _ (T4.trans s5)
theorem Zx(F:Fun K "_law_told" "_law_told" Pz f fd)(Hv:Γ25 P w K mg base):FnOk P w K mg base Ir 9 f fd ["wishes","told","pick"] (Rk):=by
 refine F.ok Zj (λvs H Q E h=>?_) (λcdv A outer s H vs Q E hr h=>?_)
 · obtain⟨l,f,pick,ws,ns,fs,lo,sz,m,rfl,hw,l7,tn,hin,tf,hf,fo,gk,gw,q⟩:=h;rfl
 obtain⟨l,f,pick,ws,ns,fs,lo,sz,m,rfl,hw,l7,tn,hin,tf,hf,fo,gk,gw,q⟩:=h;refine⟨_,(HQ (IH (IA Kb (pv 2) HL (I0 _)) (HW (Ik (V6 Hv (hr.mono (by decide)) rfl (HG (pv 0) HH)))) IG)
  (HQ (IH (IA Kb (pv 2) HL (I0 _)) (HW (Ik (RM Hv (hr.mono (by decide)) rfl (HG (pv 0) (HG JB HH))))) IG)
  (HQ (IH (IA Kb (pv 2) HL (I0 _)) (HW (Ik (V7 Hv (hr.mono (by decide)) rfl (HG (pv 0) HH) (OT (pv 1) OH)))) IG)
  (HW (Ik (RM Hv (hr.mono (by decide)) rfl (HG (pv 0) (HG (pv 1) HH)))))))),?_⟩
 refine⟨_,rfl,rfl,_,rfl,Il (λh=>?_) (λh0=>?_)⟩
 · have e:pick=0:=by have:=of_decide_eq_true h;injection this
   exact⟨_,rfl,l,.non,ws,ns,fs,lo,sz,m,rfl,hw,l7,tn,hin,tf,.inl ⟨rfl,fo (.inl e)⟩,gk,gw,q⟩
 refine⟨_,rfl,rfl,_,rfl,Il (λh=>?_) (λh1=>?_)⟩
 · have e:pick=1:=by have:=of_decide_eq_true h;injection this
   exact⟨_,rfl,l,.non,ws,ns,fs,lo,sz,m,rfl,hw,l7,tn,hin,tf,.inl ⟨rfl,fo (.inr e)⟩,gk,gw,q⟩
 refine⟨_,rfl,rfl,_,rfl,Il (λh=>?_) (λh2=>?_)⟩
 · exact⟨_,rfl,_,rfl,l,.ref f,ws,ns,fs,lo,sz,m,rfl,hw,l7,tn,hin,tf,.inr ⟨f,rfl,hf⟩,gk,gw,q⟩
 · exact⟨_,rfl,_,rfl,l,.ref f,ws,ns,fs,lo,sz,m,rfl,hw,l7,tn,hin,tf,.inr ⟨f,rfl,hf⟩,gk,gw,q⟩
theorem VU(F:Fun K "law" "law" Kk f fd)(Hw:Γ26 P w K mg base)(Ho:Γ27 P w K mg base)(Hx:Γ29 P w K mg base)(Hy:Γ31 P w K mg base)(Hz:Γ34 P w K mg base)(Hq:Γ28 P w K mg base)(HA:Γ41 P w K mg base)(HB:Γ37 P w K mg base)(HC:Γ38 P w K mg base)(HD:Γ35 P w K mg base)(HE:Γ40 P w K mg base)(HF:Γ39 P w K mg base):FnOk P w K mg base Ir 11 f fd ["script"] (ND K):=by
 refine F.ok GP (λvs H Q E h=>?_) (λcdv A outer s H vs Q E hr h=>?_)
 · obtain⟨a,ns,rfl,hS,h63,q⟩:=h;rfl
 obtain⟨a,ns,rfl,hS,h63,q⟩:=h;refine⟨_,(HQ (Ig (i:=1) GP.nd rfl (Or.inr rfl) (Ie Hw (hr.mono (by decide)) rfl (HG (pv 0) HH)))
  (HQ (Ig (i:=2) GP.nd rfl (Or.inl rfl) (Ie Ho (hr.mono (by decide)) rfl (HG (pv 1) (HG HL HH))))
  (HQ (Ig (i:=3) GP.nd rfl (Or.inl rfl) (Ie Ho (hr.mono (by decide)) rfl (HG (pv 1) (HG HL HH))))
  (HQ (Ig (i:=4) GP.nd rfl (Or.inl rfl) (Ie Hx (hr.mono (by decide)) rfl (HG (pv 1) (HG HL HH))))
  (HQ (Ig (i:=5) GP.nd rfl (Or.inl rfl) (IC Jx (Jc (HG HL (HG HL (HG HL HH)))) (Ia KB (Iy JQ rfl B.len_ J9 (HG (pv 4) HH)) HL) (λ_ _=>rfl)))
  (HQ (Ig (i:=6) GP.nd rfl (Or.inl rfl) (Ie Hy (hr.mono (by decide)) rfl (HG (pv 1) HH)))
  (HQ (Ig (i:=7) GP.nd rfl (Or.inl rfl) (Ie Hz (hr.mono (by decide)) rfl (HG (pv 1) (HG (pv 4) (HG (pv 6) (HG (pv 5) (HG (Ie Ho (hr.mono (by decide)) rfl (HG (pv 1) (HG HL HH))) HH)))))))
  (HQ (IH (IA KM (pv 3) HL (I0 _)) (HW (Ig (i:=7) GP.nd rfl (Or.inl rfl) (Ie HB (hr.mono (by decide)) rfl (HG (pv 7) (HG (pv 6) HH))))) IG)
  (HQ (Ig (i:=8) GP.nd rfl (Or.inr rfl) (Jq (N':=["field","well"]) (js:=[none,some 1]) rfl (IW (N:=["script","well","pick","ends","names","wide","grid","wishes","told","more","handed","found","some"]) (outer:=HX Kk) (by decide+kernel)) (Jh (pv 4)) (λ_ _ _ _ _=>(H_ (i:=0) Nf rfl (Or.inl rfl))) (λ_ _ _ _ _=>Kt (IA KM (Ie Ho (hr.mono (by decide)) rfl (HG (pv 1) (HG HL HH))) HL (I0 _))) (λ_ _ _ _ _=>(pv 0))))
  (HQ (Ig (i:=9) GP.nd rfl (Or.inl rfl) (Ie Hq (hr.mono (by decide)) rfl (HG (pv 1) (HG HL HH))))
  (HQ (IH (PW.pt (Ln (IA Kb (Ie Ho (hr.mono (by decide)) rfl (HG (pv 1) (HG HL HH))) HL (I0 _)) (Ln (IA LY (Iy JQ rfl B.len_ J9 (HG (pv 8) HH)) HL (I0 _)) (Mj (IA PZ (pv 9) (pv 4) (by with_unfolding_all rfl)))))) (HW (Ig (i:=8) GP.nd rfl (Or.inr rfl) (Iy PY rfl B.sorted_ MI (HG (Ia OD (pv 8) (Jc (HG (pv 9) HH))) HH)))) IG)
  (HQ (IH (IA LY (pv 2) HL (I0 _)) (HW (Ig (i:=8) GP.nd rfl (Or.inr rfl) (Ie HC (hr.mono (by decide)) rfl (HG (pv 7) HH)))) IG)
  (HQ (Ig (i:=10) GP.nd rfl (Or.inl rfl) (IX (HG (Lr Uo rfl B.list_ M6 (HG (pv 7) HH)) (HG (Lr Uo rfl B.list_ M6 (HG (pv 8) HH)) HH))))
  (HQ (Ig (i:=11) GP.nd rfl (Or.inl rfl) (Ie HA (hr.mono (by decide)) rfl (HG (IC JA (pv 10) HL (λ_ _=>rfl)) (HG (IC JA (pv 10) HL (λ_ _=>rfl)) (HG (pv 2) HH)))))
  (HQ (IH (IA (OE (Ly hr)) (pv 10) (IX (HG (pv 7) (HG (pv 8) HH))) (I0 _)) (HW (Ik Kj)) IG)
  (HQ (MK (N':=["wish","told"]) (js:=[none,some 8]) (i:=12) GP.nd rfl (Or.inl rfl) rfl (IW (N:=["script","well","pick","ends","names","wide","grid","wishes","told","more","handed","found","some"]) (outer:=HX Kk) (by decide+kernel)) (Jh (pv 7)) (λ_ _ _ _ _=>(H_ (i:=0) L1 rfl (Or.inl rfl))) (λ_ _ _ _ _=>Kt (IA (VX (Ly hr)) (Jq (N':=["field","told"]) (js:=[none,some 1]) rfl (IW (N:=["wish","told"]) (outer:=MW (HX Kk) (U8 Kk 15)) (by decide+kernel)) (Pb K rfl (Ie HC (hr.mono (by decide)) rfl (HG (Jc (HG (pv 0) HH)) HH))) (λ_ _ _ _ _=>(H_ (i:=0) Nd rfl (Or.inl rfl))) (λ_ _ _ _ _=>Kt (IA (TK K rfl) (pv 0) (pv 1) (by with_unfolding_all rfl))) (λ_ _ _ _ _=>(pv 0))) (Jc HH) (I0 _))) (λ_ _ _ _ _=>(pv 0)))
  (HQ (IH (IA (OF (Ly hr)) (Jq (N':=["wish","told"]) (js:=[none,some 8]) rfl (IW (N:=["script","well","pick","ends","names","wide","grid","wishes","told","more","handed","found","some"]) (outer:=HX Kk) (by decide+kernel)) (Jh (pv 12)) (λ_ _ _ _ _=>(H_ (i:=0) L1 rfl (Or.inl rfl))) (λ_ _ _ _ _=>Kt (J_ (Ie HF (hr.mono (by decide)) rfl (HG (pv 0) (HG (pv 1) HH))))) (λ_ _ _ _ _=>(pv 0))) (Jc HH) (I0 _)) (HW (Ik (NI (Km (pv 11))))) IG)
  (HW (Ik (Me (Ie HD (hr.mono (by decide)) rfl (HG (pv 11) HH)) (Lm (Mh (VW (Ly hr)) (pv 11) (Ie HE (hr.mono (by decide)) rfl (HG (pv 12) (HG (pv 8) (HG (pv 6) (HG (pv 5) HH))))) (I0 _))))))))))))))))))))))),?_⟩
 refine⟨_,rfl,a,ns,rfl,hS,h63,λb g l H1 B1 S1 nb ng=>?_⟩;refine⟨_,rfl,b,g,l,_,6,rfl,B1,by decide,by decide,by decide,λpick H2 p0 p1 B2 S2=>?_⟩;refine⟨_,rfl,b,g,l,_,4,rfl,B2,by decide,by decide,by decide,λends H3 d0 d1 B3 S3=>?_⟩;refine⟨_,rfl,b,g,l,_,3,rfl,B3,by decide,by decide,by decide,λna fs H4 n4 e4 asc4 ok4 l1 l3 B4 S4=>?_⟩;obtain⟨xb,xg,_⟩:=B3.free n4;have N4:NamesAt H4 b g na fs:=⟨e4,xb,xg,by omega,ok4,asc4⟩;refine⟨Li,λwl hwl=>?_⟩;have s5:=HU hwl (.lst [V.int 9,V.int 5,V.int 3]);have e5:(HI H4 wl (.lst [V.int 9,V.int 5,V.int 3])) wl=some (.lst [V.int 9,V.int 5,V.int 3]):=HK;have B5:=B4.same s5;have N5:=N4.sameB s5.sameB;generalize HI H4 wl (.lst [V.int 9,V.int 5,V.int 3])=H5 at*;obtain⟨wide,hwide,wd1,wd9⟩:∃wide:Int,JW [V.int 9,V.int 5,V.int 3] (((fs.map V.str).length:Int) - 1)=some (.int wide)∧1≤wide∧wide≤9:=by
  rw[Ab];have:fs.length=1∨fs.length=2∨fs.length=3:=by omega
  rcases this with h | h | h<;>rw[h]
  · exact⟨9,rfl,by decide,by decide⟩
  · exact⟨5,rfl,by decide,by decide⟩
  · exact⟨3,rfl,by decide,by decide⟩
 refine⟨_,rfl,na,_,rfl,.inl (SqL.of N5.at'),_,_,rfl,rfl,wl,_,_,_,rfl,rfl,SqL.of e5,hwide,?_⟩;refine⟨_,rfl,b,g,l,_,rfl,B5,by decide,λt lo sz H6 et lo1 lo2 sz1 sz2 B6 S6=>?_⟩;have N6:=N5.sameB S6;refine⟨_,rfl,_,rfl,_,rfl,_,rfl,_,rfl,b,g,l,_,8,rfl,B6,by decide,by decide,by decide,λmany H7 m0 m1 B7 S7=>?_⟩;have N7:=N6.sameB S7;have t7:=B6.tup S7 et;refine⟨b,g,l,na,t,_,lo,sz,wide,many,fs,rfl,B7,by decide,N7,t7,sz1,sz2,wd1,by omega,m0,by omega,λr ws H8 nr W8 lw in8 B8 S8=>?_⟩;have N8:=N7.sameB S8;have t8:=B7.tup S8 t7;obtain⟨rb,rg,_⟩:=B7.free nr;dsimp only;refine Ku (λσ' H'=>∃(r:Addr)(ws:List (Addr×List WP)),σ'=[some (.ref a),some (.ref b),some (.int pick),some (.int ends),some (.ref na),some (.int wide),some (.ref t),some (.ref r),none,none,none,none,none]∧WsAt H' r ws∧ws.length≤7∧(r≠b∧r≠g)∧(∀x∈ws,Nq fs x.2∧I_ lo sz (2*wide) x.2∧x.2.length≤6)∧Well H' b g l 2000∧NamesAt H' b g na fs∧H' t=some (.tup [.int lo,.int sz])) (λZ hZ=>?_) ?_
 · refine⟨_,rfl,_,_,rfl,rfl,_,rfl,Il (λ_=>?_) (λ_=>?_)⟩
   · refine⟨_,rfl,_,rfl,r,t,ws,lo,sz,wide,rfl,W8,by omega,t8,sz1,wd1,λx hx p hp=>((in8 x hx).1 p hp).2,λr' ws' H9 s9 nr' W9 eq9=>hZ _ _ ⟨r',ws',rfl,W9,?_,?_,λx hx=>?_,(B8.same s9).mono (by omega),N8.sameB s9.sameB,s9 _ _ t8⟩⟩
     · have:=congrArg Bi eq9;rw[Ab,Ab,Ab] at this;omega
     · obtain⟨q1,q2,_⟩:=B8.free nr';exact⟨q1,q2⟩
     · have:x.2∈ws'.map (·.2):=A3 hx;rw[eq9] at this;obtain⟨y,hy,e⟩:=Ay.mp this;obtain⟨z,hz,rfl⟩:=Ay.mp hy;obtain⟨z1,z2⟩:=in8 z hz;rw[←e];refine⟨λp hp=>?_,(RA sz1 wd1 (W8.ok z hz).2 λp hp=>(z1 p hp).2).2,by unfold K9;rw[Ab];exact z2⟩;obtain⟨q,hq,rfl⟩:=Ay.mp hp;exact(z1 q hq).1
   · exact hZ _ _ ⟨r,ws,rfl,W8,by omega,⟨rb,rg⟩,λx hx=>⟨λp hp=>((in8 x hx).1 p hp).1,λp hp=>((in8 x hx).1 p hp).2.on wd1,(in8 x hx).2⟩,B8.mono (by omega),N8,t8⟩
 clear in8 W8 nr rb rg lw N8 t8 B8 S8;rintro σ' H9 ⟨r,ws,rfl,W9,l7,⟨rb,rg⟩,ok9,B9,N9,t9⟩;refine⟨_,rfl,na,rfl,⟨_,SqL.of N9.at'⟩,λtl htl=>?_⟩;have sT:=HU htl (.lst []);obtain⟨tb,tg,tll⟩:=B9.free htl;refine JR (xs:=fs.map V.str) (λi σ' ys H'=>(∃v,σ'=[v,some (.ref b)])∧SameB b g H9 H'∧Well H' b g l (2000+(i:Int))∧H' tl=some (.lst ys)∧∃ts:List Str,ys=ts.map V.str∧ts.Sublist (fs.take i)) ⟨⟨none,rfl⟩,sT.sameB,(B9.same sT).mono (by omega),HK,[],rfl,List.nil_sublist _⟩ ?_ ?_ ?_
 · rintro i σ' ys H' hi ⟨_,sB,Bw,h1,ts,rfl,sub⟩;refine⟨SqL.of (sB _ _ N9.at' N9.nb N9.ng),h1,?_⟩;have:=sub.length_le;rw[A7] at this;rw[Ab];exact IQ (by omega)
 · rintro i x σ' ys H' N hx ⟨⟨v,rfl⟩,sB,Bw,h1,ts,rfl,sub⟩ hN;rw[Af] at hx;cases e1:fs[i]? with
   | none=>rw[e1] at hx;cases hx
   | some fi=>
    rw[e1] at hx;obtain rfl:V.str fi=x:=Az hx;have li:=(Al.mp e1).1;refine⟨_,rfl,b,g,l,_,8,rfl,Bw,by omega,by decide,by decide,λc H10 c0 c1 B10 S10=>?_⟩;have h10:=S10 _ _ h1 tb tg;refine⟨_,_,rfl,rfl,_,rfl,Il (λ_=>?_) (λ_=>?_)⟩
    · refine⟨_,rfl,h10,hN _ _ _ ⟨⟨_,rfl⟩,(sB.trans S10).off htl,(B10.off tb tg tll).mono (by omega),HK,ts++[fi],by rw[Ah];rfl,?_⟩⟩;rw[IB e1];exact sub.append (EY _)
    · exact hN _ _ _ ⟨⟨_,rfl⟩,sB.trans S10,B10.mono (by omega),h10,ts,rfl,sub.trans (Dl (by omega))⟩
 rintro σ' ys H10 ⟨_,S10,B10,h10,ts,rfl,sub⟩;rw[Ab,Bb] at sub;rw[Ab] at B10;have lts:=sub.length_le;refine⟨_,rfl,b,g,l,_,8,rfl,B10,by omega,by decide,by decide,λmore H11 okm B11 S11=>?_⟩;have S911:=S10.trans S11;have h11:=S11 _ _ h10 tb tg;have tT:ToldF ts:=⟨by omega,λf hf=>ok4 f (sub.subset hf),asc4.sublist sub⟩;have W11:=W9.sameW B9 rb rg S911;have N11:=N9.sameB S911;have t11:=B9.tup S911 t9;dsimp only;refine Ku (λσ' H'=>∃(tl:Addr)(ts:List Str),σ'=[some (.ref a),some (.ref b),some (.int pick),some (.int ends),some (.ref na),some (.int wide),some (.ref t),some (.ref r),some (.ref tl),some (.str more),none,none,none]∧H' tl=some (.lst (ts.map V.str))∧ToldF ts∧WsAt H' r ws∧H' t=some (.tup [.int lo,.int sz])) (λZ hZ=>?_) ?_
 · have stay:∀H12,SameB b g H11 H12→∃(tl':Addr)(ts':List Str),[some (V.ref a),some (.ref b),some (.int pick),some (.int ends),some (.ref na),some (.int wide),some (.ref t),some (.ref r),some (.ref tl),some (.str more),none,none,none]=[some (.ref a),some (.ref b),some (.int pick),some (.int ends),some (.ref na),some (.int wide),some (.ref t),some (.ref r),some (.ref tl'),some (.str more),none,none,none]∧H12 tl'=some (.lst (ts'.map V.str))∧ToldF ts'∧WsAt H12 r ws∧H12 t=some (.tup [.int lo,.int sz]):=λH12 S12=>⟨tl,ts,rfl,S12 _ _ h11 tb tg,tT,W11.sameW B11 rb rg S12,B11.tup S12 t11⟩;refine⟨_,rfl,b,g,l,_,4,rfl,B11,by omega,by decide,by decide,λc H12 c0 c1 B12 S12=>⟨rfl,_,rfl,Il (λ_=>?_) (λ_=>HR (hZ _ _ (stay H12 S12)))⟩⟩;have h12:=S12 _ _ h11 tb tg;refine⟨_,rfl,tl,_,rfl,.inl (SqL.of h12),_,_,rfl,rfl,_,rfl,Il (λh2=>?_) (λ_=>HR (hZ _ _ (stay H12 S12)))⟩;have h2:ts.length<3:=by
    have:=of_decide_eq_true h2;rw[Ab] at this;omega
   refine⟨_,rfl,_,rfl,na,_,rfl,.inl (SqL.of (N11.sameB S12).at'),rfl,NP fs,_,rfl,?_⟩;rw[if_pos rfl,MA];by_cases hm:more∈fs
   · rw[decide_eq_true hm];exact HR (hZ _ _ (stay H12 S12))
   · rw[decide_eq_false hm];refine HP ⟨_,rfl,_,rfl,Kh,λe he=>?_⟩;have s13:=HU he (.lst [V.str more]);have e13:(HI H12 e (.lst [V.str more])) e=some (.lst [V.str more]):=HK;generalize HI H12 e (.lst [V.str more])=H13 at*;refine⟨tl,e,_,_,rfl,rfl,s13 _ _ h12,e13,(by rw[Ab];exact LD (by simp;omega)),λc' hc'=>?_⟩;have s14:=HU hc' (.lst (ts.map V.str++[V.str more]));have e14:(HI H13 c' (.lst (ts.map V.str++[V.str more]))) c'=some (.lst ((ts++[more]).map V.str)):=by rw[HK,Ah];rfl
     generalize HI H13 c' (.lst (ts.map V.str++[V.str more]))=H14 at*;refine⟨c',ts++[more],rfl,SqL.of e14,by rw[A5];simp;omega,λz ms mp mso hz=>?_⟩;have s15:=HU hz (.lst (ms.map V.str));have t15:=s13.trans (s14.trans s15);have nd:(ts++[more]).Nodup:=by rw[EW];refine⟨Pg tT.asc,by simp,λx hx y hy=>?_⟩;rw[Ae.mp hy];exact λe=>hm (e ▸ sub.subset hx)
     refine hZ _ _ ⟨z,ms,rfl,HK,⟨?_,λf hf=>?_,MC mso (mp.nodup_iff.mpr nd)⟩,(W11.sameW B11 rb rg S12).same t15,t15 _ _ (B11.tup S12 t11)⟩
     · rw[mp.length_eq,A5];simp;omega
     · rcases Aw.mp (mp.mem_iff.mp hf) with y | y
       · exact tT.ok f y
       · rw[Ae.mp y];exact okm
 rintro σ' H13 ⟨tl,ts,rfl,h13,tT,W13,t13⟩;refine Ku (λσ' H'=>∃(tl:Addr)(ts:List Str),σ'=[some (.ref a),some (.ref b),some (.int pick),some (.int ends),some (.ref na),some (.int wide),some (.ref t),some (.ref r),some (.ref tl),some (.str more),none,none,none]∧H' tl=some (.lst (ts.map V.str))∧ToldF ts∧Same H13 H'∧(pick=0∨pick=1→FieldsOf (ws.map (·.2)) ts)) (λZ hZ=>?_) ?_
 · refine⟨_,rfl,_,_,rfl,rfl,_,rfl,Il (λ_=>?_) (λh=>?_)⟩
   · refine⟨_,rfl,r,ws,rfl,W13,l7,λx hx=>(ok9 x hx).2.2,λfr gs H14 s14 nf e14 FO lg=>hZ _ _ ⟨fr,gs,rfl,e14,⟨?_,λf hf=>?_,FO.asc⟩,s14,λ_=>FO⟩⟩
     · refine AL (Pi (Pg FO.asc) (fs:=fs) λf hf=>?_) (by omega);obtain⟨y,hy,hf⟩:=(FO.mem f).mp hf;obtain⟨x,hx,rfl⟩:=Ay.mp hy;obtain⟨p,hp,rfl⟩:=Ay.mp hf;exact(ok9 x hx).1 p hp
     · obtain⟨y,hy,hf⟩:=(FO.mem f).mp hf;obtain⟨x,hx,rfl⟩:=Ay.mp hy;obtain⟨p,hp,rfl⟩:=Ay.mp hf;exact((W13.ok x hx).2.ok p hp).1
   · have:¬pick<2:=λz=>h (decide_eq_true z);exact hZ _ _ ⟨tl,ts,rfl,h13,tT,Same.refl _,λz=>absurd z (by omega)⟩
 clear h13 tT tl ts sub lts h10 h11 htl tb tg tll sT;rintro σ' H14 ⟨tl,ts,rfl,h14,tT,s14,fo⟩;have W14:=W13.same s14;have t14:=s14 _ _ t13;refine⟨_,rfl,r,_,rfl,.inl (SqL.of W14.at'),λc1 hc1=>?_⟩;have s15:=HU hc1 (.lst (ws.map λx=>V.ref x.1));have L6:(HI H14 c1 (.lst (ws.map λx=>V.ref x.1))) c1=some (.lst (ws.map λx=>V.ref x.1)):=HK;generalize HI H14 c1 (.lst (ws.map λx=>V.ref x.1))=H15 at*;refine⟨_,rfl,tl,_,rfl,.inl (SqL.of (s15 _ _ h14)),λc2 hc2=>?_⟩;have s16:=HU hc2 (.lst (ts.map V.str));have e16:(HI H15 c2 (.lst (ts.map V.str))) c2=some (.lst (ts.map V.str)):=HK;have f16:=s16 _ _ L6;generalize HI H15 c2 (.lst (ts.map V.str))=H16 at*;refine⟨Jk,λhd hhd=>?_⟩;have s17:=HU hhd (.tup [V.ref c1,V.ref c2]);have e17:(HI H16 hd (.tup [V.ref c1,V.ref c2])) hd=some (.tup [V.ref c1,V.ref c2]):=HK;have f17:=s17 _ _ f16;have g17:=s17 _ _ e16;generalize HI H16 hd (.tup [V.ref c1,V.ref c2])=H17 at*;have T17:=s15.trans (s16.trans s17);have W17:=W14.same T17;have C17:WsAt H17 c1 ws:=⟨f17,W17.ok,W17.len⟩;have tN:ToldF fs:=⟨by omega,ok4,asc4⟩;have gk:NH sz (2*wide):=⟨sz1,by omega,Fg (Ey sz2 (show 2*wide≤18 by omega) (by omega) (by omega)) (by decide)⟩;refine⟨_,rfl,hd,_,0,_,rfl,rfl,SqT.of e17,rfl,_,rfl,hd,_,1,_,rfl,rfl,SqT.of e17,rfl,_,rfl,c1,c2,pick,ws,fs,ts,lo,sz,2*wide,rfl,C17,l7,tN,λx hx=>(ok9 x hx).1,tT,g17,fo,gk,λx hx=>(ok9 x hx).2.1,λH18 s18=>?_⟩;have T18:=T17.trans s18;have W18:=W14.same T18;have h18:=T18 _ _ h14;refine⟨_,rfl,_,rfl,_,rfl,Jk,λc3 hc3=>?_⟩;have s19:=HU hc3 (.tup [V.ref r,V.ref tl]);have e19:(HI H18 c3 (.tup [V.ref r,V.ref tl])) c3=some (.tup [V.ref r,V.ref tl]):=HK;generalize HI H18 c3 (.tup [V.ref r,V.ref tl])=H19 at*;have s1719:=s18.trans s19;have W19:=W18.same s19;refine⟨Lc (ws.map (·.2)) ts,Lc (ws.map (·.2)) ts,R0 (s1719 _ _ e17) (s1719 _ _ f17) (λx hx=>(W19.ok x hx).1) (s1719 _ _ g17),R0 e19 W19.at' (λx hx=>(W19.ok x hx).1) (s19 _ _ h18),Wg _ _,?_⟩;rw[VB];refine⟨_,rfl,HR ?_⟩;have h19:=s19 _ _ h18;have t19:=s19 _ _ (T18 _ _ t14);refine⟨_,rfl,r,rfl,⟨_,SqL.of W19.at'⟩,λso hso=>?_⟩;refine JR (xs:=ws.map λx=>V.ref x.1) (λi σ' ys H'=>(∃v,σ'=[v,some (.ref tl)])∧Same H19 H'∧H' so=some (.lst ys)∧ys=((ws.take i).filter λx=>Jl ts x.2).map λx=>V.ref x.1) ⟨⟨none,rfl⟩,HU hso _,HK,rfl⟩ ?_ ?_ ?_
 · rintro i σ' ys H' hi ⟨_,s,c1,c2⟩;refine⟨s.seq (SqL.of W19.at'),c1,?_⟩;rw[c2,Ab];have:=Bk (λx:Addr×List WP=>Jl ts x.2) (ws.take i);rw[A7] at this;exact IQ (by omega)
 · rintro i x σ' ys H20 N hx ⟨⟨v,rfl⟩,s20,c1,c2⟩ hN;obtain⟨X1,ew,rfl⟩:=Ih hx;have mX:=Aj ew;obtain⟨x1,x2⟩:=(W19.same s20).ok X1 mX;refine⟨_,rfl,Kh,λw1 hw1=>?_⟩;have s21:=HU hw1 (.lst [V.ref X1.1]);have e21:(HI H20 w1 (.lst [V.ref X1.1])) w1=some (.lst [V.ref X1.1]):=HK;generalize HI H20 w1 (.lst [V.ref X1.1])=H21 at*;refine⟨w1,[X1],rfl,⟨e21,λy hy=>by rw[Ae.mp hy];exact⟨x1.same s21,x2⟩,by simp⟩,by simp,λy hy=>by rw[Ae.mp hy];exact(ok9 X1 mX).2.2,λfr gs H22 s22 nf e22 FO lg=>?_⟩;have t22:=s21.trans s22;have h22:=t22 _ _ (s20 _ _ h19);refine⟨fr,rfl,⟨_,SqL.of e22⟩,λir hir=>?_⟩;refine JR (xs:=gs.map V.str) (λj σ' zs H'=>(∃v,σ'=[v,some (.ref tl)])∧Same H22 H'∧H' ir=some (.lst zs)∧zs=((gs.take j).filter λf=>!decide (f∈ts)).map V.str) ⟨⟨none,rfl⟩,HU hir _,HK,rfl⟩ ?_ ?_ ?_
   · rintro j σ' zs H' hj ⟨_,s,d1,d2⟩;refine⟨s.seq (SqL.of e22),d1,?_⟩;rw[d2,Ab];have:=Bk (λf=>!decide (f∈ts)) (gs.take j);rw[A7] at this;exact IQ (by omega)
   · rintro j x σ' zs H23 N3 hx ⟨⟨v,rfl⟩,s23,d1,d2⟩ hN3;rw[Af] at hx;cases e1:gs[j]? with
     | none=>rw[e1] at hx;cases hx
     | some fi=>
      rw[e1] at hx;obtain rfl:V.str fi=x:=Az hx;refine⟨_,rfl,_,rfl,tl,_,rfl,.inl (SqL.of (s23 _ _ h22)),rfl,NP ts,_,rfl,?_⟩;rw[if_pos rfl,MA];have st:((gs.take (j+1)).filter λf=>!decide (f∈ts)).map V.str=((gs.take j).filter λf=>!decide (f∈ts)).map V.str++(if(!decide (fi∈ts))=true then [V.str fi] else []):=by
       rw[IB e1,BF,Ah,BV]
       split<;>rfl
      cases c:decide (fi∈ts) with
      | true=> rw[c] at st;exact HR (hN3 _ _ _ ⟨⟨_,rfl⟩,s23,d1,by rw[d2,st];simp⟩)
      | false=> rw[c] at st;exact HP ⟨_,rfl,d1,hN3 _ _ _ ⟨⟨_,rfl⟩,Ji s23 hir,HK,by rw[d2,st];simp⟩⟩
   · rintro σ' zs H23 ⟨_,s23,d1,rfl⟩;rw[Ab,Bb] at d1;refine⟨JE,λep hep=>?_⟩;have s24:=HU hep (.lst []);refine⟨ir,ep,_,rfl,rfl,s24 _ _ d1,HK,_,rfl,?_⟩;rw[XM FO];have t24:=t22.trans (s23.trans s24);have st:((ws.take (i+1)).filter λx=>Jl ts x.2)=((ws.take i).filter λx=>Jl ts x.2)++(if Jl ts X1.2=true then [X1] else []):=by
      rw[IB ew,BF];congr 1;rw[BV];rfl
     cases c:Jl ts X1.2 with
     | false=> rw[c] at st;exact HR (hN _ _ _ ⟨⟨_,rfl⟩,s20.trans t24,t24 _ _ c1,by rw[c2,st];simp⟩)
     | true=> rw[c] at st;exact HP ⟨_,rfl,t24 _ _ c1,hN _ _ _ ⟨⟨_,rfl⟩,Ji (s20.trans t24) hso,HK,by rw[c2,st];simp⟩⟩
 rintro σ' ys H20 ⟨_,s20,e20,rfl⟩;rw[Ab,Bb] at e20;have mt:=XE (so:=ws.filter λx=>Jl ts x.2) tT sz1 wd1 (λx hx=>(W19.ok x hx).2) (λx hx=>(ok9 x hx).2.1) rfl;have mso:∀x∈ws.filter (λx=>Jl ts x.2),x∈ws:=λx hx=>(C7.mp hx).1;have lso:(ws.filter λx=>Jl ts x.2).length≤ws.length:=Bk _ _;rw[mt];generalize(ws.filter λx=>Jl ts x.2)=ss at*;have W20:=W19.same s20;have h20:=s20 _ _ h19;have Z20:WsAt H20 so ss:=⟨e20,λx hx=>W20.ok x (mso x hx),by omega⟩;refine⟨_,rfl,so,rfl,⟨_,SqL.of e20⟩,λer her=>?_⟩;refine JR (xs:=ss.map λx=>V.ref x.1) (λi σ' ys H'=>(∃v,σ'=[v,some (.ref tl)])∧Same H20 H'∧H' er=some (.lst ys)∧ys=((ss.take i).filter λx=>!Ib (IK ts x.2)).map λx=>V.ref x.1) ⟨⟨none,rfl⟩,HU her _,HK,rfl⟩ ?_ ?_ ?_
 · rintro i σ' ys H' hi ⟨_,s,c1,c2⟩;refine⟨s.seq (SqL.of e20),c1,?_⟩;rw[c2,Ab];have:=Bk (λx:Addr×List WP=>!Ib (IK ts x.2)) (ss.take i);rw[A7] at this;exact IQ (by omega)
 · rintro i x σ' ys H21 N hx ⟨⟨v,rfl⟩,s21,c1,c2⟩ hN;obtain⟨X1,ew,rfl⟩:=Ih hx;obtain⟨x1,x2⟩:=(Z20.same s21).ok X1 (Aj ew);refine⟨_,rfl,_,rfl,X1.1,tl,X1.2,ts,rfl,x1,x2,s21 _ _ h20,tT.len,λH22 s22=>⟨_,rfl,?_⟩⟩;have st:((ss.take (i+1)).filter λx=>!Ib (IK ts x.2))=((ss.take i).filter λx=>!Ib (IK ts x.2))++(if(!Ib (IK ts X1.2))=true then [X1] else []):=by
    rw[IB ew,BF];congr 1;rw[BV];rfl
   cases c:Ib (IK ts X1.2) with
   | true=> rw[c] at st;exact HR (hN _ _ _ ⟨⟨_,rfl⟩,s21.trans s22,s22 _ _ c1,by rw[c2,st];simp⟩)
   | false=> rw[c] at st;exact HP ⟨_,rfl,s22 _ _ c1,hN _ _ _ ⟨⟨_,rfl⟩,Ji (s21.trans s22) her,HK,by rw[c2,st];simp⟩⟩
 · rintro σ' ys H21 ⟨_,s21,c1,rfl⟩;rw[Ab,Bb] at c1;refine⟨JE,λep hep=>?_⟩;have s22:=HU hep (.lst []);refine⟨er,ep,_,rfl,rfl,s22 _ _ c1,HK,_,rfl,?_⟩;rw[Fn];have t22:=s21.trans s22;cases c:(ss.filter λx=>!Ib (IK ts x.2)).isEmpty with
   | false=> rw[if_neg As];exact HP ⟨_,rfl,q _⟩
   | true=> rw[if_pos rfl];refine HR ⟨_,rfl,_,"int",rfl,.int _,_,rfl,HP ?_⟩;refine⟨_,rfl,_,rfl,_,rfl,_,rfl,_,rfl,so,tl,t,ss,ts,lo,sz,wide,rfl,Z20.same t22,by omega,t22 _ _ h20,tT,t22 _ _ (s20 _ _ t19),sz1,sz2,wd1,wd9,λH23 s23=>?_⟩;generalize(sz^ts.length*((IM (Jv lo sz (2*wide+1).toNat) ts).countP (λP=>ss.any λw=>HV w.2 P):Int))=N;refine⟨.int N,.int N,by rw[HJ];rfl,by rw[HJ],by simp[Je],?_⟩;rw[show Ip (.int N) (.int N)=true from Of _];exact q _
end
open PySem.W (nsIn mg_of mg_none_of fnOf keepIn codeIn)
abbrev dF(n:Str)(s:Stmt):=fnOf n n (JZ s) (JL s) (HX s) .none
theorem Ju{st:Stmt}{f:Addr}{fd:BD}{p0:Str}(F:Fun K x x st f fd)(h:∀(kV doc pm:Value)(an:Option Addr)(cdv ct u0:Value),bindArgs (fnOf x x (JZ st) (JL st) (HX st) .none kV doc pm an cdv ct) ⟨[u0],[]⟩=pure [(p0,u0)]:=by intros;rfl):Binds K fd [p0] []:=
 F.binds λkV doc pm an cdv ct us hl=>match us,hl with | [u0],_=>h kV doc pm an cdv ct u0
theorem JU{st:Stmt}{f:Addr}{fd:BD}{p0 p1:Str}(F:Fun K x x st f fd)(h:∀(kV doc pm:Value)(an:Option Addr)(cdv ct u0 u1:Value),bindArgs (fnOf x x (JZ st) (JL st) (HX st) .none kV doc pm an cdv ct) ⟨[u0,u1],[]⟩=pure [(p0,u0),(p1,u1)]:=by intros;rfl):Binds K fd [p0,p1] []:=
 F.binds λkV doc pm an cdv ct us hl=>match us,hl with | [u0,u1],_=>h kV doc pm an cdv ct u0 u1
theorem U2{st:Stmt}{f:Addr}{fd:BD}{p0 p1 p2:Str}(F:Fun K x x st f fd)(h:∀(kV doc pm:Value)(an:Option Addr)(cdv ct u0 u1 u2:Value),bindArgs (fnOf x x (JZ st) (JL st) (HX st) .none kV doc pm an cdv ct) ⟨[u0,u1,u2],[]⟩=pure [(p0,u0),(p1,u1),(p2,u2)]:=by intros;rfl):Binds K fd [p0,p1,p2] []:=
 F.binds λkV doc pm an cdv ct us hl=>match us,hl with | [u0,u1,u2],_=>h kV doc pm an cdv ct u0 u1 u2
theorem U0{st:Stmt}{f:Addr}{fd:BD}{p0 p1 p2 p3:Str}(F:Fun K x x st f fd)(h:∀(kV doc pm:Value)(an:Option Addr)(cdv ct u0 u1 u2 u3:Value),bindArgs (fnOf x x (JZ st) (JL st) (HX st) .none kV doc pm an cdv ct) ⟨[u0,u1,u2,u3],[]⟩=pure [(p0,u0),(p1,u1),(p2,u2),(p3,u3)]:=by intros;rfl):Binds K fd [p0,p1,p2,p3] []:=
 F.binds λkV doc pm an cdv ct us hl=>match us,hl with | [u0,u1,u2,u3],_=>h kV doc pm an cdv ct u0 u1 u2 u3
theorem bn5{st:Stmt}{f:Addr}{fd:BD}{p0 p1 p2 p3 p4:Str}(F:Fun K x x st f fd)(h:∀(kV doc pm:Value)(an:Option Addr)(cdv ct u0 u1 u2 u3 u4:Value),bindArgs (fnOf x x (JZ st) (JL st) (HX st) .none kV doc pm an cdv ct) ⟨[u0,u1,u2,u3,u4],[]⟩=pure [(p0,u0),(p1,u1),(p2,u2),(p3,u3),(p4,u4)]:=by intros;rfl):Binds K fd [p0,p1,p2,p3,p4] []:=
 F.binds λkV doc pm an cdv ct us hl=>match us,hl with | [u0,u1,u2,u3,u4],_=>h kV doc pm an cdv ct u0 u1 u2 u3 u4
structure KF(K:Ao)(x:Str)(st:Stmt)(f:Addr)(fd:BD):Prop where
 a:nsIn K AH x=some (some (.ref f))
 F:Fun K x x st f fd
structure KFD(K:Ao)(x:Str)(st:Stmt)(f:Addr)(fd:BD):Prop where
 a:nsIn K AH x=some (some (.ref f))
 F:FunD K x st f fd
section
variable{f:Addr}{fd:BD}(F:FunD K "how_many_pieces" Ot f fd)
include F
theorem QK:Binds K fd ["wishes","fields"] []:=by
 obtain⟨oc,od,T,o,m,kV,doc,pm,an,cdv,ct,osl,rfl,lk,hcd,lt,ld⟩:=F.ex;intro s us hK hl;rw[BY] at hl ⊢
 match us,hl with
 | [u1,u2],_=>exact FE hK rfl lt ld rfl rfl
theorem QJ:Binds K fd ["wishes","fields"] [.none]:=by
 obtain⟨oc,od,T,o,m,kV,doc,pm,an,cdv,ct,osl,rfl,lk,hcd,lt,ld⟩:=F.ex;intro s us hK hl;have h1:us.length=1:=by simpa using hl
 match us,h1 with
 | [u1],_=>exact FE hK rfl lt ld rfl rfl
theorem QI:KBinds K fd ["wishes","fields"] ["fields"] g2 g2:=by
 obtain⟨oc,od,T,o,m,kV,doc,pm,an,cdv,ct,osl,rfl,lk,hcd,lt,ld⟩:=F.ex;refine⟨λs us ws hK hl=>?_,UG⟩
 match us,ws,hl with
 | [u1],[u2],_=>exact FE hK rfl lt ld rfl rfl
 | [],_,hl=>exact absurd (show 0=2 from hl) (by decide)
 | [_],[],hl=>exact absurd (show 0=2 from hl) (by decide)
 | [_],_::_::_,hl=>exact absurd (show 0=2 from hl) (by decide)
 | _::_::_,_,hl=>exact absurd (show 0=2 from hl) (by decide)
end
theorem all_mk{l:F0}{w:World}{mg:Str→Option Value}{fa f1 f2 f3 f4 f5 f6 f7 f8 f9 f10 f11 f12 f13 f14 f15 f16 f17 f18 f19 f20 f21 f22 f23 f24 f25 f26 f27 f28 f29 f30 f31 f32 f33 f34 f35 f36 f37 f38 f39 f40 f41 f42 f43:Addr}{g1 g2 g3 g4 g5 g6 g7 g8 g9 g10 g11 g12 g13 g14 g15 g16 g17 g18 g19 g20 g21 g22 g23 g24 g25 g26 g27 g28 g29 g30 g31 g32 g33 g34 g35 g36 g37 g38 g39 g40 g41 g42 g43:BD}(X:K.In h)(G:h.Ns AH mg)(hfa:mg "law"=some (.ref fa))
 (h1:KF K "is_whole" Pt f1 g1)
 (h2:KF K "is_end" Pd f2 g2)
 (h3:KF K "is_span" P9 f3 g3)
 (h4:KF K "check_span" P_ f4 g4)
 (h5:KF K "how_many_in" PM f5 g5)
 (h6:KF K "span_shared" MM f6 g6)
 (h7:KF K "is_field" Oc f7 g7)
 (h8:KF K "is_wish_part" Qc f8 g8)
 (h9:KF K "fields_ascend" Oi f9 g9)
 (h10:KF K "is_wish" Og f10 g10)
 (h11:KF K "are_wishes" Ol f11 g11)
 (h12:KF K "check_wishes" Qh f12 g12)
 (h13:KF K "spans_by_field" Ou f13 g13)
 (h14:KF K "wish_shared" Oq f14 g14)
 (h15:KF K "spans_beside" Qd f15 g15)
 (h16:KF K "parts_beside_one" Qb f16 g16)
 (h17:KF K "parts_beside" Oh f17 g17)
 (h18:KF K "fields_of" NX f18 g18)
 (h19:KF K "check_few" PR f19 g19)
 (h20:KF K "how_many_of" PN f20 g20)
 (h21:KF K "has_no_more" Op f21 g21)
 (h22:KF K "filled_up" NY f22 g22)
 (h23:KF K "how_many_wanted" MR f23 g23)
 (h24:KF K "is_list_of_fields" MS f24 g24)
 (h25:KF K "check_fields" Qg f25 g25)
 (h26:KFD K "how_many_pieces" Ot f26 g26)
 (h27:KF K "_law_well" MQ f27 g27)
 (h28:KF K "_law_take" Py f28 g28)
 (h29:KF K "_law_name" Od f29 g29)
 (h30:KF K "_law_fields" Qa f30 g30)
 (h31:KF K "_law_base" Pu f31 g31)
 (h32:KF K "_law_grid" Pw f32 g32)
 (h33:KF K "_law_span" Px f33 g33)
 (h34:KF K "_law_wish" P0 f34 g34)
 (h35:KF K "_law_wishes" PF f35 g35)
 (h36:KF K "_law_whole" PV f36 g36)
 (h37:KF K "_law_wants" PU f37 g37)
 (h38:KF K "_law_both_ends" Qe f38 g38)
 (h39:KF K "_law_fields_of" Qf f39 g39)
 (h40:KF K "_law_endless" ML f40 g40)
 (h41:KF K "_law_many" Lz f41 g41)
 (h42:KF K "_law_told" Pz f42 g42)
 (h43:KF K "law" Kk f43 g43)
 {t_MOST_LETTERS:Tok} (e_MOST_LETTERS:nsIn K AH "MOST_LETTERS"=some (some (.int 8 t_MOST_LETTERS)))
 {t_MOST_WISHES:Tok} (e_MOST_WISHES:nsIn K AH "MOST_WISHES"=some (some (.int 7 t_MOST_WISHES)))
 {t_MOST_FIELDS:Tok} (e_MOST_FIELDS:nsIn K AH "MOST_FIELDS"=some (some (.int 3 t_MOST_FIELDS)))
 (z_len:nsIn K AH "len"=some none)
 (z_range:nsIn K AH "range"=some none)
 (z_isinstance:nsIn K AH "isinstance"=some none)
 (z_int:nsIn K AH "int"=some none)
 (z_bool:nsIn K AH "bool"=some none)
 (z_tuple:nsIn K AH "tuple"=some none)
 (z_list:nsIn K AH "list"=some none)
 (z_max:nsIn K AH "max"=some none)
 (z_min:nsIn K AH "min"=some none)
 (z_all:nsIn K AH "all"=some none)
 (z_zip:nsIn K AH "zip"=some none)
 (z_str:nsIn K AH "str"=some none)
 (z_dict:nsIn K AH "dict"=some none)
 (z_sorted:nsIn K AH "sorted"=some none)
 (z_set:nsIn K AH "set"=some none)
 (z_any:nsIn K AH "any"=some none)
 (z_sum:nsIn K AH "sum"=some none)
 (z_enumerate:nsIn K AH "enumerate"=some none)
 (z_repr:nsIn K AH "repr"=some none)
 (z_ord:nsIn K AH "ord"=some none)
 (z_chr:nsIn K AH "chr"=some none)
 (z_abs:nsIn K AH "abs"=some none)
 (z_reversed:nsIn K AH "reversed"=some none)
 :∃fd:BD,(∀(s:Shared)(v:Value),BindsTo s fd ⟨[v],[]⟩ [("script",v)])∧∀base:Heap,K.In base→base.Ns AH mg→FnOk l.prog w K mg base Ir 11 fa fd ["script"] (ND K):=by
 have e:=hfa.symm.trans (PySem.W.mg_of X G h43.a);cases e;obtain⟨_,⟨⟨oc,od,kV,dc,pm,an,cd,ct,sl,rfl,l',c'⟩,k'⟩⟩:=h43;have B:Bl mg:=⟨mg_none_of X G z_len,mg_none_of X G z_range,mg_none_of X G z_isinstance,mg_none_of X G z_int,mg_none_of X G z_bool,mg_none_of X G z_tuple,mg_none_of X G z_list,mg_none_of X G z_max,mg_none_of X G z_min,mg_none_of X G z_all,mg_none_of X G z_zip,mg_none_of X G z_str,mg_none_of X G z_dict,mg_none_of X G z_sorted,mg_none_of X G z_set,mg_none_of X G z_any,mg_none_of X G z_sum,mg_none_of X G z_enumerate,mg_none_of X G z_repr,mg_none_of X G z_ord,mg_none_of X G z_chr,mg_none_of X G z_abs,mg_none_of X G z_reversed⟩;refine⟨C8 "law" "law" (JZ Kk) (JL Kk) (HX Kk) .none kV dc pm an cd ct,λs v=> .of_eq rfl,λbase _ _=>?_⟩;have CMOST_LETTERS:=mg_of X G e_MOST_LETTERS;have CMOST_WISHES:=mg_of X G e_MOST_WISHES;have CMOST_FIELDS:=mg_of X G e_MOST_FIELDS;have GQ:Γ0 l.prog w K mg base:=⟨_,_,Zq B CMOST_LETTERS CMOST_WISHES CMOST_FIELDS h1.F,Ju h1.F,h1.F.2,mg_of X G h1.a⟩;have GR:Γ1 l.prog w K mg base:=⟨_,_,Xs B CMOST_LETTERS CMOST_WISHES CMOST_FIELDS h2.F GQ,Ju h2.F,h2.F.2,mg_of X G h2.a⟩;have GS:Γ2 l.prog w K mg base:=⟨_,_,XY B CMOST_LETTERS CMOST_WISHES CMOST_FIELDS h3.F GR,Ju h3.F,h3.F.2,mg_of X G h3.a⟩;have GT:Γ3 l.prog w K mg base:=⟨_,_,Z3 B CMOST_LETTERS CMOST_WISHES CMOST_FIELDS h4.F GS,Ju h4.F,h4.F.2,mg_of X G h4.a⟩;have Hd:Γ4 l.prog w K mg base:=⟨_,_,ZY B CMOST_LETTERS CMOST_WISHES CMOST_FIELDS h5.F GT,Ju h5.F,h5.F.2,mg_of X G h5.a⟩;have G_:Γ5 l.prog w K mg base:=⟨_,_,zeA B CMOST_LETTERS CMOST_WISHES CMOST_FIELDS h6.F,JU h6.F,h6.F.2,mg_of X G h6.a⟩;have GU:Γ6 l.prog w K mg base:=⟨_,_,YU B CMOST_LETTERS CMOST_WISHES CMOST_FIELDS h7.F,Ju h7.F,h7.F.2,mg_of X G h7.a⟩;have GW:Γ7 l.prog w K mg base:=⟨_,_,ZR B CMOST_LETTERS CMOST_WISHES CMOST_FIELDS h8.F GU GS,Ju h8.F,h8.F.2,mg_of X G h8.a⟩;have GV:Γ8 l.prog w K mg base:=⟨_,_,zdU B CMOST_LETTERS CMOST_WISHES CMOST_FIELDS h9.F,Ju h9.F,h9.F.2,mg_of X G h9.a⟩;have GX:Γ9 l.prog w K mg base:=⟨_,_,XZ B CMOST_LETTERS CMOST_WISHES CMOST_FIELDS h10.F GV GW,Ju h10.F,h10.F.2,mg_of X G h10.a⟩;have GY:Γ10 l.prog w K mg base:=⟨_,_,Z2 B CMOST_LETTERS CMOST_WISHES CMOST_FIELDS h11.F GX,Ju h11.F,h11.F.2,mg_of X G h11.a⟩;have Hj:Γ11 l.prog w K mg base:=⟨_,_,ZQ B CMOST_LETTERS CMOST_WISHES CMOST_FIELDS h12.F GY,Ju h12.F,h12.F.2,mg_of X G h12.a⟩;have GZ:Γ12 l.prog w K mg base:=⟨_,_,zdy B CMOST_LETTERS CMOST_WISHES CMOST_FIELDS h13.F,Ju h13.F,h13.F.2,mg_of X G h13.a⟩;have Ha:Γ13 l.prog w K mg base:=⟨_,_,ZM B CMOST_LETTERS CMOST_WISHES CMOST_FIELDS h14.F GZ G_,JU h14.F,h14.F.2,mg_of X G h14.a⟩;have Hb:Γ14 l.prog w K mg base:=⟨_,_,ZT B CMOST_LETTERS CMOST_WISHES CMOST_FIELDS h15.F,JU h15.F,h15.F.2,mg_of X G h15.a⟩;have Hc:Γ15 l.prog w K mg base:=⟨_,_,zcX B CMOST_LETTERS CMOST_WISHES CMOST_FIELDS h16.F Ha Hb,JU h16.F,h16.F.2,mg_of X G h16.a⟩;have Hh:Γ16 l.prog w K mg base:=⟨_,_,ZS B CMOST_LETTERS CMOST_WISHES CMOST_FIELDS h17.F Hc,JU h17.F,h17.F.2,mg_of X G h17.a⟩;have Hk:Γ17 l.prog w K mg base:=⟨_,_,Zb B CMOST_LETTERS CMOST_WISHES CMOST_FIELDS h18.F,Ju h18.F,h18.F.2,mg_of X G h18.a⟩;have Hl:Γ18 l.prog w K mg base:=⟨_,_,Za B CMOST_LETTERS CMOST_WISHES CMOST_FIELDS h19.F,JU h19.F,h19.F.2,mg_of X G h19.a⟩;have Hg:Γ19 l.prog w K mg base:=⟨_,_,ZZ B CMOST_LETTERS CMOST_WISHES CMOST_FIELDS h20.F Hd,Ju h20.F,h20.F.2,mg_of X G h20.a⟩;have Hf:Γ20 l.prog w K mg base:=⟨_,_,ZX B CMOST_LETTERS CMOST_WISHES CMOST_FIELDS h21.F,JU h21.F,h21.F.2,mg_of X G h21.a⟩;have He:Γ21 l.prog w K mg base:=⟨_,_,Zc B CMOST_LETTERS CMOST_WISHES CMOST_FIELDS h22.F GZ,JU h22.F,h22.F.2,mg_of X G h22.a⟩;have Hm:Γ22 l.prog w K mg base:=⟨_,_,zc9 B CMOST_LETTERS CMOST_WISHES CMOST_FIELDS h23.F He Hf Hg Hh,JU h23.F,h23.F.2,mg_of X G h23.a⟩;have Hi:Γ23 l.prog w K mg base:=⟨_,_,zcP B CMOST_LETTERS CMOST_WISHES CMOST_FIELDS h24.F GU,Ju h24.F,h24.F.2,mg_of X G h24.a⟩;have Hn:Γ24 l.prog w K mg base:=⟨_,_,ZP B CMOST_LETTERS CMOST_WISHES CMOST_FIELDS h25.F Hi,Ju h25.F,h25.F.2,mg_of X G h25.a⟩;have Hv:Γ25 l.prog w K mg base:=⟨_,_,zda B CMOST_LETTERS CMOST_WISHES CMOST_FIELDS h26.F Hj Hk Hl Hm Hn,QK h26.F,QJ h26.F,QI h26.F,h26.F.2,mg_of X G h26.a⟩;have Hw:Γ26 l.prog w K mg base:=⟨_,_,Zy B CMOST_LETTERS CMOST_WISHES CMOST_FIELDS h27.F,Ju h27.F,h27.F.2,mg_of X G h27.a⟩;have Ho:Γ27 l.prog w K mg base:=⟨_,_,Zw B CMOST_LETTERS CMOST_WISHES CMOST_FIELDS h28.F,JU h28.F,h28.F.2,mg_of X G h28.a⟩;have Hq:Γ28 l.prog w K mg base:=⟨_,_,Zu B CMOST_LETTERS CMOST_WISHES CMOST_FIELDS h29.F Ho,JU h29.F,h29.F.2,mg_of X G h29.a⟩;have Hx:Γ29 l.prog w K mg base:=⟨_,_,Z4 B CMOST_LETTERS CMOST_WISHES CMOST_FIELDS h30.F Hq Ho,JU h30.F,h30.F.2,mg_of X G h30.a⟩;have Hr:Γ30 l.prog w K mg base:=⟨_,_,Zr B CMOST_LETTERS CMOST_WISHES CMOST_FIELDS h31.F Ho,Ju h31.F,h31.F.2,mg_of X G h31.a⟩;have Hy:Γ31 l.prog w K mg base:=⟨_,_,Zs B CMOST_LETTERS CMOST_WISHES CMOST_FIELDS h32.F Ho Hr,Ju h32.F,h32.F.2,mg_of X G h32.a⟩;have Hs:Γ32 l.prog w K mg base:=⟨_,_,Zv B CMOST_LETTERS CMOST_WISHES CMOST_FIELDS h33.F Ho,U2 h33.F,h33.F.2,mg_of X G h33.a⟩;have Ht:Γ33 l.prog w K mg base:=⟨_,_,Zz B CMOST_LETTERS CMOST_WISHES CMOST_FIELDS h34.F Ho Hs,U0 h34.F,h34.F.2,mg_of X G h34.a⟩;have Hz:Γ34 l.prog w K mg base:=⟨_,_,Z5 B CMOST_LETTERS CMOST_WISHES CMOST_FIELDS h35.F Ho Ht,bn5 h35.F,h35.F.2,mg_of X G h35.a⟩;have HD:Γ35 l.prog w K mg base:=⟨_,_,ZL B CMOST_LETTERS CMOST_WISHES CMOST_FIELDS h36.F,Ju h36.F,h36.F.2,mg_of X G h36.a⟩;have Hu:Γ36 l.prog w K mg base:=⟨_,_,Zd B CMOST_LETTERS CMOST_WISHES CMOST_FIELDS h37.F,JU h37.F,h37.F.2,mg_of X G h37.a⟩;have HB:Γ37 l.prog w K mg base:=⟨_,_,zdT B CMOST_LETTERS CMOST_WISHES CMOST_FIELDS h38.F,JU h38.F,h38.F.2,mg_of X G h38.a⟩;have HC:Γ38 l.prog w K mg base:=⟨_,_,zdS B CMOST_LETTERS CMOST_WISHES CMOST_FIELDS h39.F,Ju h39.F,h39.F.2,mg_of X G h39.a⟩;have HF:Γ39 l.prog w K mg base:=⟨_,_,Z_ B CMOST_LETTERS CMOST_WISHES CMOST_FIELDS h40.F,JU h40.F,h40.F.2,mg_of X G h40.a⟩;have HE:Γ40 l.prog w K mg base:=⟨_,_,Zt B CMOST_LETTERS CMOST_WISHES CMOST_FIELDS h41.F Hu,U0 h41.F,h41.F.2,mg_of X G h41.a⟩;have HA:Γ41 l.prog w K mg base:=⟨_,_,Zx B CMOST_LETTERS CMOST_WISHES CMOST_FIELDS h42.F Hv,U2 h42.F,h42.F.2,mg_of X G h42.a⟩
 exact VU B CMOST_LETTERS CMOST_WISHES CMOST_FIELDS (fun_mk (st:=Kk) l' c' k') Hw Ho Hx Hy Hz Hq HA HB HC HD HE HF
theorem walk{l:F0}{q:Bv}{loose:List Str}{XP:(Str→Option Value)→Heap→Prop}{YP:World→Heap→Prop}{d:DefRec}{K:Params→Ao}(hn:l.most=some 63)(hdf:d.params.defaults=[])
 (hY:∀(w:World)(h:Heap),YP w h→(K w.params).In h)
 (F:∀(w:World)(mg:Str→Option Value)(fa:Addr)(h:Heap),(K w.params).In h→h.Ns AH mg→mg d.name=some (.ref fa)→
  ∃fd:BD,(∀(s:Shared)(u:Value),BindsTo s fd ⟨[u],[]⟩ [("script",u)])∧∀base:Heap,(K w.params).In base→base.Ns AH mg→FnOk l.prog w (K w.params) mg base Ir 11 fa fd ["script"] (ND (K w.params))):
 PySem.W.WalkO q loose XP YP l.row.toRowW d [] (λf vs=>PySem.call f vs):=
 L2.walk_of (n:=63) (k:=11) (x:="script") (CX:=λ_=>Ir) (sp:=λw=>ND (K w.params)) hn (by decide) hdf ⟨rfl,by decide,by decide,rfl⟩ hY F (λ_ _ a ns hl _ hS=>⟨a,ns,rfl,hS,hl,λ_=>rfl⟩) λ_ _ _ _ _ z=>z
end K15
namespace PySem.W.Fast
def tw14433768205028047040:=0
def tw3333672300886819104:=0
def tw15973098340096495200:=0
def tw3195185668916675200:=0
def tw7820274308614480832:=0
def tw3516984660900021216:=0
def tw117731473265836289:=0
def tw6190047997662854785:=0
def tw7532288480763459233:=0
def tw9786436356521023265:=0
def tw11169048388963214209:=0
def tw4506704560355843202:=0
def tw17859654245174246786:=0
def tw18080578598435569058:=0
def tw7880488971816109602:=0
def tw14628614988175746626:=0
def tw3264551713303308930:=0
def tw3514552148413012706:=0
def tw14463480009219449602:=0
def tw14166406228666030914:=0
def tw12524841548882485122:=0
def tw17468440058601263042:=0
def tw2462364170525412322:=0
def tw6406456693559193603:=0
def tw12012346497996965955:=0
def tw18089961840187926627:=0
def tw6375984151413186691:=0
def tw6779555249556386947:=0
def tw13578319988597447843:=0
def tw4196657039447951619:=0
def tw15839695121042538755:=0
def tw15506604575073899875:=0
def tw10113835603704264035:=0
def tw9617006625295334819:=0
def tw8651939756129784291:=0
def tw1043435102882330275:=0
def tw1829987188493143715:=0
def tw7962757830266151587:=0
def tw16997011882495926019:=0
def tw6640964850979513123:=0
def tw9737846244553008099:=0
def tw10796968656076120100:=0
def tw4797213982068564260:=0
def tw4763938376520400260:=0
def tw15436669670744897220:=0
def tw17188255125464518404:=0
def tw16706565163838141541:=0
def tw3566786455750546565:=0
def tw13785064563573136677:=0
def tw10751203111156189893:=0
def tw14445216636810608357:=0
def tw4247728107912174309:=0
def tw9354154833774548741:=0
def tw16956447396710876005:=0
def tw7788674524398582661:=0
def tw13235390912250239110:=0
def tw11476755858983862598:=0
def tw777996311304550822:=0
def tw4271557790179923526:=0
def tw12110978126275121766:=0
def tw11463505592818173574:=0
def tw2886168078931394214:=0
def tw6892610757566138022:=0
def tw1856494786580597510:=0
def tw15497349145115305287:=0
def tw5571009574427843975:=0
def tw11294507954642878951:=0
def tw12245691426271480519:=0
def tw9280065937251267271:=0
def tw7387328326724432647:=0
def tw3372144620529181447:=0
def tw6377391854549237511:=0
def tw7970711906015520615:=0
def tw4721854079888288872:=0
def tw4041089663278258312:=0
def tw8328629218085091816:=0
def tw11865038788645981832:=0
def tw14126810536304263848:=0
def tw3727705618514001864:=0
def tw5788110142626884649:=0
def tw16823307853366995049:=0
def tw12675721753716958569:=0
def tw2474987316147334729:=0
def tw9932106438042362505:=0
def tw10931346882827766441:=0
def tw11047540347161879465:=0
def tw13312214567809773513:=0
def tw8126116915622866986:=0
def tw13713688593670544458:=0
def tw6231218536407658634:=0
def tw7496071861716086954:=0
def tw9108158553236568298:=0
def tw110367094949453066:=0
def tw7901616227272153418:=0
def tw8059946334007911754:=0
def tw10977838825581995466:=0
def tw14552583529565643274:=0
def tw16652115270512269898:=0
def tw6271642000982087338:=0
def tw11958265787032176683:=0
def tw5290012869899691051:=0
def tw2670012002717331531:=0
def tw9759939999646072011:=0
def tw14956475286589316331:=0
def tw9334612253463946571:=0
def tw2272590244915032491:=0
def tw1485682785928968651:=0
def tw4453224588799619819:=0
def tw16660396384417016587:=0
def tw9075209177644753964:=0
def tw15646807371915408524:=0
def tw12212746786526029324:=0
def tw7775498536295619116:=0
def tw9334440027024108428:=0
def tw7980227264460909516:=0
def tw8020862909441920109:=0
def tw11630382012261629421:=0
def tw9430055920765562381:=0
def tw11236452085682001613:=0
def tw16823152165754216173:=0
def tw14110504091938427693:=0
def tw6792258908176762990:=0
def tw16727761898711566734:=0
def tw6225582907800760782:=0
def tw7413631440250370542:=0
def tw3225080075187704430:=0
def tw12256158287115146926:=0
def tw13887213973645885134:=0
def tw17097792687482994414:=0
def tw2234394340158897966:=0
def tw1049089114814165934:=0
def tw16874280986542326831:=0
def tw11165647023594115183:=0
def tw11699840803732175983:=0
def tw8531295424176050415:=0
def tw5108554982663316943:=0
def tw5573169195608149487:=0
def tw11132186228406753775:=0
def tw4814805213315276303:=0
def tw6005230457051810479:=0
def tw1697932842693935791:=0
def tw10774514888097700559:=0
def tw13880970264756169679:=0
def tw11461141855765244911:=0
def tw18067839004959889456:=0
def tw5436836315369913456:=0
def tw11715640981957081200:=0
def tw13404983262487596176:=0
def tw17247448737296029872:=0
def tw5743583693723553968:=0
def tw3404746549300393168:=0
def tw17542328766370737392:=0
def tw16342126919630597392:=0
def tw13473586631702539600:=0
def tw8775671614725296592:=0
def tw11198467360763615792:=0
def tw12493460814628454032:=0
def tw549602855429609136:=0
def tw14834012332752976624:=0
def tw18000723585515979857:=0
def tw10079526754142414033:=0
def tw10826167512534095217:=0
def tw6021614087471013361:=0
def tw17873384363515461137:=0
def tw6262472848045140497:=0
def tw2772464703211333201:=0
def tw2305416839012471377:=0
def tw15601938486543683185:=0
def tw16171265504408378993:=0
def tw17800837655819386545:=0
def tw15443090944801043153:=0
def tw5018924906007471857:=0
def tw8398869473766383409:=0
def tw12791318045437543313:=0
def tw4352478552890077234:=0
def tw13252158983634370770:=0
def tw11721284608645854546:=0
def tw5725427765500047698:=0
def tw7856759916036579826:=0
def tw3326344405260399186:=0
def tw5287314849569155826:=0
def tw10408231994733605714:=0
def tw4957701027830561618:=0
def tw14266871035100449650:=0
def tw911932350506077074:=0
def tw6092063806679381938:=0
def tw13691047195770015698:=0
def tw9041655412021764115:=0
def tw8593144904563181747:=0
def tw2465404278173197523:=0
def tw14228271310160106771:=0
def tw12927073632241962451:=0
def tw15810005813782171251:=0
def tw11500307070907560723:=0
def tw8018479829554870035:=0
def tw2876960010954310451:=0
def tw4361692599232655380:=0
def tw12898760012370214004:=0
def tw2307257431763837140:=0
def tw9755312596847145172:=0
def tw2416474666454698260:=0
def tw7645108479318683924:=0
def tw864078433677704628:=0
def tw97376146340097524:=0
def tw1242369098023977812:=0
def tw7603187566293135413:=0
def tw11662728238838433909:=0
def tw12004917910032511221:=0
def tw12948722378719241557:=0
def tw4307216766741071285:=0
def tw15504273175644197365:=0
def tw14079121189810827829:=0
def tw5273612787020873269:=0
def tw3312576044989335125:=0
def tw10066179180263719541:=0
def tw15849025655947530869:=0
def tw10560321615365893813:=0
def tw12367949065884952277:=0
def tw14758331473618442997:=0
def tw18265958422602157877:=0
def tw12361161858304494453:=0
def tw10747268288197550005:=0
def tw12340776152130443221:=0
def tw14839143457615526901:=0
def tw13723745277971228790:=0
def tw5645295616162138230:=0
def tw7380648631063936182:=0
def tw12130088591096210742:=0
def tw5704831098511316502:=0
def tw842342471210421078:=0
def tw5078642019065493462:=0
def tw7330309933256473558:=0
def tw3366009048806773079:=0
def tw10264226158645350935:=0
def tw13924707152088209111:=0
def tw18132482124593945431:=0
def tw10023125293043685464:=0
def tw5422044694465224856:=0
def tw12868416168511891992:=0
def tw2306353830500570808:=0
def tw3974554229535033048:=0
def tw18368143352154495800:=0
def tw11178421718103238520:=0
def tw14698701379998638968:=0
def tw7943275739111461848:=0
def tw12037312301781369816:=0
def tw16804614350893733913:=0
def tw17705250103145237593:=0
def tw10727101242769817721:=0
def tw12056866208507288697:=0
def tw7847751964497745625:=0
def tw3107876443711073209:=0
def tw1050481297564388378:=0
def tw16097329100860228762:=0
def tw1989975061747591322:=0
def tw6295309213450079418:=0
def tw13185141368263576890:=0
def tw5604675836647199130:=0
def tw15409484028611178938:=0
def tw2394985059766354426:=0
def tw12839420578199813658:=0
def tw6188378682728897082:=0
def tw13915059824362424890:=0
def tw12133095244117804794:=0
def tw4240689065678167866:=0
def tw1316749783407868890:=0
def tw72856604651460602:=0
def tw14272986418229801115:=0
def tw11597442406487106747:=0
def tw12987039712625011995:=0
def tw14939330427610902907:=0
def tw15068285901909782907:=0
def tw11587964382713745851:=0
def tw1474951669904353883:=0
def tw10232089765413616315:=0
def tw9983016355037154043:=0
def tw1484200873841633147:=0
def tw10129140911892217819:=0
def tw16727932946469690396:=0
def tw11011484690353863036:=0
def tw7302604218208133884:=0
def tw1304186911158652668:=0
def tw11144035623121764284:=0
def tw1910505600500941756:=0
def tw930017604491759580:=0
def tw16430009911263199228:=0
def tw13702922400851567677:=0
def tw14170444599252315197:=0
def tw3356690427350242397:=0
def tw11555784080043362589:=0
def tw8639596968491142589:=0
def tw14230320815463641565:=0
def tw6754677287059441245:=0
def tw17336258329977966269:=0
def tw17775127434633172765:=0
def tw5403161587461566397:=0
def tw8661591793755504605:=0
def tw15671058774289731549:=0
def tw11711421754069610654:=0
def tw17033894206913483966:=0
def tw5847166239378490622:=0
def tw10312564803581501022:=0
def tw12909847805995881214:=0
def tw9419243068356379390:=0
def tw6453317297113841406:=0
def tw12984751733148169022:=0
def tw10908594585457729374:=0
def tw17930905936555505534:=0
def tw6721692650130611295:=0
def tw16129211315650659423:=0
def tw10406493969263616159:=0
def tw17322768002786920895:=0
def tw6304446775950896991:=0
def tw3363475470965181311:=0
end PySem.W.Fast
open PySem PySem.W PyProof.Rows
set_option hygiene false in
local macro_rules | `(tactic| walk_at "kF")=> `(tactic| (refine' K15.KF.mk ?a (L2.fun_mk ?l ?c ?k);(case a=>k_is);(case l=>k_is);(case c=>k_is);(case k=>k_is)))
set_option hygiene false in
local macro_rules | `(tactic| walk_at "kD")=> `(tactic| (refine' K15.KFD.mk ?a (L2.funD_mk ?l ?c ?k ?t);(case a=>k_is);(case l=>k_is);(case c=>k_is);(case k=>k_is);(case t=>k_is)))
set_option maxRecDepth 100000 in
set_option maxHeartbeats 0 in
theorem PySem.Challenge.cw_newsways_k15_how_many_by_trial_holds : PySem.Challenge.rw_newsways_k15_how_many_by_trial.Holds := by
 w_on;o_law;k_head;(case hw=>w_witness2)
 k_fill
 refine K15.walk (l:=PySem.Challenge.rw_newsways_k15_how_many_by_trial) rfl rfl (λw h Y=>PySem.W.kIn_of Y) ?F
 case F=>
  intro w mg fa h KX G hmg;refine' K15.all_mk KX G hmg ?h1 ?h2 ?h3 ?h4 ?h5 ?h6 ?h7 ?h8 ?h9 ?h10 ?h11 ?h12 ?h13 ?h14 ?h15 ?h16 ?h17 ?h18 ?h19 ?h20 ?h21 ?h22 ?h23 ?h24 ?h25 ?h26 ?h27 ?h28 ?h29 ?h30 ?h31 ?h32 ?h33 ?h34 ?h35 ?h36 ?h37 ?h38 ?h39 ?h40 ?h41 ?h42 ?h43 ?e_MOST_LETTERS ?e_MOST_WISHES ?e_MOST_FIELDS  ?z_len ?z_range ?z_isinstance ?z_int ?z_bool ?z_tuple ?z_list ?z_max ?z_min ?z_all ?z_zip ?z_str ?z_dict ?z_sorted ?z_set ?z_any ?z_sum ?z_enumerate ?z_repr ?z_ord ?z_chr ?z_abs ?z_reversed
  (case h1=>walk_at "kF");(case h2=>walk_at "kF");(case h3=>walk_at "kF");(case h4=>walk_at "kF");(case h5=>walk_at "kF");(case h6=>walk_at "kF");(case h7=>walk_at "kF");(case h8=>walk_at "kF");(case h9=>walk_at "kF");(case h10=>walk_at "kF");(case h11=>walk_at "kF");(case h12=>walk_at "kF");(case h13=>walk_at "kF");(case h14=>walk_at "kF");(case h15=>walk_at "kF");(case h16=>walk_at "kF");(case h17=>walk_at "kF");(case h18=>walk_at "kF");(case h19=>walk_at "kF");(case h20=>walk_at "kF");(case h21=>walk_at "kF");(case h22=>walk_at "kF");(case h23=>walk_at "kF");(case h24=>walk_at "kF");(case h25=>walk_at "kF");(case h26=>walk_at "kD");(case h27=>walk_at "kF");(case h28=>walk_at "kF");(case h29=>walk_at "kF");(case h30=>walk_at "kF");(case h31=>walk_at "kF");(case h32=>walk_at "kF");(case h33=>walk_at "kF");(case h34=>walk_at "kF");(case h35=>walk_at "kF");(case h36=>walk_at "kF");(case h37=>walk_at "kF");(case h38=>walk_at "kF");(case h39=>walk_at "kF");(case h40=>walk_at "kF");(case h41=>walk_at "kF");(case h42=>walk_at "kF");(case h43=>walk_at "kF")
  (case e_MOST_LETTERS=>k_is);(case e_MOST_WISHES=>k_is);(case e_MOST_FIELDS=>k_is)
  (case z_len=>k_is);(case z_range=>k_is);(case z_isinstance=>k_is);(case z_int=>k_is);(case z_bool=>k_is);(case z_tuple=>k_is);(case z_list=>k_is);(case z_max=>k_is);(case z_min=>k_is);(case z_all=>k_is);(case z_zip=>k_is);(case z_str=>k_is);(case z_dict=>k_is);(case z_sorted=>k_is);(case z_set=>k_is);(case z_any=>k_is);(case z_sum=>k_is);(case z_enumerate=>k_is);(case z_repr=>k_is);(case z_ord=>k_is);(case z_chr=>k_is);(case z_abs=>k_is);(case z_reversed=>k_is)
