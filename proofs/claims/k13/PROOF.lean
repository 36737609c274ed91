import PyProof.Rows.All
import Wide.All
import OpenK.AllK
import Wide.FinOn
import Lean
import PyProof.EqAt
import PyProof.EqKinds
import PyProof.TupleCall
import PyProof.NeKinds
import KE.IntBitsLaws
import PyProof.StrWalks
import PyProof.FString5
import PyProof.ConsumeWalk
import PyProof.DictCompW
import PyProof.ZipIter
import PyProof.EnumMake
import PyProof.Rows.SetFrom
import KE.KRevSl
import PyProof.FitsBits
import PyProof.Rows.SortStr
import PyProof.StrBlockL
import PyProof.JoinWalk
import PyProof.AttrMissHeap
import PyProof.ListNew
import PyProof.DictUpdate
import PyProof.DictWalks
import KE.KSortTup
import PyProof.Rows.StrMeet
import KE.KSortKey
import PyProof.ListRange
import PyProof.SumAny
import PyProof.WalkInts
import PyProof.StationsW
import PyProof.RulesAs
import OpenK.KRaise
import PyProof.ExcInit
import PyProof.ExcBaseAll.ValueError
import PyProof.PassesOwn
import PyProof.NsDelKeeps
import PyProof.Rows.Catch
import PyProof.FString
import PyProof.Rows.FStr
import PyProof.ExcArgs
import PyProof.ExcAttrAll.ValueError
import PyProof.Rows.SortWalk
import PyProof.ReprRoads
import PyProof.ReprText
import PyProof.CallFns
import KE.KEqDict
import PyProof.AutoListH
import PyProof.SliceStr2
import PyProof.StrOps2
import PyProof.Rows.StrMadeLen
import PyProof.StrLawsIn
import PyProof.TupleKey
import PyProof.DictRoadsH
import KE.KLam
import PySem.Challenge.RW_newsways_k13_whole_cut_up
open Array renaming length_toList → AC, getElem?_eq_getElem → Bq, getElem?_toList → Cm, getElem?_eq_none → DV, getD_eq_getD_getElem? → EB, size_append → ES, toList_push → EV, getElem_toList → FZ
open Bool renaming false_ne_true → AA, and_eq_true → AB, false_eq_true → By, eq_iff_iff → Ch, not_eq_true' → DQ, and_true → Ec, and_false → E1, eq_false_iff → EX
open False renaming elim → C5
open Int renaming toNat_natCast → Bk, emod_lt_of_pos → BR, emod_nonneg → Cj, le_refl → D4
open List renaming length_map → Ab, mem_singleton → Af, mem_append_right → Ag, getElem?_map → Ai, map_append → Aj, getElem?_eq_getElem → Ak, getElem?_eq_some_iff → Al, mem_of_getElem? → Am, mem_append → Aq, mem_cons → As, size_toArray → Au, length_append → Aw, mem_map_of_mem → Ax, mem_cons_self → Az, mem_cons_of_mem → AE, length_cons → AF, length_take → AH, map_cons → AK, take_of_length_le → AL, getD_eq_getElem?_getD → AM, mem_map → AN, length → AX, drop_eq_getElem_cons → Ba, not_mem_nil → Bo, replicate → Bt, mem_append_left → BB, mem_of_mem_take → BC, length_drop → BM, map_map → BN, pairwise_cons → BQ, range → BV, Nodup → BW, all_eq_true → Cc, length_replicate → Ck, length_filter_le → Cn, lookup_cons → Cq, countP_append → Cu, map_take → Cv, mem_of_mem_drop → Cw, find?_cons → Cz, take_length → C6, getElem?_eq_none → CA, nodup_cons → CC, replicate_succ' → CF, map_drop → CI, any_eq_true → CM, take_append_drop → CV, append_assoc → CW, length_range → CZ, pairwise_iff_getElem → Db, mem_range → Dc, getElem_map → Dg, getElem_of_mem → Di, length_eq_zero_iff → Dj, all_cons → Dm, any_cons → Dn, mem_filter → Dp, filter_append → Dq, flatMap_cons → Dr, countP_singleton → Dv, eraseIdx_sublist → Dw, filter_cons → Dy, length_eraseIdx → Dz, mem_flatMap → D0, filterMap_cons → D5, mem_of_find?_eq_some → DA, mem_filterMap → DB, map_replicate → DH, lt_irrefl → DK, drop_of_length_le → DZ, find?_cons_of_neg → D_, length_pos_of_mem → Ea, length_singleton → Ef, eraseIdx_eq_take_drop_succ → Eh, append_nil → Ej, of_mem_zip → El, map_congr_left → Ex, countP_pos_iff → Ey, drop_zero → E3, getElem?_append_right → EE, nodup_append → EW, getElem?_append_left → EY, all_map → Fg, length_erase_of_mem → Fo, countP_cons → Fp, forIn_cons → Fy, foldl_cons → F2, find?_some → F3, getElem?_set_self → F4, range_succ_eq_map → FB, drop_eq_nil_of_le → FD, forIn_nil → FI, getElem?_toArray → FL, getElem?_set_ne → FT, getElem?_of_mem → FY, mem_erase_of_ne → Ga, flatMap_append → Go, find?_eq_none → Gq
open List.Perm renaming refl → FN
open List.cons renaming inj → EM
open Nat renaming le_refl → Ah, ne_of_lt → Ar, lt_of_lt_of_le → AD, zero_le → AQ, le_trans → AY, le_of_lt → Bz, lt_trans → BX, lt_of_le_of_lt → Cp, ne_of_gt → C1, lt_succ_self → C7, le_succ → CN, lt_or_ge → CT, lt_succ_of_lt → CY, lt_irrefl → Dl, le_add_right → Dx, not_lt_zero → D9, add_le_add_left → Gj
open Ne renaming symm → BK
open Option renaming map_some → Eo, isSome → EL, isSome_map → ET, isSome_iff_exists → Fd, getD_none → Fe, some_ne_none → Gn
open Option.some renaming inj → A5
open PyProof.Rows renaming seqObj → Bm, slot_tuple_getitem → BO, callWith_type1 → CO, callWith_builtin1 → Em, entry_list_sort → Fz, subscriptTail_builtinR → F6, slot_list_sort → FM
open PySem renaming wpAny_bind → Aa, wpAny_pure → Ac, sizeLine → Av, wpAny_mono → Ay, wpAny_loadPart' → AG, mainGlobals → AI, starEach → AR, wpAny_holding → AT, wpAny_call_entry → AV, wpAny_newObj_type → AW, wpAny_field → AZ, wpAny_callSpecial?_slot → Bb, wpAny_seqItems → Bd, codeAny_builtin → Be, bootBuiltins → Bf, plainId_quiet → Bi, foldedSetIterable → Bj, wpAny_truthy_bool → Bp, Program → Br, Around → Bu, wpAny_standAt → Bv, FuncData → BG, compareOp → BH, wpAny_rule → BI, wpAny_setField_rec → BJ, letOwnedTupleGo → BL, wpAny_setField → BP, cellsFrom → BS, sysModules → BU, wpAny_updateSeq → BZ, wpAny_richCompare_same_room → Ca, codeAny_mono → Cd, wpAny_letGo → Ce, wpAny_tryCatch → Cf, wpAny_setState_of → Cg, compStart → Cr, SetTable → Ct, wpAny_typeOf → C3, wpAny_pyIter_tuple → C8, wpAny_Call_Name_kw → C9, wpAny_comprehension_free → CD, codeAny_call_builtin → Da, wpAny_isInstance → De, wpAny_askSetting → Df, mem_of_lookup → Dh, wpAny_attempt → Do, wpAny_of_eq → D3, wpAny_passesOwn → D6, codeAny_loop → DE, builtinsNs → DI, wpAny_pyIter_list → DN, wpAny_dictEntries → DR, wpAny_noted → DT, wpAny_call → Ek, wpAny_specialOf → En, wpAny_updateSeq_pair → Er, wpAny_setEntries_of → Ew, wpAny_newTuple → E2, wpAny_newFunctionEnv_cells → EF, wpAny_onRaise → EJ, wpAny_newList → EK, wpAny_assign_Name → EO, wpAny_sequenceKey → ER, entryFor_of_tree → Fj, wpAny_forIn_list → Fn, wpAny_pyNext_tuple_item → Fq, wpAny_execs_nil → Fx, codeAny_of_tree → F0, wpAny_pyNext_tuple_end → F5, codeAny_compStart_list → F9, wpAny_listPart → FH
open PySem.Around renaming under_plainId → AO, in1_units → Bs
open PySem.AutoSeq1 renaming sub_list_list → DW, sub_tuple_tuple → Fm
open PySem.Builtin renaming sorted → Fl
open PySem.Builtin.Builtins renaming bindParams → CP
open PySem.Builtin.Dict renaming dictSlotArgs → Fc, updateFrom → Fv, samePairs → FE
open PySem.Builtin.Int renaming intBits → Eu
open PySem.Builtin.List renaming listSameRef → Co, listLengthHint → CQ, listExtendWith → CS, listSubscript? → E7, listAllItems → EZ, listTooLong → Ff
open PySem.Builtin.Slice renaming slicePlaces → C_, sliceAdjust → D7, sliceApplied → EG
open PySem.Builtin.SmallTypes renaming nextOf → A_, ownedTupleIsFree → BF, ownedTupleHandOut → Cs
open PySem.Builtin.Str renaming strSliceIndices → Bc, occurrences → DM
open PySem.Builtin.Tuple renaming tupleCompareSizes → CB, tupleExact → Dd, tupleItemsOf → EH
open PySem.Calls renaming spliced_cons → DC, Name_function_global → ED, spliced_nil → EQ, call_function_entry → Fb, callWith_builtin → F7, evalArgs_plain → FX
open PySem.F renaming slot_tuple_iterator_next → Bn, plainAttrs_list → Cb, args_tuple_iterator_next_1 → Cy, entry_tuple_iterator_next → C4, slot_list_append → CG, type_list_append → CH, plain_max_loop → CJ, plain_min_loop → CK, slot_enumerate_next → CU, plain_list_iadd → Dk, slot_zip_next → Dt, args_tuple_add_2 → DD, entry_tuple_add → DL, slot_tuple_add → DS, slot_dict_get → Eg, args_enumerate_next_1 → Es, entry_enumerate_next → E4, entry_proto_collect → E9, plain_proto_collect → EA, plain_extend_loop → E_, entry_max_loop → Fh, entry_min_loop → Fi, args_dict_get_3 → Fs, args_zip_next_1 → Ft, entry_list_iadd → Fu, entry_dict_get → F8, entry_zip_next → FC, slot_set_iter → FK, slot_list_pop → FO, type_list_pop → FP, slot_dict_eq → F_
open PySem.Heap renaming get?_push_of_some → Ad, get?_push_size → An, lt_size → Ao, get?_update_other → AS, get?_update_self → Bh, size_push → BA, SameBut → BD, ExtBut → DU, get?_none_of_le → FR, get?_update_ne → Gm
open PySem.Heap.IsTuple renaming push → EU
open PySem.Heap.SameBut renaming update → AU
open PySem.Manifest renaming signature? → Gk
open PySem.Obj renaming mapSeq → AJ, data_mapFields → DG, mapFields → Ed, isFreed_of_fields → FJ
open PySem.Paired renaming length → Eb
open PySem.PassesOwn renaming never → B_
open PySem.SeqAt renaming EqAt → DJ
open PySem.SeqAt.EqAt renaming same → D8, int_str → E5, str_int → E6, none_bool → FU, bool_none → FV, bool_bool → FW, none_int → Gb, none_str → Gc, bool_int → Gd, bool_str → Ge, int_none → Gf, int_bool → Gg, str_none → Gh, str_bool → Gi
open PySem.SeqAt.RcAt renaming lists_lengths → DF
open PySem.SeqAt.RcNeAt renaming lists_lengths → EI
open PySem.SetTable renaming grown → CL, below → Du
open PySem.Str renaming ofString → BE
open PySem.Value renaming isStrOf_shape → Et, isStrOf → EC
open PySem.W renaming Frag → Ae, kia_one → BY, kia_tup → Ci, cellsFrom_some → C2, fnOf → Ds, kitx_list → DO, kitx_dict → DP, OpenLaw → Ep, keepIn → Ez, methodObj → EN, instObj → Fw, lookIn → FF, codeIn → FG, CodeHd → FQ, codeHd_of_K → Gp
open PySem.W.KFB renaming if_not → E8
variable{s:PySem.Shared}{w:PySem.World}{A:PySem.Around}{E:PySem.Value→PySem.Shared→Prop}{pins:List (PySem.Addr×PySem.Obj)}{prog:PySem.Program}{pos:PySem.Pos}{h:PySem.Heap}{a:PySem.Addr}{b:PySem.Addr}{i:Nat}{n:Nat}{us:List PySem.Value}{P:PySem.Program}{u:PySem.Value}{e:PySem.Expr}{scope:PySem.Scope}
open PySem PySem.Spec PyProof.Rows
set_option Elab.async false
set_option linter.all false
set_option maxRecDepth 100000
namespace L2
abbrev HF:=Sum Int Str
def Lx:HF→Value→Bool
 | .inl k,v=>Value.isInt k v
 | .inr x,v=>EC x v
def Qo(w:World):HF→Int
 | .inl k=>hashInt k
 | .inr x=>hashStr w x
theorem KJ:∀{k:HF}{v:Value},Lx k v=true→(∃i t,k=Sum.inl i∧v=Value.int i t)∨(∃x t,k=Sum.inr x∧v=Value.str x t)
 | .inl i,v,h=>by obtain⟨t,e⟩:=Value.isInt_shape (k:=i) (v:=v) h;exact .inl ⟨i,t,rfl,e⟩
 | .inr x,v,h=>by obtain⟨t,e⟩:=Et (x:=x) (v:=v) h;exact .inr ⟨x,t,rfl,e⟩
theorem WO(i:Int)(t:Tok):Lx (.inl i) (.int i t)=true:=by simp[Lx,Value.isInt]
theorem WQ(x:Str)(t:Tok):Lx (.inr x) (.str x t)=true:=by simp[Lx,EC]
theorem UE(a b:Int):decide ((Sum.inl a:HF)=Sum.inl b)=(a==b):=by
 by_cases e:a=b
 · subst e;simp
 · have h:¬(Sum.inl a:HF)=Sum.inl b:=λq=>e (Sum.inl.inj q);rw[decide_eq_false h];exact(beq_eq_false_iff_ne.mpr e).symm
theorem UH(a b:Str):decide ((Sum.inr a:HF)=Sum.inr b)=decide (a=b):=by
 by_cases e:a=b
 · subst e;simp
 · have h:¬(Sum.inr a:HF)=Sum.inr b:=λq=>e (Sum.inr.inj q);rw[decide_eq_false h,decide_eq_false e]
theorem UF(a:Int)(b:Str):decide ((Sum.inl a:HF)=Sum.inr b)=false:=decide_eq_false (λq=>nomatch q)
theorem UG(a:Str)(b:Int):decide ((Sum.inr a:HF)=Sum.inl b)=false:=decide_eq_false (λq=>nomatch q)
def IL(prog:Br)(w:World):PySem.KeyKind prog w HF where
 is:=Lx
 hash:=Qo w
 inj:=λv a b ha hb=>by
  rcases KJ ha with⟨i,t,rfl,rfl⟩ | ⟨x,t,rfl,rfl⟩
  · rcases KJ hb with⟨j,u,rfl,e⟩ | ⟨y,u,rfl,e⟩
    · injection e with e1 _;rw[e1]
    · exact nomatch e
  · rcases KJ hb with⟨j,u,rfl,e⟩ | ⟨y,u,rfl,e⟩
    · exact nomatch e
    · injection e with e1 _;rw[e1]
 byValue:=λk v h=>by rcases KJ h with⟨i,t,rfl,rfl⟩ | ⟨x,t,rfl,rfl⟩<;>rfl
 pyHash:=λhv h=>by
  rcases KJ hv with⟨i,t,rfl,rfl⟩ | ⟨x,t,rfl,rfl⟩
  · exact wpAny_pyHash_int h
  · exact wpAny_pyHash_str h
 eqBool:=λhu hv h=>by
  rcases KJ hu with⟨i,t,rfl,rfl⟩ | ⟨x,t,rfl,rfl⟩
  · rcases KJ hv with⟨j,u,rfl,rfl⟩ | ⟨y,u,rfl,rfl⟩
    · rw[UE] at h;exact wpAny_eqBool_int h
    · rw[UF] at h;exact E5 i t y u _ _ _ _ h
  · rcases KJ hv with⟨j,u,rfl,rfl⟩ | ⟨y,u,rfl,rfl⟩
    · rw[UG] at h;exact E6 x t j u _ _ _ _ h
    · rw[UH] at h;exact wpAny_eqBool_str h
 «strs»:=λk x t v h=>by
  rcases KJ h with⟨i,u,rfl,e⟩ | ⟨y,u,rfl,e⟩
  · exact nomatch e
  · injection e with e1 _
    subst e1;cases v<;>rfl
theorem XN(prog:Br)(w:World)(k:HF)(v:Value):(IL prog w).is k v=Lx k v:=rfl
theorem Yf(prog:Br)(w:World)(i:Int)(t:Tok):(IL prog w).is (.inl i) (.int i t)=true:=WO i t
theorem Yg(prog:Br)(w:World)(x:Str)(t:Tok):(IL prog w).is (.inr x) (.str x t)=true:=WQ x t
inductive V where
 | non | bl (b:Bool) | int (i:Int) | str (x:Str) | byt (b:Array UInt8) | flt (b:UInt64) | ref (a:Addr) | ty (n:String)
 deriving DecidableEq
def RelV:V→Value→Prop
 | .non,u=>u=Value.none
 | .bl b,u=>u=Value.bool b
 | .int i,u=>∃t,u=Value.int i t
 | .str x,u=>∃t,u=Value.str x t
 | .byt b,u=>∃t,u=Value.bytes b t
 | .flt b,u=>∃t,u=Value.float b t
 | .ref a,u=>u=Value.ref a
 | .ty n,u=>u=Value.type n
abbrev Vals:List V→List Value→Prop:=Paired RelV
theorem Vals.length{xs:List V}(r:Vals xs us):xs.length=us.length:=Eb r
theorem Vals.get:∀{xs:List V}{us:List Value}{i:Nat}{x:V},Vals xs us→xs[i]?=some x→∃u,us[i]?=some u∧RelV x u
 | _,_,_,_,.nil,e=>by simp at e
 | _,_,0,_,.cons r _,e=>by simp at e;subst e;exact⟨_,rfl,r⟩
 | _,_,i+1,x,.cons _ t,e=>by obtain⟨u,h1,h2⟩:=Vals.get (i:=i) (x:=x) t (by simpa using e);exact⟨u,by simpa using h1,h2⟩
theorem Vals.set{x:V}(r:RelV x u):∀{xs:List V}{us:List Value}(i:Nat),Vals xs us→Vals (xs.set i x) (us.set i u)
 | _,_,_,.nil=> .nil
 | _,_,0,.cons _ t=> .cons r t
 | _,_,i+1,.cons q t=> .cons q (Vals.set r i t)
theorem Vals.append:∀{xs ys:List V}{us ws:List Value},Vals xs us→Vals ys ws→Vals (xs++ys) (us++ws)
 | _,_,_,_,.nil,s=>s
 | _,_,_,_,.cons r t,s=> .cons r (Vals.append t s)
theorem Vals.take:∀{xs:List V}{us:List Value}(n:Nat),Vals xs us→Vals (xs.take n) (us.take n)
 | _,_,0,_=> .nil
 | _,_,_+1,.nil=> .nil
 | _,_,n+1,.cons r t=> .cons r (Vals.take n t)
theorem Vals.drop:∀{xs:List V}{us:List Value}(n:Nat),Vals xs us→Vals (xs.drop n) (us.drop n)
 | _,_,0,r=>r
 | _,_,_+1,.nil=> .nil
 | _,_,n+1,.cons _ t=>Vals.drop n t
def RelO:Option V→Option Value→Prop
 | some v,some u=>RelV v u
 | none,none=>True
 | _,_=>False
def KV{κ:Type}:List (κ×V)→List (κ×Value)→Prop:=Paired λ(p:κ×V)(q:κ×Value)=>p.1=q.1∧RelV p.2 q.2
def kV:HF→V
 | .inl i=> .int i
 | .inr x=> .str x
inductive HO where
 | lst (xs:List V)
 | tup (xs:List V)
 | dK (kvs:List (HF×V)) | dT (kvs:List (List HF×V))
 | set (S:Int→Bool) (n:Nat)
 | ins (C dx:Addr) (fs:List (Str×V))
 | own (x:Addr)
 | xd (fs:List (Str×V))
 | met (f x:Addr)
 | rng (lo hi:Int)
 | frz (o:Obj) (u:HO)
 | tbl (ps:Array Value)
 | ext (φ:Heap→Prop)
def IsTupP(h:Heap)(a:Addr)(items:Array Value):Prop:=∃o,h.get? a=some o∧o.cls= .type "tuple"∧o.dict=none∧∃n,o.data= .seq items n
theorem IsTupP.tup{items:Array Value}(x:IsTupP h a items):IsTup h a items:=let⟨o,h1,h2,_,h3⟩:=x;⟨o,h1,h2,h3⟩
theorem IsTupP.new(h:Heap)(items:Array Value):IsTupP (h.push {cls:= .type "tuple",data:= .seq items}) h.objs.size items:=⟨_,An _ rfl,rfl,rfl,_,rfl⟩
abbrev Hp:=Addr→Option HO
def Hr(H:Hp)(a:Addr)(o:HO):Hp:=λb=>if b=a then some o else H b
theorem Hu{H:Hp}{o:HO}:Hr H a o a=some o:=by unfold Hr;rw[if_pos rfl]
theorem HD{H:Hp}{o:HO}(h:b≠a):Hr H a o b=H b:=by unfold Hr;rw[if_neg h]
theorem Vz{H:Hp}{o u:HO}:Hr (Hr H a o) a u=Hr H a u:=by funext b;unfold Hr;split<;>rfl
theorem K1{H:Hp}{o u:HO}(h:H a=some o)(h':H b=some u)(d:o≠u):a≠b:=by intro e;subst e;rw[h] at h';exact d (A5 h')
theorem IT{H:Hp}{o:HO}(h:H a=some o)(h':H b=none):a≠b:=by intro e;subst e;rw[h] at h';cases h'
section
variable(P:Br)(w:World)
def ObjOk(H:Hp)(h:Heap)(a:Addr):HO→Prop
 | .lst xs=>xs.length≤Av∧∃(its:List Value)(n:Nat),Vals xs its∧h.get? a=some {cls:= .type "list",data:= .seq its.toArray n}
 | .tup xs=>xs.length≤Av∧∃its:List Value,Vals xs its∧IsTupP h a its.toArray
 | .dK kvs=>kvs.length≤Av∧(a==BU)=false∧∃vs,KV kvs vs∧h.DictOf (IL P w) a vs
 | .dT kvs=>kvs.length≤Av∧(a==BU)=false∧∃xs:List (List HF×Addr×Value),
  Paired (λ(p:List HF×V)(q:List HF×Addr×Value)=>p.1=q.1∧H q.2.1=some (.tup (p.1.map kV))∧RelV p.2 q.2.2) kvs xs∧
  ∃o es ep,h.get? a=some o∧o.ExactDict∧o.data= .dict es ep∧es.toList=xs.map (entryOfKey (tupleKind (IL P w)))∧(xs.map (·.1)).Nodup
 | .set S n=>h.SetOf (intKind P w) a S n
 | .ins C dx fs=>H dx=some (.own a)∧fs.length≤1000∧dx≠a∧h.get? a=some (Fw C dx)∧
  ∃mA,h.Ns1 dx mA∧(∀f,RelO (fs.lookup f) (mA f))∧PySem.Within mA (fs.map (·.1))
 | .own _=>∃o,h.get? a=some o
 | .xd fs=>∃mA,h.Ns1 a mA∧∀f,RelO (fs.lookup f) (mA f)
 | .rng lo hi=>∃t u v,h.get? a=some {cls:= .type "range",data:= .fields #[.int lo t,.int hi u,.int 1 v]}
 | .frz o u=>h.get? a=some o∧ObjOk H h a u
 | .tbl ps=>h.get? a=some {cls:= .none,data:= .fields ps}
 | .met f x=>h.get? a=some (EN (.ref f) (.ref x))
 | .ext φ=>φ h∧(∃o,h.get? a=some o)∧∀h1 h2:Heap,φ h1→(∀o,h1.get? a=some o→h2.get? a=some o)→φ h2
def HOk(H:Hp)(h:Heap):Prop:=∀a o,H a=some o→ObjOk P w H h a o
end
section
variable{H H':Hp}{h':Heap}{o:HO}
theorem ObjOk.lt(x:ObjOk P w H h a o):a<h.objs.size:=by
 cases o with
 | lst xs=>obtain⟨_,_,_,_,e⟩:=x;exact Ao e
 | tup xs=>obtain⟨_,_,_,p⟩:=x;exact(show IsTupP _ _ _ from p).tup.lt
 | dK kvs=>obtain⟨_,_,_,_,o,_,_,e,_⟩:=x;exact Ao e
 | dT kvs=>obtain⟨_,_,_,_,o,_,_,e,_⟩:=x;exact Ao e
 | set S n=>obtain⟨o,_,_,_,e,_⟩:=x;exact Ao e
 | ins C dx fs=>obtain⟨_,_,_,e,_⟩:=x;exact Ao e
 | own y=>obtain⟨_,e⟩:=x;exact Ao e
 | xd fs=>obtain⟨_,⟨_,_,_,e,_⟩,_⟩:=x;exact Ao e
 | rng lo hi=>obtain⟨_,_,_,e⟩:=x;exact Ao e
 | frz ob u=>obtain⟨e,_⟩:=x;exact Ao e
 | tbl ps=>exact Ao (show h.get? a=some _ from x)
 | met f y=>exact Ao (show h.get? a=some _ from x)
 | ext φ=>obtain⟨_,⟨_,e⟩,_⟩:=x;exact Ao e
theorem Paired.mapP{α β:Type}{F G:α→β→Prop}:∀{l₁:List α}{l₂:List β},Paired F l₁ l₂→(∀a b,F a b→G a b)→Paired G l₁ l₂
 | _,_,.nil,_=> .nil
 | _,_,.cons r t,f=> .cons (f _ _ r) (Paired.mapP t f)
theorem ObjOk.stay(x:ObjOk P w H h a o)(k:∀b u,(b=a∨H b=some (.own a))→h.get? b=some u→h'.get? b=some u)
 (ho:∀b,H b=some (.own a)→H' b=some (.own a)) (ht:∀b xs,H b=some (.tup xs)→H' b=some (.tup xs)):ObjOk P w H' h' a o:=by
 induction o with
 | lst xs=>obtain⟨z,its,n,r,e⟩:=x;exact⟨z,its,n,r,k _ _ (.inl rfl) e⟩
 | tup xs=>obtain⟨z,its,r,ob,e,c⟩:=x;exact⟨z,its,r,ob,k _ _ (.inl rfl) e,c⟩
 | dK kvs=>obtain⟨z,y,vs,r,ob,es,ep,e,c⟩:=x;exact⟨z,y,vs,r,ob,es,ep,k _ _ (.inl rfl) e,c⟩
 | dT kvs=> obtain⟨z,y,xs,r,ob,es,ep,e,c⟩:=x;exact⟨z,y,xs,Paired.mapP r λp q z=>⟨z.1,ht _ _ z.2.1,z.2.2⟩,ob,es,ep,k _ _ (.inl rfl) e,c⟩
 | set S n=>obtain⟨ob,es,ep,t,e,c⟩:=x;exact⟨ob,es,ep,t,k _ _ (.inl rfl) e,c⟩
 | ins C dx fs=> obtain⟨d,z,ne,e,mA,⟨od,es,ep,e2,c⟩,r⟩:=x;exact⟨ho _ d,z,ne,k _ _ (.inl rfl) e,mA,⟨od,es,ep,k _ _ (.inr d) e2,c⟩,r⟩
 | own y=>obtain⟨ob,e⟩:=x;exact⟨ob,k _ _ (.inl rfl) e⟩
 | xd fs=>obtain⟨mA,⟨od,es,ep,e,c⟩,r⟩:=x;exact⟨mA,⟨od,es,ep,k _ _ (.inl rfl) e,c⟩,r⟩
 | rng lo hi=>obtain⟨t,u,v,e⟩:=x;exact⟨t,u,v,k _ _ (.inl rfl) e⟩
 | frz ob u ih=>obtain⟨e,q⟩:=x;exact⟨k _ _ (.inl rfl) e,ih q⟩
 | tbl ps=> have e:h.get? a=some {cls:= .none,data:= .fields ps}:=x;show h'.get? a=some {cls:= .none,data:= .fields ps};exact k a _ (.inl rfl) e
 | met f y=> have e:h.get? a=some (EN (.ref f) (.ref y)):=x;show h'.get? a=some (EN (.ref f) (.ref y));exact k a _ (.inl rfl) e
 | ext φ=>obtain⟨p,⟨o,e⟩,st⟩:=x;exact⟨st _ _ p λo q=>k _ _ (.inl rfl) q,⟨o,k _ _ (.inl rfl) e⟩,st⟩
theorem HOk.lt(x:HOk P w H h)(e:H a=some o):a<h.objs.size:=(x a o e).lt
theorem HOk.fresh(x:HOk P w H h)(e:h.objs.size≤a):H a=none:=by
 cases q:H a with
 | none=>rfl
 | some u=>exact absurd (AD (x.lt q) e) (Dl _)
theorem HOk.kept(x:HOk P w H h)(k:∀b u,h.get? b=some u→h'.get? b=some u):HOk P w H h':=λa o e=>
 (x a o e).stay (λb u _ q=>k b u q) (λ_ q=>q) λ_ _ q=>q
theorem HOk.laid(x:HOk P w H h)(k:∀b u,h.get? b=some u→h'.get? b=some u)(hp:h.objs.size≤a)(new:ObjOk P w (Hr H a o) h' a o):HOk P w (Hr H a o) h':=λb u e=>by
 have hn:=x.fresh hp;by_cases hb:b=a
 · subst hb;rw[Hu] at e;cases e;exact new
 · rw[HD hb] at e;exact(x b u e).stay (λc v _ q=>k c v q) (λc q=>by rw[HD (IT q hn)];exact q) λc xs q=>by rw[HD (IT q hn)];exact q
end
def Rd(H:Hp)(a:Addr)(u:HO):Prop:=H a=some u∨∃o,H a=some (.frz o u)
theorem Rd.ok{H:Hp}{u:HO}(r:Rd H a u)(x:HOk P w H h):ObjOk P w H h a u:=by
 rcases r with r | ⟨o,r⟩
 · exact x a u r
 · obtain⟨_,q⟩:=x a _ r;exact q
def Nk:Option HO→Prop
 | some (.lst _)=>True
 | some (.dK _)=>True
 | some (.dT _)=>True
 | some (.set _ _)=>True
 | some (.ins _ _ _)=>True
 | some (.ext _)=>True
 | _=>False
section
variable{H:Hp}{h':Heap}{x e:Addr}{o':HO}
theorem HOk.write(ok:HOk P w H h)(mu:Nk (H x))(he:e=x∨H e=some (.own x))(k:∀b u,b≠e→h.get? b=some u→h'.get? b=some u)(heo:∃u,h'.get? e=some u)
 (new:ObjOk P w (Hr H x o') h' x o'):HOk P w (Hr H x o') h':=λb u q=>by
 have nown:∀c y,H c=some (.own y)→c≠x:=λc y r z=>by subst z;rw[r] at mu;exact mu
 have ntup:∀c xs,H c=some (.tup xs)→c≠x:=λc xs r z=>by subst z;rw[r] at mu;exact mu
 by_cases hb:b=x
 · subst hb;rw[Hu] at q;cases q;exact new
 · rw[HD hb] at q;by_cases hbe:b=e
   · have q':H b=some (.own x):=by
      rcases he with z | z
      · exact absurd (hbe.trans z) hb
      · rw[hbe];exact z
     rw[q] at q';cases q';obtain⟨v,hv⟩:=heo;exact⟨v,by rw[hbe];exact hv⟩
   · refine(ok b u q).stay (λc v hc r=>k c v ?_ r) (λc r=>by rw[HD (nown c b r)];exact r) λc xs r=>by rw[HD (ntup c xs r)];exact r
     rcases hc with rfl | hc
     · exact hbe
     · rintro rfl;rcases he with z | z
       · exact nown c b hc z
       · rw[hc] at z;cases z;exact hb rfl
end
structure Un(fs ex:List Addr)(H H':Hp)(h h':Heap):Prop where
 keep:∀b o,h.get? b=some o→H b=none→b ∉ fs→b ∉ ex→h'.get? b=some o
 slot:∀b o,h.get? b=some o→H b=none→b∈fs→b ∉ ex→∃sl,h'.get? b=some {o with slots:=sl}
 free:∀b o,h.get? b=some o→H b=none→b ∉ ex→H' b=none
 there:∀b o,h.get? b=some o→b ∉ ex→∃o',h'.get? b=some o'
 tups:∀b xs,H b=some (.tup xs)→H' b=some (.tup xs)
 frzs:∀b o u,H b=some (.frz o u)→H' b=some (.frz o u)
 tbls:∀b ps,H b=some (.tbl ps)→∃more,H' b=some (.tbl (ps++more))
section
variable{fs fs' ex ex':List Addr}{H H1 H2:Hp}{h1 h2 h':Heap}{x e:Addr}{o:HO}
theorem Un.any(u:Un fs ex H H1 h h1){ob:Obj}(q:h.get? b=some ob)(n:H b=none)(hx:b ∉ ex):∃sl,h1.get? b=some {ob with slots:=sl}:=by
 by_cases hb:b∈fs
 · exact u.slot b ob q n hb hx
 · exact⟨ob.slots,u.keep b ob q n hb hx⟩
theorem Un.kept(k:∀b u,h.get? b=some u→h'.get? b=some u):Un fs ex H H h h':=
 ⟨λb ob q _ _ _=>k b ob q,λb ob q _ _ _=>⟨ob.slots,k b ob q⟩,λ_ _ _ n _=>n,λb ob q _=>⟨ob,k b ob q⟩,λ_ _ q=>q,λ_ _ _ q=>q,λ_ ps q=>⟨#[],by rw[q];simp⟩⟩
theorem Un.refl:Un fs ex H H h h:=Un.kept λ_ _ q=>q
theorem Un.laid(k:∀b u,h.get? b=some u→h'.get? b=some u)(hp:h.objs.size≤a)(hn:H a=none):Un fs ex H (Hr H a o) h h' where
 keep:=λb u q _ _ _=>k b u q
 slot:=λb u q _ _ _=>⟨u.slots,k b u q⟩
 free:=λb u q n _=>by rw[HD (Ar (AD (Ao q) hp))];exact n
 there:=λb u q _=>⟨u,k b u q⟩
 tups:=λb xs q=>by rw[HD (IT q hn)];exact q
 frzs:=λb u xs q=>by rw[HD (IT q hn)];exact q
 tbls:=λb ps q=>⟨#[],by rw[HD (IT q hn),q];simp⟩
theorem Un.write(mu:Nk (H x))(he:e=x∨H e=some (.own x))(k:∀b u,b≠e→h.get? b=some u→h'.get? b=some u)(heo:∃u,h'.get? e=some u):Un fs ex H (Hr H x o) h h':=by
 have hx:∀b,H b=none→b≠x:=λb n z=>by subst z;rw[n] at mu;exact mu
 have hb:∀b,H b=none→b≠e:=λb n z=>by
  subst z;rcases he with r | r
  · exact hx b n r
  · rw[n] at r;cases r
 have hm:∀b u,H b=some u→¬Nk (some u)→b≠x:=λb u q nm z=>by subst z;rw[q] at mu;exact nm mu
 refine⟨λb u q n _ _=>k b u (hb b n) q,λb u q n _ _=>⟨u.slots,k b u (hb b n) q⟩,λb u q n _=>by rw[HD (hx b n)];exact n,λb u q _=>?_,
  λb xs q=>by rw[HD (hm b _ q λz=>z)];exact q,λb u xs q=>by rw[HD (hm b _ q λz=>z)];exact q,λb ps q=>⟨#[],by rw[HD (hm b _ q λz=>z),q];simp⟩⟩
 by_cases hbe:b=e
 · subst hbe;exact heo
 · exact⟨u,k b u hbe q⟩
end
def trk(h:Heap)(H:Hp):List Addr:=(BV h.objs.size).filter λa=>(H a).isSome
def Iy(h:Heap)(H:Hp):Heap:=PySem.W.hideAll h (trk h H)
theorem Sj(h:Heap)(H:Hp):(Iy h H).objs.size=h.objs.size:=PySem.W.hideAll_size _ _
theorem Sa{H:Hp}{o:Obj}(e:h.get? b=some o)(n:H b=none):(Iy h H).get? b=some o:=
 PySem.W.hideAll_get _ e λhm=>by have q:(H b).isSome=true:=(Dp.mp hm).2;rw[n] at q;simp at q
theorem Rp{H:Hp}{o:Obj}(e:(Iy h H).get? b=some o):h.get? b=some o∧H b=none:=by
 have e':h.get? b=some o:=PySem.W.of_hideAll (trk h H) e;refine⟨e',?_⟩;cases q:H b with
 | none=>rfl
 | some x=> have hm:b∈trk h H:=Dp.mpr ⟨Dc.mpr (Ao e'),by simp[q]⟩;have z:(Iy h H).get? b=none:=PySem.W.hideAll_none (trk h H) hm;rw[z] at e;cases e
def U4(g h:Heap)(L:Addr):List (Addr×Obj):=(BV h.objs.size).filterMap λa=>if a=L∨(g.get? a).isSome=true then none else(h.get? a).map λo=>(a,o)
def rest(g h:Heap)(L d:Addr):List (Addr×Obj):=(U4 g h L).filter λp=>decide (p.1≠d)
structure Mod(K:Ae)(mg:Str→Option Value)(base:Heap):Prop where
 kin:K.In base
 glob:base.Ns AI mg
 blt:∃mb,base.Ns DI mb∧∀x:Str,x≠"__name__"→mb x=Bf x
 nolimit:base.NoLimit
structure Cx where
 prog:Br
 w:World
 K:Ae
 mg:Str→Option Value
 base:Heap
 A:Bu
 N:List Str
 s₀:Shared
 H₀:Hp
 env:Env
 outer:List Env
 stack:List Env
 ex:List Addr
 fn:Str→Bool
 calm:Bool
 pn:List (Addr×Obj)
 xe:Value→Shared→Prop
def Kv(l:List Env):List Addr:=l.filterMap (·.frame)
abbrev Cx.fs(X:Cx):List Addr:=Kv X.outer
def Ol(sc:Scope)(x:Str):Prop:=sc.names.lookup x=some .local∨sc.names.lookup x=some .cell∨sc.names.lookup x=some .free
def Mq(sc:Scope)(x:Str):Prop:=sc.names.lookup x=some .local∨sc.names.lookup x=some .cell
def Qy(env:Env)(h:Heap)(m:Str→Option Value)(x:Str)(u:Value):Prop:=
 (env.kindOf x=some .local∧m x=some u)∨((env.kindOf x=some .cell∨env.kindOf x=some .free)∧∃c,env.cells.lookup x=some c∧h.IsCell c (some u))
structure Cx.Ok(X:Cx):Prop where
 mod:Mod X.K X.mg X.base
 kind:X.env.scope.kind= .function
 glob:X.env.globals=AI
 blt:X.env.builtins=DI
 above:X.s₀.heap.objs.size≤X.env.locals
 inj:∀x y c,X.env.cells.lookup x=some c→X.env.cells.lookup y=some c→x=y
 has:∀x,(X.env.kindOf x=some .cell∨X.env.kindOf x=some .free)→∃c,X.env.cells.lookup x=some c
 cab:∀x c,X.fn x=true→X.env.cells.lookup x=some c→X.s₀.heap.objs.size≤c
 hd:X.calm=true→X.A.handled=none
 frames:X.A.frames=some X.stack
 stk:X.stack=X.outer∨(X.stack=X.env::X.outer∧X.env.frame=some X.env.locals)
 exf:∀b∈X.ex,b≠X.env.locals∧∀x c,X.env.cells.lookup x=some c→c≠b
 bs:∀b o,X.base.get? b=some o→X.s₀.heap.get? b=some o∧X.H₀ b=none
 bsz:X.base.objs.size≤X.s₀.heap.objs.size
 noex:∀b o,X.base.get? b=some o→b ∉ X.ex
 exfs:∀b∈X.ex,b ∉ X.fs
 funs:X.s₀.heap.FunFrames X.base X.outer
 frf:∀b∈X.fs,X.H₀ b=none
structure Inv(X:Cx)(pins:List (Addr×Obj))(σ:List (Option V))(H:Hp)(s:Shared):Prop where
 ok:X.Ok
 os:s.os=X.s₀.os
 bare:AllBare s.gens
 base:Un X.fs X.ex X.H₀ H X.s₀.heap s.heap
 loc:∃m,s.heap.Ns X.env.locals m∧∀(i:Nat)(x:Str)(v:V),X.N[i]?=some x→σ[i]?=some (some v)→Ol X.env.scope x→∃u,RelV v u∧Qy X.env s.heap m x u
 cell:∀x c,X.env.cells.lookup x=some c→∃v,s.heap.IsCell c v
 free:H X.env.locals=none
 freeC:∀x c,X.env.cells.lookup x=some c→H c=none
 pin:∀p∈X.pn++pins,s.heap.get? p.1=some p.2∧H p.1=none∧p.1≠X.env.locals∧p.1 ∉ X.fs∧∀v,p.2.data≠ .cell v
 hok:HOk X.prog X.w H s.heap
 len:σ.length=X.N.length
section
variable{X:Cx}{σ:List (Option V)}{H H':Hp}{h':Heap}
theorem Cx.Ok.nofr(ok:X.Ok){o:Obj}(e:X.base.get? b=some o):b ∉ X.fs:=λhb=>by have:=(ok.funs.mem hb).1;rw[e] at this;cases this
theorem Inv.bs(I:Inv X pins σ H s):∀b o,X.base.get? b=some o→s.heap.get? b=some o∧H b=none:=λb o e=>
 ⟨I.base.keep b o (I.ok.bs b o e).1 (I.ok.bs b o e).2 (I.ok.nofr e) (I.ok.noex b o e),I.base.free b o (I.ok.bs b o e).1 (I.ok.bs b o e).2 (I.ok.noex b o e)⟩
theorem Inv.bk(I:Inv X pins σ H s):∀b o,X.base.get? b=some o→s.heap.get? b=some o:=λb o e=>(I.bs b o e).1
theorem Inv.mod(I:Inv X pins σ H s):Mod X.K X.mg X.base:=I.ok.mod
theorem Inv.kIn(I:Inv X pins σ H s):X.K.In s.heap:=I.ok.mod.kin.keeps I.bk
theorem Inv.lt(I:Inv X pins σ H s):X.env.locals<s.heap.objs.size:=let⟨_,hn,_⟩:=I.loc;hn.lt
theorem Inv.sz(I:Inv X pins σ H s):X.s₀.heap.objs.size≤s.heap.objs.size:=AY I.ok.above (Bz I.lt)
theorem Inv.nofs(I:Inv X pins σ H s)(h:s.heap.objs.size≤a):a ∉ X.fs:=λhb=>by obtain⟨_,o,ho,_⟩:=I.ok.funs.mem hb;exact absurd (AD (Ao ho) (AY I.sz h)) (Dl _)
theorem Inv.cne(I:Inv X pins σ H s):∀x c,X.env.cells.lookup x=some c→c≠X.env.locals:=λx c e z=>by obtain⟨v,o,ho,hd⟩:=I.cell x c e;obtain⟨m,⟨o',es,ep,ho',hd',_⟩,_⟩:=I.loc;rw[z,ho'] at ho;cases ho;rw[hd'] at hd;cases hd
theorem Inv.funs(I:Inv X pins σ H s):s.heap.FunFrames X.base X.outer:=by
 have all:∀(l:List Env),(∀b∈Kv l,b∈X.fs)→X.s₀.heap.FunFrames X.base l→s.heap.FunFrames X.base l:=by
  intro l
  induction l with
  | nil=>intro _ _;trivial
  | cons env r ih=> intro hs hl;obtain⟨hk,⟨L,o,hf,hn,ho,hd⟩,hr⟩:=hl;have hL:L∈X.fs:=hs L (by unfold Kv;rw[D5,hf];exact Az);obtain⟨sl,e⟩:=I.base.slot L o ho (I.ok.frf L hL) hL λz=>I.ok.exfs L z hL;exact⟨hk,⟨L,_,hf,hn,e,hd⟩,ih (λb hb=>hs b (by unfold Kv;rw[D5,hf];exact AE _ hb)) hr⟩
 exact all X.outer (λ_ hb=>hb) I.ok.funs
theorem Inv.stack(I:Inv X pins σ H s):s.heap.FunFrames X.base X.stack:=by
 rcases I.ok.stk with e | ⟨e,hf⟩
 · rw[e];exact I.funs
 · rw[e];obtain⟨m,hn,_⟩:=I.loc;refine .cons (by rw[I.ok.kind];decide) hf hn ?_ I.funs;exact FR (AY I.ok.bsz I.ok.above)
theorem Inv.stkSub(I:Inv X pins σ H s):∀b∈Kv X.stack,b∈X.env.locals::X.fs:=λb hb=>by
 rcases I.ok.stk with e | ⟨e,hf⟩
 · rw[e] at hb;exact AE _ hb
 · rw[e] at hb;unfold Kv at hb;rw[D5,hf] at hb;exact hb
theorem Inv.stkFree(I:Inv X pins σ H s):∀b∈Kv X.stack,H b=none:=λb hb=>by
 rcases As.mp (I.stkSub b hb) with e | hb
 · rw[e];exact I.free
 · obtain⟨_,o,ho,_⟩:=I.ok.funs.mem hb;exact I.base.free b o ho (I.ok.frf b hb) λz=>I.ok.exfs b z hb
theorem Inv.step{g':Array GenState}{t':Nat}{d':Drawn}{ch:List Addr}(I:Inv X pins σ H s)
 (hch:∀b∈ch,(b∈X.ex∨X.s₀.heap.objs.size≤b)∧b≠X.env.locals∧(∀x c,X.env.cells.lookup x=some c→c≠b)∧∀p∈X.pn++pins,p.1≠b)
 (keep:∀b o,b≠X.env.locals→b ∉ X.fs→b ∉ ch→s.heap.get? b=some o→H b=none→h'.get? b=some o)
 (slot:∀b o,b≠X.env.locals→b∈X.fs→b ∉ ch→s.heap.get? b=some o→H b=none→∃sl,h'.get? b=some {o with slots:=sl}) (free:∀b o,b ∉ ch→s.heap.get? b=some o→H b=none→H' b=none)
 (there:∀b o,b ∉ ch→s.heap.get? b=some o→∃o',h'.get? b=some o')
 (tups:∀b xs,H b=some (.tup xs)→H' b=some (.tup xs)) (frzs:∀b o u,H b=some (.frz o u)→H' b=some (.frz o u)) (tbls:∀b ps,H b=some (.tbl ps)→∃more,H' b=some (.tbl (ps++more)))
 (ns:∀m,s.heap.Ns X.env.locals m→h'.Ns X.env.locals m) (hok:HOk X.prog X.w H' h') (hg:AllBare g'):
 Inv X pins σ H' {s with heap:=h',gens:=g',drawn:=d',toks:=t'}:=by
 have neL:∀b o,X.s₀.heap.get? b=some o→b≠X.env.locals:=λb o e=>Ar (AD (Ao e) I.ok.above);have neC:∀b o,X.s₀.heap.get? b=some o→b ∉ X.ex→b ∉ ch:=λb o e hx hb=>by
  rcases(hch b hb).1 with z | z
  · exact hx z
  · exact absurd (AD (Ao e) z) (Dl _)
 have cellK:∀x c,X.env.cells.lookup x=some c→∀v,s.heap.IsCell c v→h'.IsCell c v:=λx c e v ⟨o,ho,hd⟩=>by
  have nch:c ∉ ch:=λz=>(hch c z).2.2.1 x c e rfl;by_cases hc:c∈X.fs
  · obtain⟨sl,q⟩:=slot c o (I.cne x c e) hc nch ho (I.freeC x c e);exact⟨_,q,hd⟩
  · exact⟨o,keep c o (I.cne x c e) hc nch ho (I.freeC x c e),hd⟩
 refine⟨I.ok,I.os,hg,⟨λb o e n hb hx=>?_,λb o e n hb hx=>?_,λb o e n hx=>?_,λb o e hx=>?_,λb xs e=>tups b xs (I.base.tups b xs e),λb o xs e=>frzs b o xs (I.base.frzs b o xs e),λb ps e=>?_⟩,?_,λx c e=>?_,?_,λx c e=>?_,λp hp=>?_,hok,I.len⟩
 · exact keep b o (neL b o e) hb (neC b o e hx) (I.base.keep b o e n hb hx) (I.base.free b o e n hx)
 · obtain⟨sl,e1⟩:=I.base.slot b o e n hb hx;obtain⟨sl',e2⟩:=slot b _ (neL b o e) hb (neC b o e hx) e1 (I.base.free b o e n hx);exact⟨sl',e2⟩
 · obtain⟨o',e1⟩:=I.base.there b o e hx;exact free b o' (neC b o e hx) e1 (I.base.free b o e n hx)
 · obtain⟨o',e1⟩:=I.base.there b o e hx;exact there b o' (neC b o e hx) e1
 · obtain⟨m1,e1⟩:=I.base.tbls b ps e;obtain⟨m2,e2⟩:=tbls b _ e1;exact⟨m1++m2,by rw[e2,Array.append_assoc]⟩
 · obtain⟨m,hn,hl⟩:=I.loc;refine⟨m,ns m hn,λi x v e1 e2 e3=>?_⟩;obtain⟨u,r,l⟩:=hl i x v e1 e2 e3;refine⟨u,r,?_⟩;rcases l with l | ⟨k,c,e,z⟩
   · exact .inl l
   · exact .inr ⟨k,c,e,cellK x c e _ z⟩
 · obtain⟨v,z⟩:=I.cell x c e;exact⟨v,cellK x c e v z⟩
 · obtain⟨m,⟨o,_,_,ho,_⟩,_⟩:=I.loc;exact free _ o (λz=>(hch _ z).2.1 rfl) ho I.free
 · obtain⟨v,o,ho,hd⟩:=I.cell x c e;exact free c o (λz=>(hch c z).2.2.1 x c e rfl) ho (I.freeC x c e)
 · obtain⟨e,n,ne,nf,d⟩:=I.pin p hp;have nch:p.1 ∉ ch:=λz=>(hch p.1 z).2.2.2 p hp rfl;exact⟨keep p.1 p.2 ne nf nch e n,free p.1 p.2 nch e n,ne,nf,d⟩
theorem Inv.un{t':Nat}(I:Inv X pins σ H s)(u:Un X.fs [] H H' s.heap h')(hok:HOk X.prog X.w H' h'):Inv X pins σ H' {s with heap:=h',toks:=t'}:=by obtain⟨m,⟨o,es,ep,ho,r⟩,_⟩:=id I.loc;obtain⟨sl,hL⟩:=u.any ho I.free (by simp);exact I.step (g':=s.gens) (d':=s.drawn) (ch:=[]) (λ_ z=>nomatch z) (λb o _ hb _ e n=>u.keep b o e n hb (by simp)) (λb o _ hb _ e n=>u.slot b o e n hb (by simp)) (λb o _ e n=>u.free b o e n (by simp)) (λb o _ e=>u.there b o e (by simp)) u.tups u.frzs u.tbls (λm' hm=>by obtain⟨o',es',ep',ho',r'⟩:=hm;rw[ho] at ho';cases ho';exact⟨_,es',ep',hL,r'⟩) hok I.bare
theorem Inv.call{g':Array GenState}{t':Nat}{d':Drawn}{ch:List Addr}(I:Inv X pins σ H s)(u:Un (Kv X.stack) ch H H' s.heap h')(hok:HOk X.prog X.w H' h')(hg:AllBare g')
 (hch:∀b∈ch,(b∈X.ex∨X.s₀.heap.objs.size≤b)∧b≠X.env.locals∧(∀x c,X.env.cells.lookup x=some c→c≠b)∧∀p∈X.pn++pins,p.1≠b):
 Inv X pins σ H' {s with heap:=h',gens:=g',drawn:=d',toks:=t'}:=by
 obtain⟨m,⟨o,es,ep,ho,r⟩,_⟩:=id I.loc;obtain⟨sl,hL⟩:=u.any ho I.free λz=>(hch _ z).2.1 rfl;exact I.step (ch:=ch) hch (λb o hL hb hc e n=>u.keep b o e n (λz=>(As.mp (I.stkSub b z)).elim hL hb) hc) (λb o _ _ hc e n=>u.any e n hc) (λb o hc e n=>u.free b o e n hc) (λb o hc e=>u.there b o e hc) u.tups u.frzs u.tbls (λm' hm=>by obtain⟨o',es',ep',ho',r'⟩:=hm;rw[ho] at ho';cases ho';exact⟨_,es',ep',hL,r'⟩) hok hg
theorem Inv.turned{t':Nat}{it:Addr}(I:Inv X pins σ H s)(k:∀b o,b≠it→s.heap.get? b=some o→h'.get? b=some o)(hn:H it=none)(hL:it≠X.env.locals)
 (h1:it∈X.ex∨X.s₀.heap.objs.size≤it) (h2:∀x c,X.env.cells.lookup x=some c→c≠it) (h3:∀p∈X.pn++pins,p.1≠it):Inv X pins σ H {s with heap:=h',toks:=t'}:=by
 have nit:∀b u,H b=some u→b≠it:=λb u e z=>by rw[z,hn] at e;cases e
 refine I.step (g':=s.gens) (d':=s.drawn) (ch:=[it]) (λb hb=>?_) (λb o _ _ hc e _=>k b o (λz=>hc (by simp[z])) e) (λb o _ _ hc e _=>⟨o.slots,k b o (λz=>hc (by simp[z])) e⟩) (λ_ _ _ _ n=>n)
  (λb o hc e=>⟨o,k b o (λz=>hc (by simp[z])) e⟩) (λ_ _ e=>e) (λ_ _ _ e=>e) (λb ps e=>⟨#[],by rw[e];simp⟩) (λm hm=>?_) (λb u e=>?_) I.bare
 · have e:b=it:=by simpa using hb
   subst e;exact⟨h1,hL,h2,h3⟩
 · obtain⟨o,es,ep,ho,r⟩:=hm;exact⟨o,es,ep,k _ o (BK hL) ho,r⟩
 · refine(I.hok b u e).stay (λc v hc q=>k c v ?_ q) (λ_ q=>q) λ_ _ q=>q;rcases hc with z | z
   · rw[z];exact nit b u e
   · exact nit c _ z
theorem Inv.tok(I:Inv X pins σ H s)(t:Nat):Inv X pins σ H {s with toks:=t}:=I.un (h':=s.heap) (t':=t) Un.refl I.hok
theorem Inv.kept{t':Nat}(I:Inv X pins σ H s)(k:∀b u,s.heap.get? b=some u→h'.get? b=some u):Inv X pins σ H {s with heap:=h',toks:=t'}:=I.un (Un.kept k) (I.hok.kept k)
theorem Inv.laid{o:HO}{t':Nat}(I:Inv X pins σ H s)(k:∀b u,s.heap.get? b=some u→h'.get? b=some u)(hp:s.heap.objs.size≤a)(new:ObjOk X.prog X.w (Hr H a o) h' a o):
 Inv X pins σ (Hr H a o) {s with heap:=h',toks:=t'}:=I.un (Un.laid k hp (I.hok.fresh hp)) (I.hok.laid k hp new)
theorem Inv.write{x e:Addr}{o:HO}{t':Nat}(I:Inv X pins σ H s)(mu:Nk (H x))(he:e=x∨H e=some (.own x))(k:∀b u,b≠e→s.heap.get? b=some u→h'.get? b=some u)(heo:∃u,h'.get? e=some u)
 (new:ObjOk X.prog X.w (Hr H x o) h' x o):Inv X pins σ (Hr H x o) {s with heap:=h',toks:=t'}:=I.un (Un.write mu he k heo) (I.hok.write mu he k heo new)
theorem Inv.pins_of{pins':List (Addr×Obj)}(I:Inv X pins σ H s)(h:∀p∈pins',s.heap.get? p.1=some p.2∧H p.1=none∧p.1≠X.env.locals∧p.1 ∉ X.fs∧∀v,p.2.data≠ .cell v):Inv X pins' σ H s:=
 ⟨I.ok,I.os,I.bare,I.base,I.loc,I.cell,I.free,I.freeC,λp hp=>(Aq.mp hp).elim (λz=>I.pin p (BB _ z)) (h p),I.hok,I.len⟩
theorem Sg{N:List Str}(hN:N.Nodup){j:Nat}{x:Str}(a:N[i]?=some x)(b:N[j]?=some x):i=j:=by obtain⟨h1,e1⟩:=Al.mp a;obtain⟨h2,e2⟩:=Al.mp b;exact(List.getElem_inj hN).mp (e1.trans e2.symm)
theorem Pp{M:Model}{A:Bu}{E:Value→Shared→Prop}{x:Str}{v:V}{Q:Unit→Shared→Prop}(I:Inv X pins σ H s)(hN:X.N.Nodup)(hi:X.N[i]?=some x)(hx:Mq X.env.scope x)(r:RelV v u)
 (h:∀s',Inv X pins (σ.set i (some v)) H s'→(∃a,BD a s.heap s'.heap∧(a=X.env.locals∨X.env.cells.lookup x=some a))→Q () s') (hf:X.fn x=true∨X.env.scope.names.lookup x=some .local:=by first | exact .inl rfl | exact .inr rfl | assumption):wpAny M A (storeName X.env x u) Q E s:=by
 obtain⟨m,hn,hl⟩:=id I.loc;have hcls:(X.env.scope.kind== .class || (X.env.scope.kind== .module && X.env.locals !=X.env.globals))=false:=by rw[I.ok.kind];rfl
 have hiσ:i<σ.length:=by rw[I.len];exact(Al.mp hi).1
 have cne:=I.cne;have tracked:∀{a:Addr}{h':Heap},(∃o,s.heap.get? a=some o∧H a=none)→BD a s.heap h'→HOk X.prog X.w H h':=λ{a h'}ha hs b ob e=>by
  obtain⟨_,_,hfree⟩:=ha;refine(I.hok b ob e).stay (λc w' hc q=>(hs.2 c ?_).trans q) (λ_ q=>q) λ_ _ q=>q;rintro rfl;rcases hc with rfl | hc
  · rw[hfree] at e;cases e
  · rw[hfree] at hc;cases hc
 rcases hx with hk | hk
 · refine wpAny_storeName_local hk hn (λh' hn' hs=>?_) hcls;obtain⟨oL,_,_,hoL,_⟩:=id hn;refine h _ ⟨I.ok,I.os,I.bare,⟨λb o e n hb hx=>?_,λb o e n hb hx=>?_,I.base.free,λb o e hx=>?_,I.base.tups,I.base.frzs,I.base.tbls⟩,⟨_,hn',λj y v' e1 e2 e3=>?_⟩,λy c e=>?_,I.free,I.freeC,λp hp=>?_,tracked ⟨oL,hoL,I.free⟩ hs,by simpa using I.len⟩ ⟨_,hs,.inl rfl⟩
   · exact(hs.2 b (Ar (AD (Ao e) I.ok.above))).trans (I.base.keep b o e n hb hx)
   · obtain⟨sl,e1⟩:=I.base.slot b o e n hb hx;exact⟨sl,(hs.2 b (Ar (AD (Ao e) I.ok.above))).trans e1⟩
   · obtain⟨o',e1⟩:=I.base.there b o e hx;exact⟨o',(hs.2 b (Ar (AD (Ao e) I.ok.above))).trans e1⟩
   · by_cases hj:j=i
     · subst hj;rw[hi] at e1;cases e1;rw[F4 hiσ] at e2;cases e2;exact⟨u,r,.inl ⟨hk,by simp⟩⟩
     · rw[FT (BK hj)] at e2;obtain⟨u',r',q⟩:=hl j y v' e1 e2 e3;refine⟨u',r',?_⟩;rcases q with⟨k,e⟩ | ⟨k,c,e,z⟩
       · refine .inl ⟨k,?_⟩;have:y≠x:=λe=>hj (Sg hN e1 (e ▸ hi));simp[this,e]
       · exact .inr ⟨k,c,e,z.sameBut hs (cne y c e)⟩
   · obtain⟨w',z⟩:=I.cell y c e;exact⟨w',z.sameBut hs (cne y c e)⟩
   · obtain⟨e,n,ne,nf,d⟩:=I.pin p hp;exact⟨(hs.2 p.1 ne).trans e,n,ne,nf,d⟩
 · have hfn:X.fn x=true:=by
    rcases hf with z | z
    · exact z
    · rw[z] at hk;cases hk
   obtain⟨c,hc⟩:=I.ok.has x (.inl hk);obtain⟨w',z⟩:=I.cell x c hc;refine wpAny_storeName_cell I.ok.kind hk hc z (λh' hc' hs=>?_);obtain⟨oc,hoc,hocd⟩:=id z;refine h {s with heap:=h'} ⟨I.ok,I.os,I.bare,⟨λb o e n hb hx=>?_,λb o e n hb hx=>?_,I.base.free,λb o e hx=>?_,I.base.tups,I.base.frzs,I.base.tbls⟩,⟨m,hn.sameBut hs (BK (cne x c hc)),λj y v' e1 e2 e3=>?_⟩,λy c' e=>?_,I.free,I.freeC,λp hp=>?_,tracked ⟨oc,hoc,I.freeC x c hc⟩ hs,by simpa using I.len⟩ ⟨c,hs,.inr hc⟩
   · exact(hs.2 b (Ar (AD (Ao e) (I.ok.cab x c hfn hc)))).trans (I.base.keep b o e n hb hx)
   · obtain⟨sl,e1⟩:=I.base.slot b o e n hb hx;exact⟨sl,(hs.2 b (Ar (AD (Ao e) (I.ok.cab x c hfn hc)))).trans e1⟩
   · obtain⟨o',e1⟩:=I.base.there b o e hx;exact⟨o',(hs.2 b (Ar (AD (Ao e) (I.ok.cab x c hfn hc)))).trans e1⟩
   · by_cases hj:j=i
     · subst hj;rw[hi] at e1;cases e1;rw[F4 hiσ] at e2;cases e2;exact⟨u,r,.inr ⟨.inl hk,c,hc,hc'⟩⟩
     · rw[FT (BK hj)] at e2;obtain⟨u',r',q⟩:=hl j y v' e1 e2 e3;refine⟨u',r',?_⟩;rcases q with q | ⟨k,c',e,z'⟩
       · exact .inl q
       · refine .inr ⟨k,c',e,z'.sameBut hs ?_⟩;rintro rfl;exact hj (Sg hN e1 (I.ok.inj _ _ _ e hc ▸ hi))
   · by_cases hcc:c'=c
     · subst hcc;exact⟨_,hc'⟩
     · obtain⟨w2,z2⟩:=I.cell y c' e;exact⟨w2,z2.sameBut hs hcc⟩
   · obtain⟨e,n,ne,nf,d⟩:=I.pin p hp;refine⟨(hs.2 p.1 ?_).trans e,n,ne,nf,d⟩;intro q;rw[q,hoc] at e;have q':oc=p.2:=A5 e;exact d w' (by rw[←q'];exact hocd)
theorem RV{M:Model}{A:Bu}{E:Value→Shared→Prop}{x:Str}{v:V}{Q:Unit→Shared→Prop}(I:Inv X pins σ H s)(hN:X.N.Nodup)(hi:X.N[i]?=some x)(hx:Mq X.env.scope x)(r:RelV v u)
 (h:∀s',Inv X pins (σ.set i (some v)) H s'→Q () s') (hf:X.fn x=true∨X.env.scope.names.lookup x=some .local:=by first | exact .inl rfl | exact .inr rfl | assumption):wpAny M A (storeName X.env x u) Q E s:=
 Pp I hN hi hx r (λs' I' _=>h s' I') hf
theorem Inv.call'{s':Shared}{ch:List Addr}(I:Inv X pins σ H s)(ho:s'.os=s.os)(u:Un (Kv X.stack) ch H H' s.heap s'.heap)(hok:HOk X.prog X.w H' s'.heap)(hg:AllBare s'.gens)
 (hch:∀b∈ch,(b∈X.ex∨X.s₀.heap.objs.size≤b)∧b≠X.env.locals∧(∀x c,X.env.cells.lookup x=some c→c≠b)∧∀p∈X.pn++pins,p.1≠b):Inv X pins σ H' s':=by
 obtain⟨h',g',d',t',o'⟩:=s';have e:o'=s.os:=ho;subst e;exact I.call (g':=g') (t':=t') (d':=d') u hok hg hch
end
abbrev XK:=Value→Option Addr→Hp→Prop
abbrev St:=List (Option V)
abbrev VK:=V→Hp→Prop
abbrev TE:=St→Hp→VK→Prop
abbrev TT:=St→Hp→(Bool→Hp→Prop)→Prop
abbrev TA:=St→Hp→(List V→Hp→Prop)→Prop
structure Ends where
 nx:St→Hp→Prop
 rt:VK
 bk:St→Hp→Prop:=λ_ _=>False
 ct:St→Hp→Prop:=λ_ _=>False
abbrev TS:=Ends→St→Hp→Prop
def EP(X:Cx)(pins:List (Addr×Obj))(σ:St)(Q:VK)(u:Value)(s':Shared):Prop:=∃v H',Inv X pins σ H' s'∧RelV v u∧Q v H'
def TP(X:Cx)(pins:List (Addr×Obj))(σ:St)(Q:Bool→Hp→Prop)(b:Bool)(s':Shared):Prop:=∃H',Inv X pins σ H' s'∧Q b H'
def AP(X:Cx)(pins:List (Addr×Obj))(σ:St)(Q:List V→Hp→Prop)(us:List Value)(s':Shared):Prop:=∃vs H',Inv X pins σ H' s'∧Vals vs us∧Q vs H'
def SP(X:Cx)(pins:List (Addr×Obj))(D:Ends)(f:Flow)(s':Shared):Prop:=
 match f with
 | .next=>∃σ' H',Inv X pins σ' H' s'∧D.nx σ' H'
 | .brk=>∃σ' H',Inv X pins σ' H' s'∧D.bk σ' H'
 | .cont=>∃σ' H',Inv X pins σ' H' s'∧D.ct σ' H'
 | .ret u=>∃v σ' H',Inv X pins σ' H' s'∧RelV v u∧D.rt v H'
def PE(X:Cx)(e:Expr)(t:TE):Prop:=
 ∀(pins:List (Addr×Obj))(s:Shared)(σ:St)(H:Hp)(Q:VK),Inv X pins σ H s→t σ H Q→wpAny (model X.prog X.w) X.A (eval e X.env) (EP X pins σ Q) X.xe s
def PT(X:Cx)(e:Expr)(t:TT):Prop:=
 ∀(pins:List (Addr×Obj))(s:Shared)(σ:St)(H:Hp)(Q:Bool→Hp→Prop),Inv X pins σ H s→t σ H Q→wpAny (model X.prog X.w) X.A (isTrue e X.env (eval e X.env)) (TP X pins σ Q) X.xe s
def PW(X:Cx)(e:Expr)(t:TT):Prop:=
 ∀(whole:Sem Value)(pins:List (Addr×Obj))(s:Shared)(σ:St)(H:Hp)(Q:Bool→Hp→Prop),Inv X pins σ H s→t σ H Q→wpAny (model X.prog X.w) X.A (isTrue e X.env whole) (TP X pins σ Q) X.xe s
theorem PW.pt{X:Cx}{t:TT}(h:PW X e t):PT X e t:=h _
def PA(X:Cx)(es:List Expr)(t:TA):Prop:=
 ∀(pos:Pos)(pins:List (Addr×Obj))(s:Shared)(σ:St)(H:Hp)(Q:List V→Hp→Prop),Inv X pins σ H s→t σ H Q→wpAny (model X.prog X.w) X.A (spliced (backTo pos (AR es X.env))) (AP X pins σ Q) X.xe s
def PS(X:Cx)(st:Stmt)(t:TS):Prop:=
 ∀(pins:List (Addr×Obj))(s:Shared)(σ:St)(H:Hp)(D:Ends),Inv X pins σ H s→t D σ H→wpAny (model X.prog X.w) X.A (exec st X.env) (SP X pins D) X.xe s
def PSs(X:Cx)(st:List Stmt)(t:TS):Prop:=
 ∀(pins:List (Addr×Obj))(s:Shared)(σ:St)(H:Hp)(D:Ends),Inv X pins σ H s→t D σ H→wpAny (model X.prog X.w) X.A (execs st X.env) (SP X pins D) X.xe s
theorem Hx{α:Type}{t:Sem α}{Q Q':α→Shared→Prop}{M:Model}(h:wpAny M A t Q E s)(hQ:∀a s,Q a s→Q' a s):wpAny M A t Q' E s:=Ay h hQ λ_ _ x=>x
section
variable{X:Cx}
def HW(i:Nat):TE:=λσ H Q=>∃v,σ[i]?=some (some v)∧Q v H
def tC(v:V):TE:=λ_ H Q=>Q v H
theorem US{x:Str}(hN:X.N[i]?=some x)(hv:Ol X.env.scope x)(hd:(x==("__debug__":Str))=false:=by decide)(hcd:(x==("__classdict__":Str))=false:=by decide):PE X (.Name x pos) (HW i):=by
 intro pins s σ H Q I h;obtain⟨v,e,h⟩:=h;obtain⟨m,hn,hl⟩:=I.loc;obtain⟨u,r,l⟩:=hl i x v hN e hv;have fin:EP X pins σ Q u s:=⟨v,H,I,r,h⟩;rcases l with⟨hk,hm⟩ | ⟨hk,c,hc,hcell⟩
 · exact wpAny_Name (wpAny_loadName_local I.ok.kind hk hn hm fin) hd
 · rcases hk with hk | hk
   · exact wpAny_Name (wpAny_loadName_cell I.ok.kind hk hc hcell fin) hd
   · exact wpAny_Name (wpAny_loadName_free I.ok.kind hk hc hcell fin hcd) hd
theorem Hv{i j pos}:PE X (.Constant (.int i) j pos) (tC (.int i)):=λ_ _ _ H _ I h=>wpAny_Constant_int ⟨.int i,H,I.tok _,⟨_,rfl⟩,h⟩
theorem Jp{b j pos}:PE X (.Constant (.bool b) j pos) (tC (.bl b)):=λ_ _ _ H _ I h=>Constant_bool ⟨.bl b,H,I,rfl,h⟩
theorem Jy{j pos}:PE X (.Constant .none j pos) (tC .non):=λ_ _ _ H _ I h=>Constant_none ⟨.non,H,I,rfl,h⟩
theorem L4{x j pos}:PE X (.Constant (.str x) j pos) (tC (.str x)):=λ_ _ _ H _ I h=>Calls.Constant_str ⟨.str x,H,I.tok _,⟨_,rfl⟩,h⟩
def Gl(X:Cx)(x:Str):Prop:=X.env.kindOf x=some .globalImplicit
theorem R5{E:Value→Shared→Prop}{σ:St}{H:Hp}{x:Str}{pos:Pos}{Q:Value→Shared→Prop}(I:Inv X pins σ H s)(hg:Gl X x)(hm:X.mg x=some u)(h:Q u s)
 (hd:(x==("__debug__":Str))=false:=by decide):wpAny (model X.prog X.w) X.A (eval (.Name x pos) X.env) Q E s:=
 ED I.ok.kind hg (Calls.loadGlobal_global (by rw[I.ok.glob];exact I.mod.glob.keeps I.bk) hm h) hd
theorem Lg{E:Value→Shared→Prop}{σ:St}{H:Hp}{x:Str}{pos:Pos}{Q:Value→Shared→Prop}(I:Inv X pins σ H s)(hg:Gl X x)(hm:X.mg x=none)(hv:Bf x=some u)(h:Q u s)
 (hn:x≠"__name__":=by decide) (hd:(x==("__debug__":Str))=false:=by decide):wpAny (model X.prog X.w) X.A (eval (.Name x pos) X.env) Q E s:=by
 obtain⟨mb,h1,h2⟩:=I.mod.blt;exact ED I.ok.kind hg (Calls.loadGlobal_builtin (by rw[I.ok.glob];exact I.mod.glob.keeps I.bk) hm (by rw[I.ok.blt];exact h1.keeps I.bk) ((h2 x hn).trans hv) h) hd
theorem OI{x:Str}{v:V}(hg:Gl X x)(hm:X.mg x=some u)(r:RelV v u)(hd:(x==("__debug__":Str))=false:=by decide):PE X (.Name x pos) (tC v):=
 λ_ _ _ H _ I h=>R5 I hg hm ⟨v,H,I,r,h⟩ hd
theorem IM{x:Str}{v:V}(hg:Gl X x)(hm:X.mg x=none)(hv:Bf x=some u)(r:RelV v u)(hn:x≠"__name__":=by decide)(hd:(x==("__debug__":Str))=false:=by decide):PE X (.Name x pos) (tC v):=
 λ_ _ _ H _ I h=>Lg I hg hm hv ⟨v,H,I,r,h⟩ hn hd
variable{a b:Expr}{ta tb:TE}
def PC(X:Cx)(op:CmpOp)(a b:Expr)(t:TE):Prop:=
 ∀(pins:List (Addr×Obj))(s:Shared)(σ:St)(H:Hp)(Q:VK),Inv X pins σ H s→t σ H Q→
  wpAny (model X.prog X.w) X.A (eval a X.env) (λv s₁=>wpAny (model X.prog X.w) X.A (eval b X.env) (λu s₂=>wpAny (model X.prog X.w) X.A (BH op v u) (EP X pins σ Q) X.xe s₂) X.xe s₁) X.xe s
theorem Sf(b:Expr){op:CmpOp}(h:op≠ .In)(h2:op≠ .NotIn):behindInMarks op b=false:=by
 have e1:(op==CmpOp.In)=false:=by cases op<;>first | rfl | exact absurd rfl h
 have e2:(op==CmpOp.NotIn)=false:=by cases op<;>first | rfl | exact absurd rfl h2
 cases b<;>simp[behindInMarks,e1,e2]
def PV(ta:TE):TE:=λσ H Q=>ta σ H λx H1=>Q (.bl (decide (x= .non))) H1
def Uo(ta:TE):TE:=λσ H Q=>ta σ H λx H1=>Q (.bl (!decide (x= .non))) H1
theorem RelV.none_iff{x:V}{v:Value}(r:RelV x v):(v==Value.none)=decide (x= .non):=by
 cases x with
 | non=>cases r;rfl
 | bl _=>cases r;rfl
 | int _=>obtain⟨t,rfl⟩:=r;rfl
 | str _=>obtain⟨t,rfl⟩:=r;rfl
 | byt _=>obtain⟨t,rfl⟩:=r;rfl
 | flt _=>obtain⟨t,rfl⟩:=r;rfl
 | ref _=>cases r;rfl
 | ty _=>cases r;rfl
theorem JD{j pos'}(ha:PE X a ta):PC X .Is a (.Constant .none j pos') (PV ta):=by intro pins s σ H Q I h;refine Hx (ha pins s σ H _ I h) λv s1 ⟨x,H1,I1,r1,q1⟩=>?_;exact Constant_none (is_none_gen ⟨.bl _,H1,I1,by rw[r1.none_iff];rfl,q1⟩)
theorem Kb{j pos'}(ha:PE X a ta):PC X .IsNot a (.Constant .none j pos') (Uo ta):=by intro pins s σ H Q I h;refine Hx (ha pins s σ H _ I h) λv s1 ⟨x,H1,I1,r1,q1⟩=>?_;exact Constant_none (isnot_none_gen ⟨.bl _,H1,I1,by rw[r1.none_iff];rfl,q1⟩)
def tB(t:TE):TT:=λσ H Q=>t σ H λx H1=>∃c,x= .bl c∧Q c H1
theorem LW{op:CmpOp}{t:TE}(h:PC X op a b t)(h1:behindInMarks op b=false:=by first | exact Sf _ (by decide) (by decide) | rfl):PE X (.Compare a [op] [b] pos) t:=λpins s σ H Q I hw=>wpAny_Compare1 (h pins s σ H Q I hw) h1
theorem IY{op:CmpOp}{t:TE}(h:PC X op a b t)(h1:behindInMarks op b=false:=by first | exact Sf _ (by decide) (by decide) | rfl):PT X (.Compare a [op] [b] pos) (tB t):=by intro pins s σ H Q I hw;refine wpAny_isTrue_Compare1 (Hx (h pins s σ H _ I hw) λv s1 h1=>Hx h1 λu s2 h2=>Hx h2 λc s3 ⟨x,H1,I1,r1,q1⟩=>?_) h1;obtain⟨d,rfl,q⟩:=q1;cases r1;exact Bp ⟨H1,I1,q⟩
theorem Ja{t:TE}(h:PE X e t)(he:∀whole,isTrue e X.env whole=(do let v ←whole;standAt e.pos;holding [v] (truthy v)):=by intro _;rfl):PT X e (tB t):=by intro pins s σ H Q I hw;refine isTrue_plain (Hx (h pins s σ H _ I hw) λv s1 ⟨x,H1,I1,r1,q1⟩=>?_) (he _);obtain⟨d,rfl,q⟩:=q1;cases r1;exact Bp ⟨H1,I1,q⟩
variable{tA tB':TT}{rest:List Expr}
def PZ(t u:TT):TT:=λσ H Q=>t σ H λc H1=>if c=true then u σ H1 Q else Q false H1
def Z3(t u:TT):TT:=λσ H Q=>t σ H λc H1=>if c=true then Q true H1 else u σ H1 Q
def PQ(t:TT):TT:=λσ H Q=>t σ H λc H1=>Q (!c) H1
theorem K8(ha:PT X a tA):PW X (.BoolOp .And [a] pos) tA:=by
 intro wh pins s σ H Q I h;refine isTrue_and (Hx (ha pins s σ H Q I h) λc s1 e=>?_);cases c with
 | true=>exact isTrue_and_nil e
 | false=>exact e
theorem JZ(ha:PT X a tA):PW X (.BoolOp .Or [a] pos) tA:=by
 intro wh pins s σ H Q I h;refine isTrue_or (Hx (ha pins s σ H Q I h) λc s1 e=>?_);cases c with
 | false=>exact isTrue_or_nil e
 | true=>exact e
theorem Kj(ha:PT X a tA)(hb:PW X (.BoolOp .And (b::rest) pos) tB'):PW X (.BoolOp .And (a::b::rest) pos) (PZ tA tB'):=by
 intro wh pins s σ H Q I h;refine isTrue_and (Hx (ha pins s σ H _ I h) λc s1 ⟨H1,I1,q1⟩=>?_);cases c with
 | true=>exact hb wh pins s1 σ H1 Q I1 q1
 | false=>exact⟨H1,I1,q1⟩
theorem JB(ha:PT X a tA)(hb:PW X (.BoolOp .Or (b::rest) pos) tB'):PW X (.BoolOp .Or (a::b::rest) pos) (Z3 tA tB'):=by
 intro wh pins s σ H Q I h;refine isTrue_or (Hx (ha pins s σ H _ I h) λc s1 ⟨H1,I1,q1⟩=>?_);cases c with
 | true=>exact⟨H1,I1,q1⟩
 | false=>exact hb wh pins s1 σ H1 Q I1 q1
theorem Jj(ha:PT X a tA):PT X (.UnaryOp .Not a pos) (PQ tA):=by intro pins s σ H Q I h;exact isTrue_not (ha pins s σ H (λc H1=>Q (!c) H1) I h)
def Uj(ta tb:TE):TE:=λσ H Q=>ta σ H λx H1=>∃c,x= .bl c∧if c=true then tb σ H1 Q else Q (.bl false) H1
def PN(ta tb:TE):TE:=λσ H Q=>ta σ H λx H1=>∃c,x= .bl c∧if c=true then Q (.bl true) H1 else tb σ H1 Q
def Up(ta:TE):TE:=λσ H Q=>ta σ H λx H1=>∃c,x= .bl c∧Q (.bl (!c)) H1
theorem K4{op}{t:TE}(h:PE X a t):PE X (.BoolOp op [a] pos) t:=λpins s σ H Q I hw=>BoolOp_one (h pins s σ H Q I hw)
theorem Lj(ha:PE X a ta)(hb:PE X (.BoolOp .And (b::rest) pos) tb):PE X (.BoolOp .And (a::b::rest) pos) (Uj ta tb):=by
 intro pins s σ H Q I h;refine BoolOp_and (Hx (ha pins s σ H _ I h) λv s1 ⟨x,H1,I1,r1,q1⟩=>?_);obtain⟨c,rfl,q1⟩:=q1;cases r1;refine Bp ?_;cases c with
 | true=>exact hb pins s1 σ H1 Q I1 q1
 | false=>exact⟨.bl false,H1,I1,rfl,q1⟩
theorem Oq(ha:PE X a ta)(hb:PE X (.BoolOp .Or (b::rest) pos) tb):PE X (.BoolOp .Or (a::b::rest) pos) (PN ta tb):=by
 intro pins s σ H Q I h;refine BoolOp_or (Hx (ha pins s σ H _ I h) λv s1 ⟨x,H1,I1,r1,q1⟩=>?_);obtain⟨c,rfl,q1⟩:=q1;cases r1;refine Bp ?_;cases c with
 | false=>exact hb pins s1 σ H1 Q I1 q1
 | true=>exact⟨.bl true,H1,I1,rfl,q1⟩
theorem QS(ha:PE X a ta):PE X (.UnaryOp .Not a pos) (Up ta):=by intro pins s σ H Q I h;refine UnaryOp_ (Hx (ha pins s σ H _ I h) λv s1 ⟨x,H1,I1,r1,q1⟩=>?_);obtain⟨c,rfl,q1⟩:=q1;cases r1;exact not_of (Bp ⟨.bl (!c),H1,I1,rfl,q1⟩)
def Z4(t:TT)(ta tb:TE):TE:=λσ H Q=>t σ H λc H1=>if c=true then ta σ H1 Q else tb σ H1 Q
theorem NG{c:Expr}(hc:PT X c tA)(ha:PE X a ta)(hb:PE X b tb):PE X (.IfExp c a b pos) (Z4 tA ta tb):=by
 intro pins s σ H Q I h;refine wpAny_IfExp (Hx (hc pins s σ H _ I h) λd s1 ⟨H1,I1,q1⟩=>?_);cases d with
 | true=>exact ha pins s1 σ H1 Q I1 q1
 | false=>exact hb pins s1 σ H1 Q I1 q1
end
def SqL(K:Ae)(H:Hp)(a:Addr)(xs:List V):Prop:=
 Rd H a (.lst xs)∨
  ∃(o:Obj)(its:Array Value)(n:Nat),K.lookup a=some o∧o.cls= .type "list"∧o.dict=none∧o.data= .seq its n∧its.size≤Av∧Vals xs its.toList
def SqT(K:Ae)(H:Hp)(a:Addr)(xs:List V):Prop:=
 Rd H a (.tup xs)∨
  ∃(o:Obj)(its:Array Value)(n:Nat),K.lookup a=some o∧o.cls= .type "tuple"∧o.data= .seq its n∧its.size≤Av∧Vals xs its.toList
def Qv:Value→Option V
 | .none=>some .non
 | .bool b=>some (.bl b)
 | .int i _=>some (.int i)
 | .str x _=>some (.str x)
 | .bytes b _=>some (.byt b)
 | .float b _=>some (.flt b)
 | .ref a=>some (.ref a)
 | .type n=>some (.ty n)
 | _=>none
theorem RelV.abs{x:V}(r:RelV x u):Qv u=some x:=by
 cases x with
 | non=>cases r;rfl
 | bl _=>cases r;rfl
 | int _=>obtain⟨t,rfl⟩:=r;rfl
 | str _=>obtain⟨t,rfl⟩:=r;rfl
 | byt _=>obtain⟨t,rfl⟩:=r;rfl
 | flt _=>obtain⟨t,rfl⟩:=r;rfl
 | ref _=>cases r;rfl
 | ty _=>cases r;rfl
theorem RelV.inj{x y:V}(r:RelV x u)(q:RelV y u):x=y:=A5 (r.abs.symm.trans q.abs)
theorem l0{α:Type}{P:List α→Prop}(h:P []):∀us:List α,us.length=0→P us
 | [],_=>h
theorem lS{α:Type}{n:Nat}{P:List α→Prop}(h:∀a us,us.length=n→P (a::us)):∀us:List α,us.length=n+1→P us
 | a::us,e=>h a us (Nat.succ.inj e)
theorem Vals.inj:∀{xs ys:List V}{us:List Value},Vals xs us→Vals ys us→xs=ys
 | _,_,_,.nil,.nil=>rfl
 | _,_,_,.cons r t,.cons r' t'=>by rw[r.inj r',Vals.inj t t']
section
variable{X:Cx}{σ:St}{H:Hp}{xs ys:List V}
theorem SqL.of{K:Ae}(h:H a=some (.lst xs)):SqL K H a xs:= .inl (.inl h)
theorem SqT.of{K:Ae}(h:H a=some (.tup xs)):SqT K H a xs:= .inl (.inl h)
theorem Inv.list(I:Inv X pins σ H s)(h:SqL X.K H a xs):∃its:List Value,Vals xs its∧PlainL s.heap a its.toArray∧xs.length≤Av:=by
 rcases h with h | ⟨o,its,n,hk,hc,hd,hs,hz,r⟩
 · obtain⟨z,its,n,r,e⟩:=h.ok I.hok;exact⟨its,r,⟨_,n,e,rfl,rfl,rfl⟩,z⟩
 · refine⟨its.toList,r,⟨o,n,I.kIn a o hk,hc,hd,by simpa using hs⟩,?_⟩;have e:=r.length;simp only[AC] at e;omega
theorem Inv.tuple(I:Inv X pins σ H s)(h:SqT X.K H a xs):∃its:List Value,Vals xs its∧IsTup s.heap a its.toArray∧xs.length≤Av:=by
 rcases h with h | ⟨o,its,n,hk,hc,hs,hz,r⟩
 · obtain⟨z,its,r,p⟩:=h.ok I.hok;exact⟨its,r,p.tup,z⟩
 · refine⟨its.toList,r,⟨o,I.kIn a o hk,hc,n,by simpa using hs⟩,?_⟩;have e:=r.length;simp only[AC] at e;omega
theorem Inv.list_inj(I:Inv X pins σ H s)(h:SqL X.K H a xs)(h':SqL X.K H a ys):xs=ys:=by
 obtain⟨its,r,⟨o,n,e,_,_,d⟩,_⟩:=I.list h;obtain⟨its',r',⟨o',n',e',_,_,d'⟩,_⟩:=I.list h';rw[e] at e';cases e';rw[d] at d';injection d' with d1 _;have:its=its':=by simpa using congrArg Array.toList d1
 subst this;exact r.inj r'
theorem Inv.tuple_inj(I:Inv X pins σ H s)(h:SqT X.K H a xs)(h':SqT X.K H a ys):xs=ys:=by
 obtain⟨its,r,⟨o,e,_,n,d⟩,_⟩:=I.tuple h;obtain⟨its',r',⟨o',e',_,n',d'⟩,_⟩:=I.tuple h';rw[e] at e';cases e';rw[d] at d';injection d' with d1 _;have:its=its':=by simpa using congrArg Array.toList d1
 subst this;exact r.inj r'
end
abbrev Cx.wish(X:Cx)(E:Value→Shared→Prop):Cx:={X with xe:=E}
abbrev Cx.nox(X:Cx):Cx:=X.wish λ_ _=>False
theorem Cx.Ok.wish{X:Cx}(ok:X.Ok)(E:Value→Shared→Prop):(X.wish E).Ok:=
 ⟨ok.mod,ok.kind,ok.glob,ok.blt,ok.above,ok.inj,ok.has,ok.cab,ok.hd,ok.frames,ok.stk,ok.exf,ok.bs,ok.bsz,ok.noex,ok.exfs,ok.funs,ok.frf⟩
theorem Cx.Ok.unwish{X:Cx}(ok:(X.wish E).Ok):X.Ok:=
 ⟨ok.mod,ok.kind,ok.glob,ok.blt,ok.above,ok.inj,ok.has,ok.cab,ok.hd,ok.frames,ok.stk,ok.exf,ok.bs,ok.bsz,ok.noex,ok.exfs,ok.funs,ok.frf⟩
section
variable{X:Cx}{σ:St}{H:Hp}
theorem Inv.wish(I:Inv X pins σ H s)(E:Value→Shared→Prop):Inv (X.wish E) pins σ H s:=⟨I.ok.wish E,I.os,I.bare,I.base,I.loc,I.cell,I.free,I.freeC,I.pin,I.hok,I.len⟩
theorem Inv.unwish(I:Inv (X.wish E) pins σ H s):Inv X pins σ H s:=⟨I.ok.unwish,I.os,I.bare,I.base,I.loc,I.cell,I.free,I.freeC,I.pin,I.hok,I.len⟩
theorem SP.unwish{D:Ends}{f:Flow}{s':Shared}(h:SP (X.wish E) pins D f s'):SP X pins D f s':=by
 cases f with
 | next=>obtain⟨σ',H',I,q⟩:=h;exact⟨σ',H',I.unwish,q⟩
 | brk=>obtain⟨σ',H',I,q⟩:=h;exact⟨σ',H',I.unwish,q⟩
 | cont=>obtain⟨σ',H',I,q⟩:=h;exact⟨σ',H',I.unwish,q⟩
 | ret u=>obtain⟨v,σ',H',I,r,q⟩:=h;exact⟨v,σ',H',I.unwish,r,q⟩
theorem PSs.nox{st:List Stmt}{t:TS}(h:PSs X.nox st t):PSs X st t:=λpins s σ H D I hw=> Ay (h pins s σ H D (I.wish _) hw) (λ_ _ q=>q.unwish) λ_ _ z=>C5 z
end
section
variable{X:Cx}{st:Stmt}{rest:List Stmt}{t u:TS}{te:TE}
def Um:TS:=λD σ H=>D.nx σ H
def LH(t u:TS):TS:=λD σ H=>t {D with nx:=u D} σ H
theorem Ii:PSs X [] Um:=λ_ _ σ H _ I h=>Fx ⟨σ,H,I,h⟩
theorem Hy(h1:PS X st t)(h2:PSs X rest u):PSs X (st::rest) (LH t u):=by
 intro pins s σ H D I h;refine wpAny_execs_cons (Hx (h1 pins s σ H {D with nx:=u D} I h) λf s1 q=>?_)
 cases f with
 | next=> obtain⟨σ',H',I',q⟩:=q;exact h2 pins s1 σ' H' D I' q
 | ret v=>exact q
 | brk=>exact q
 | cont=>exact q
theorem HB(h1:PS X st t):PSs X [st] t:=by
 intro pins s σ H D I h;refine wpAny_execs_cons (Hx (h1 pins s σ H D I h) λf s1 q=>?_);cases f with
 | next=>exact Fx q
 | ret v=>exact q
 | brk=>exact q
 | cont=>exact q
theorem Inv.quiet{σ:St}{H:Hp}(I:Inv X pins σ H s):interactive X.env=false:=by simp[interactive,I.ok.kind]
def Ul(te:TE):TS:=λD σ H=>te σ H λ_ H1=>D.nx σ H1
theorem KE(he:PE X e te)(hs:swapsWith e none pos.line X.env=pure false:=by rfl):PS X (.Expr e pos) (Ul te):=by intro pins s σ H D I h;exact wpAny_Expr_any (Hx (he pins s σ H _ I h) λv s1 ⟨x,H1,I1,r1,q1⟩=>⟨σ,H1,I1,q1⟩) I.quiet hs
def PM(te:TE):TS:=λD σ H=>te σ H D.rt
theorem HN(he:PE X e te):PS X (.Return (some e) pos) (PM te):=by intro pins s σ H D I h;exact wpAny_Return_some (Hx (he pins s σ H _ I h) λv s1 ⟨x,H1,I1,r1,q1⟩=>⟨x,σ,H1,I1,r1,q1⟩)
def PX(c:TT)(t u:TS):TS:=λD σ H=>c σ H λb H1=>if b=true then t D σ H1 else u D σ H1
theorem HZ{c:Expr}{a b:List Stmt}{tc:TT}(hc:PT X c tc)(ha:PSs X a t)(hb:PSs X b u):PS X (.If c a b pos) (PX tc t u):=by
 intro pins s σ H D I h;refine wpAny_If (Hx (hc pins s σ H _ I h) λd s1 ⟨H1,I1,q1⟩=>?_);cases d with
 | true=>exact ha pins s1 σ H1 D I1 q1
 | false=>exact hb pins s1 σ H1 D I1 q1
def Uw:TS:=λ_ _ _=>False
theorem NB:PS X st Uw:=λ_ _ _ _ _ _ h=>h.elim
end
abbrev TG:=V→St→Hp→(St→Hp→Prop)→Prop
abbrev Lp:=List V→St→Hp→(St→Hp→Prop)→Prop
def PG(X:Cx)(target:Expr)(t:TG):Prop:=
 ∀(pins:List (Addr×Obj))(s:Shared)(σ:St)(H:Hp)(v:V)(u:Value)(Q:St→Hp→Prop),Inv X pins σ H s→RelV v u→t v σ H Q→
  wpAny (model X.prog X.w) X.A (assign target X.env u) (λ_ s'=>∃σ' H',Inv X pins σ' H' s'∧Q σ' H') X.xe s
def Ni(X:Cx)(ts:List Expr)(t:Lp):Prop:=
 ∀(pins:List (Addr×Obj))(s:Shared)(σ:St)(H:Hp)(vs:List V)(us:List Value)(Q:St→Hp→Prop),Inv X pins σ H s→Vals vs us→t vs σ H Q→
  wpAny (model X.prog X.w) X.A (assignInOrder ((assignEach ts X.env).map (·.2)) us) (λ_ s'=>∃σ' H',Inv X pins σ' H' s'∧Q σ' H') X.xe s
abbrev LN:=V→V→V→Hp→(Hp→Prop)→Prop
def Nh(X:Cx)(t:LN):Prop:=
 ∀(pins:List (Addr×Obj))(s:Shared)(σ:St)(H:Hp)(o i v:V)(ov iv u:Value)(Q:Hp→Prop),Inv X pins σ H s→RelV o ov→RelV i iv→RelV v u→t o i v H Q→
  wpAny (model X.prog X.w) X.A (setItem ov iv u) (λ_ s'=>∃H',Inv X pins σ H' s'∧Q H') X.xe s
section
variable{X:Cx}
def JA(i:Nat):TG:=λv σ H Q=>Q (σ.set i (some v)) H
theorem HJ{x:Str}(hN:X.N.Nodup)(hi:X.N[i]?=some x)(hx:Mq X.env.scope x)(hf:X.fn x=true∨X.env.scope.names.lookup x=some .local:=by first | exact .inl rfl | exact .inr rfl | assumption):PG X (.Name x pos) (JA i):=by intro pins s σ H v u Q I r h;exact EO (RV I hN hi hx r (λs' I'=>⟨_,H,I',h⟩) hf)
def Qt:Lp:=λvs σ H Q=>vs=[]∧Q σ H
def T_(t:TG)(u:Lp):Lp:=λvs σ H Q=>∃v r,vs=v::r∧t v σ H λσ' H'=>u r σ' H' Q
theorem Jk:Ni X [] Qt:=by intro pins s σ H vs us Q I r h;obtain⟨e,h⟩:=h;subst e;cases r;exact assignInOrder_nil ⟨σ,H,I,h⟩
theorem H_{es:List Expr}{t:TG}{u:Lp}(h1:PG X e t)(h2:Ni X es u)
 (hs:(assignEach (e::es) X.env).map (·.2)=assign e X.env::(assignEach es X.env).map (·.2):=by rfl):Ni X (e::es) (T_ t u):=by
 intro pins s σ H vs us Q I r h;obtain⟨v,vr,e1,h⟩:=h;subst e1;cases r with
 | cons r rr=> rw[hs];refine assignInOrder_cons (Hx (h1 pins s σ H _ _ _ I r h) λ_ s1 ⟨σ1,H1,I1,q1⟩=>?_);exact h2 pins s1 σ1 H1 _ _ Q I1 rr q1
def Ng(K:Ae)(n:Nat)(t:Lp):TG:=λv σ H Q=>∃a xs,v= .ref a∧SqT K H a xs∧xs.length=n∧t xs σ H Q
theorem Jz{es:List Expr}{k:Nat}{t:Lp}{n:Nat}(hc:X.calm=true)(h:Ni X es t)
 (hn:(assignEach es X.env).length=n:=by rfl) (hst:(assignEach es X.env).findIdx? (·.1)=none:=by rfl):PG X (.Tuple es k pos) (Ng X.K n t):=by
 intro pins s σ H v u Q I r hw;obtain⟨a,xs,e1,hq,hl,hw⟩:=hw;subst e1;cases r;obtain⟨its,rv,ht,hz⟩:=I.tuple hq;refine assign_Tuple_tuple (I.ok.hd hc) ht (by simp[hn,←hl,rv.length]) hst λh' hx=>?_;have I1:Inv X pins σ H {s with heap:=h'}:=I.kept (t':=s.toks) λb o e=>hx b o (Ar (Ao e)) e
 exact h pins _ σ H xs _ Q I1 (by simpa using rv) hw
def Qs(to ti:TE)(t:LN):TG:=λv σ H Q=>to σ H λo H1=>ti σ H1 λi H2=>t o i v H2 λH3=>Q σ H3
theorem Ox{o i:Expr}{to ti:TE}{t:LN}(ho:PE X o to)(hi:PE X i ti)(hs:Nh X t)
 (ha:∀v,assign (.Subscript o i pos) X.env v=(do
  let ov ←holding [v] (eval o X.env)
  let iv ←holding [v,ov] (eval i X.env)
  standAt pos
  holding [v,ov,iv] (setItem ov iv v)
  release [v,ov,iv] []):=by intro _;rfl):PG X (.Subscript o i pos) (Qs to ti t):=by
 intro pins s σ H v u Q I r h;rw[ha];refine Aa (AT (Hx (ho pins s σ H _ I h) λov s1 ⟨x,H1,I1,r1,q1⟩=>?_));refine Aa (AT (Hx (hi pins s1 σ H1 _ I1 q1) λiv s2 ⟨y,H2,I2,r2,q2⟩=>?_));refine Aa (Bv (Aa (AT (Hx (hs pins s2 σ H2 x y v ov iv u _ I2 r1 r2 r q2) λ_ s3 ⟨H3,I3,q3⟩=>?_))));exact wpAny_release ⟨σ,H3,I3,q3⟩
def JR(te:TE)(g:TG):TS:=λD σ H=>te σ H λx H1=>g x σ H1 D.nx
theorem JQ{tg:Expr}{te:TE}{g:TG}(he:PE X e te)(hg:PG X tg g)(hs:swapsWithSole [tg] e pos.line X.env=pure false:=by rfl)(hw:swappedStores [tg] e X.env=pure none:=by rfl)
 (h1:(assignEach [tg] X.env).map (·.2)=[assign tg X.env]:=by rfl):PS X (.Assign [tg] e pos) (JR te g):=by
 intro pins s σ H D I h;refine wpAny_Assign_stores (Hx (he pins s σ H _ I h) λv s1 ⟨x,H1,I1,r1,q1⟩=>?_) hs hw;rw[h1];exact Hx (hg pins s1 σ H1 x v _ I1 r1 q1) λ_ s2 q=>q
theorem HK{x:Str}{te:TE}{pos':Pos}(hN:X.N.Nodup)(hi:X.N[i]?=some x)(hx:Mq X.env.scope x)(he:PE X e te)(hs:swapsWith e (some (.Name x pos')) pos.line X.env=pure false:=by rfl)(hf:X.fn x=true∨X.env.scope.names.lookup x=some .local:=by first | exact .inl rfl | exact .inr rfl | assumption):
 PS X (.Assign [.Name x pos'] e pos) (JR te (JA i)):=by
 intro pins s σ H D I h;refine wpAny_Assign_Name (Hx (he pins s σ H _ I h) λv s1 ⟨y,H1,I1,r1,q1⟩=>?_) hs;exact RV I1 hN hi hx r1 (λs2 I2=>⟨_,H1,I2,q1⟩) hf
end
section
variable{X:Cx}
end
structure It where
 go:Nat→Hp→Prop
 yld:Nat→Hp→V→Hp→Prop
 stop:Nat→Hp→Prop
def HA(X:Cx)(pins:List (Addr×Obj))(H:Hp)(b:Addr):Prop:=
 H b=none∧b≠X.env.locals∧b ∉ X.fs∧(b∈X.ex∨X.s₀.heap.objs.size≤b)∧(∀x c,X.env.cells.lookup x=some c→c≠b)∧∀p∈X.pn++pins,p.1≠b
theorem Inv.fpOk{X:Cx}{σ:St}{H H':Hp}(I:Inv X pins σ H s)(hb:s.heap.objs.size≤b)(hn:H' b=none):HA X pins H' b:=by
 refine⟨hn,C1 (AD I.lt hb),I.nofs hb,.inr (AY I.sz hb),λx c e z=>?_,λp hp z=>?_⟩
 · obtain⟨v,q⟩:=I.cell x c e;exact absurd (AD q.lt (by rw[z];exact hb)) (Dl _)
 · exact absurd (AD (Ao (I.pin p hp).1) (by rw[z];exact hb)) (Dl _)
structure Turn(P:Br)(w:World)(K:Ae)(tg:Expr)(J:It)(fp:List Addr)(it:Addr)(tn:Nat→Heap→Prop):Prop where
 mem:it∈fp
 obj:∀i h,tn i h→∀b∈fp,∃o,h.get? b=some o∧∀v,o.data≠ .cell v
 keep:∀i h h',tn i h→(∀b∈fp,∀o,h.get? b=some o→h'.get? b=some o)→tn i h'
 item:∀(X:Cx),X.prog=P→X.w=w→X.K=K→X.calm=true→∀(i:Nat)(pins:List (Addr×Obj))(s:Shared)(σ:St)(H:Hp)(E:Value→Shared→Prop),Inv X pins σ H s→(∀b∈fp,HA X pins H b)→tn i s.heap→J.go i H→
  wpAny (model P w) X.A (pyNext (.ref it)) (λr s1=>∃u,r=some u∧
   wpAny (model P w) X.A (BL tg (.ref it) u) (λ_ s2=>∃x H',Inv X pins σ H' s2∧RelV x u∧J.yld i H x H'∧tn (i+1) s2.heap∧∀b∈fp,H' b=none) E s1) E s
 done:∀(X:Cx),X.prog=P→X.w=w→X.K=K→X.calm=true→∀(i:Nat)(pins:List (Addr×Obj))(s:Shared)(σ:St)(H:Hp)(E:Value→Shared→Prop),Inv X pins σ H s→(∀b∈fp,HA X pins H b)→tn i s.heap→J.stop i H→
  wpAny (model P w) X.A (pyNext (.ref it)) (λr s1=>r=none∧Inv X pins σ H s1) E s
 self:∀(A:Bu)(i:Nat)(s:Shared)(Q:Value→Shared→Prop)(E:Value→Shared→Prop),tn i s.heap→Q (.ref it) s→wpAny (model P w) A (pyIter (.ref it)) Q E s
abbrev TI:=St→Hp→(It→Hp→Prop)→Prop
def TN(X:Cx)(pins:List (Addr×Obj))(σ:St)(tg:Expr)(R:It→Hp→Prop)(itv:Value)(s2:Shared):Prop:=
 ∃(it:Addr)(fp:List Addr)(tn:Nat→Heap→Prop)(J:It)(H':Hp),itv= .ref it∧Inv X pins σ H' s2∧Turn X.prog X.w X.K tg J fp it tn∧tn 0 s2.heap∧(∀b∈fp,HA X pins H' b)∧R J H'
def PI(X:Cx)(tg iter:Expr)(wi:TI):Prop:=
 ∀(pins:List (Addr×Obj))(s:Shared)(σ:St)(H:Hp)(R:It→Hp→Prop),Inv X pins σ H s→wi σ H R→
  wpAny (model X.prog X.w) X.A (eval iter X.env) (λv s1=>wpAny (model X.prog X.w) X.A (pyIter v) (TN X pins σ tg R) X.xe s1) X.xe s
theorem Ms{M:Model}{A:Bu}{E:Value→Shared→Prop}{tg:Expr}{it:Addr}{u:Value}{o:Obj}{n:String}{vs:Array Value}{Q:Unit→Shared→Prop}(ho:s.heap.get? it=some o)(hc:o.cls= .type n)(hd:o.data= .fields vs)
 (hn:["enumerate","zip","dict_itemiterator","dict_reverseitemiterator","odict_iterator","itertools.zip_longest","itertools.pairwise"].contains n=false) (hQ:Q () s):wpAny M A (BL tg (.ref it) u) Q E s:=by
 unfold BL;cases tg<;>first
  | exact Ac hQ
  | (cases u<;>first
   | exact Ac hQ
   | (refine Aa (wpAny_load ho ?_)
      rw[hc,hd];show wpAny M A (if(["enumerate","zip","dict_itemiterator","dict_reverseitemiterator","odict_iterator","itertools.zip_longest","itertools.pairwise"].contains n && vs[0]?==some (rawInt _))=true then _ else _) Q E s
      rw[if_neg (by intro h;rw[hn,Bool.false_and] at h;cases h)];exact Ac hQ))
def Ke(K:Ae)(a:Addr):It:=
 ⟨λi H=>∃xs x,SqL K H a xs∧xs[i]?=some x,λi H x H'=>H'=H∧∀xs,SqL K H a xs→xs[i]?=some x,λi H=>∃xs,SqL K H a xs∧xs.length≤i⟩
def KA(K:Ae)(a:Addr):It:=
 ⟨λi H=>∃xs x,SqT K H a xs∧xs[i]?=some x,λi H x H'=>H'=H∧∀xs,SqT K H a xs→xs[i]?=some x,λi H=>∃xs,SqT K H a xs∧xs.length≤i⟩
def Lq(lo:Int)(n:Nat):It:=⟨λi _=>i<n,λi H x H'=>H'=H∧x= .int (lo+i),λi _=>n≤i⟩
theorem XV{K:Ae}{tg:Expr}(a it:Addr):Turn P w K tg (Ke K a) [it] it (λi h=>h.IsListIter it a i) where
 mem:=by simp
 obj:=λi h st b hb=>by
  have e:b=it:=by simpa using hb
  subst e;obtain⟨o,e,c,d⟩:=st;exact⟨o,e,λv z=>by rw[d] at z;cases z⟩
 keep:=λi h h' st k=>st.at λo e=>k it (by simp) o e
 item:=by
  intro X hP hw hK hc i pins s σ H E I hf st hg;subst hP hw hK;obtain⟨xs,x,hq,hx⟩:=hg;obtain⟨its,rv,p,hz⟩:=I.list hq;obtain⟨u,hu,ru⟩:=rv.get hx;obtain⟨f0,f1,f2,f3,f4,f5⟩:=hf it (by simp);refine wpAny_pyNext_list_item st p.isList (x:=u) (by simpa using hu) λh' st' sb=>?_;have I1:Inv X pins σ H {s with heap:=h'}:=I.turned (t':=s.toks) (λb o hb e=>(sb.2 b hb).trans e) f0 f1 f3 f4 f5
  obtain⟨o,e,c,d⟩:=id st';exact⟨u,rfl,Ms (s:={s with heap:=h'}) e c d (by decide) ⟨x,H,I1,ru,⟨rfl,λys hy=>by rw[I.list_inj hy hq];exact hx⟩,st',λb hb=>(hf b hb).1⟩⟩
 done:=by intro X hP hw hK hc i pins s σ H E I hf st hg;subst hP hw hK;obtain⟨xs,hq,hx⟩:=hg;obtain⟨its,rv,p,hz⟩:=I.list hq;obtain⟨f0,f1,f2,f3,f4,f5⟩:=hf it (by simp);have hl:=rv.length;exact wpAny_pyNext_list_end (I.ok.hd hc) st p.isList (by simp;omega) λh' eb=>⟨rfl,I.turned (t':=s.toks) (λb o hb e=>eb b o hb e) f0 f1 f3 f4 f5⟩
 self:=λ_ _ _ _ _ st h=>wpAny_pyIter_listiter st h
theorem Xz{K:Ae}{tg:Expr}(a it:Addr):Turn P w K tg (KA K a) [it] it (λi h=>h.IsTupleIter it a i) where
 mem:=by simp
 obj:=λi h st b hb=>by
  have e:b=it:=by simpa using hb
  subst e;obtain⟨o,e,c,d⟩:=st;exact⟨o,e,λv z=>by rw[d] at z;cases z⟩
 keep:=λi h h' st k=>st.at λo e=>k it (by simp) o e
 item:=by
  intro X hP hw hK hc i pins s σ H E I hf st hg;subst hP hw hK;obtain⟨xs,x,hq,hx⟩:=hg;obtain⟨its,rv,p,hz⟩:=I.tuple hq;obtain⟨u,hu,ru⟩:=rv.get hx;obtain⟨f0,f1,f2,f3,f4,f5⟩:=hf it (by simp);refine Fq st (show s.heap.IsTuple a its.toArray from p) (x:=u) (by simpa using hu) λh' st' sb=>?_;have I1:Inv X pins σ H {s with heap:=h'}:=I.turned (t':=s.toks) (λb o hb e=>(sb.2 b hb).trans e) f0 f1 f3 f4 f5
  obtain⟨o,e,c,d⟩:=id st';exact⟨u,rfl,Ms (s:={s with heap:=h'}) e c d (by decide) ⟨x,H,I1,ru,⟨rfl,λys hy=>by rw[I.tuple_inj hy hq];exact hx⟩,st',λb hb=>(hf b hb).1⟩⟩
 done:=by intro X hP hw hK hc i pins s σ H E I hf st hg;subst hP hw hK;obtain⟨xs,hq,hx⟩:=hg;obtain⟨its,rv,p,hz⟩:=I.tuple hq;obtain⟨f0,f1,f2,f3,f4,f5⟩:=hf it (by simp);have hl:=rv.length;exact F5 (I.ok.hd hc) st (show s.heap.IsTuple a its.toArray from p) (by simp;omega) λh' eb=>⟨rfl,I.turned (t':=s.toks) (λb o hb e=>eb b o hb e) f0 f1 f3 f4 f5⟩
 self:=λ_ _ _ _ _ st h=>wpAny_pyIter_tupleiter st h
theorem Xy{K:Ae}{tg:Expr}(it:Addr)(lo:Int)(n:Nat):Turn P w K tg (Lq lo n) [it] it (λi h=>IsRangeIter h it (lo+(i:Nat)*1) ((n:Int) - (i:Nat)) 1) where
 mem:=by simp
 obj:=λi h st b hb=>by
  have e:b=it:=by simpa using hb
  subst e;exact⟨_,st,λv z=>by have z':Data.fields _=Data.cell v:=z;cases z'⟩
 keep:=λi h h' st k=>k it (by simp) _ st
 item:=by
  intro X hP hw hK hc i pins s σ H E I hf st hg;subst hP hw hK;obtain⟨f0,f1,f2,f3,f4,f5⟩:=hf it (by simp);have W:=Walks.range (prog:=X.prog) (w:=X.w) (I.ok.hd hc) it lo 1 n;refine W.item i s _ _ hg st λv h' tk hv st' kk=>?_;obtain⟨t,rfl⟩:=hv;have I1:Inv X pins σ H {s with heap:=h',toks:=tk}:=I.turned (λb o hb e=>kk b o (by simpa using hb) e) f0 f1 f3 f4 f5
  refine⟨_,rfl,Ms (s:={s with heap:=h',toks:=tk}) (n:="range_iterator") st' rfl rfl (by decide) ⟨.int (lo+i),H,I1,⟨t,?_⟩,⟨rfl,rfl⟩,st',λb hb=>(hf b hb).1⟩⟩
  rw[Int.mul_one]
 done:=by intro X hP hw hK hc i pins s σ H E I hf st hg;subst hP hw hK;obtain⟨f0,f1,f2,f3,f4,f5⟩:=hf it (by simp);exact wpAny_pyNext_range_end (I.ok.hd hc) st (by have:n≤i:=hg;omega) λh' eb=>⟨rfl,I.turned (t':=s.toks) (λb o hb e=>eb b o hb e) f0 f1 f3 f4 f5⟩
 self:=λ_ _ _ _ _ st h=>wpAny_pyIter_rangeiter st h
section
variable{X:Cx}{tg:Expr}
def QI(K:Ae)(tl:TE):TI:=λσ H R=>tl σ H λx H1=>∃a,x= .ref a∧(∃xs,SqL K H1 a xs)∧R (Ke K a) H1
def Nf(K:Ae)(tl:TE):TI:=λσ H R=>tl σ H λx H1=>∃a,x= .ref a∧(∃xs,SqT K H1 a xs)∧R (KA K a) H1
theorem JJ{l:Expr}{tl:TE}(hl:PE X l tl):PI X tg l (QI X.K tl):=by
 intro pins s σ H R I h;refine Hx (hl pins s σ H _ I h) λv s1 ⟨x,H1,I1,r1,q1⟩=>?_;obtain⟨a,e,⟨xs,hq⟩,q⟩:=q1;subst e;cases r1;obtain⟨its,rv,p,hz⟩:=I1.list hq;refine DN p.isList ?_;refine⟨s1.heap.objs.size,[s1.heap.objs.size],_,_,H1,rfl,I1.kept (t':=s1.toks) λb o e=>Ad _ e,XV a _,⟨_,An _ rfl,rfl,rfl⟩,λb hb=>?_,q⟩;have e:b=s1.heap.objs.size:=by simpa using hb
 subst e;exact I1.fpOk (Ah _) (I1.hok.fresh (Ah _))
theorem K5{l:Expr}{tl:TE}(hl:PE X l tl):PI X tg l (Nf X.K tl):=by
 intro pins s σ H R I h;refine Hx (hl pins s σ H _ I h) λv s1 ⟨x,H1,I1,r1,q1⟩=>?_;obtain⟨a,e,⟨xs,hq⟩,q⟩:=q1;subst e;cases r1;obtain⟨its,rv,p,hz⟩:=I1.tuple hq;refine C8 (show s1.heap.IsTuple a its.toArray from p) ?_;refine⟨s1.heap.objs.size,[s1.heap.objs.size],_,_,H1,rfl,I1.kept (t':=s1.toks) λb o e=>Ad _ e,Xz a _,⟨_,An _ rfl,rfl,rfl⟩,λb hb=>?_,q⟩;have e:b=s1.heap.objs.size:=by simpa using hb
 subst e;exact I1.fpOk (Ah _) (I1.hok.fresh (Ah _))
theorem Wm{σ:St}{H:Hp}{R:It→Hp→Prop}{E:Value→Shared→Prop}{lo hi:Int}{t u v:Tok}{tk:Nat}(I:Inv X pins σ H s)(h1: -(2^62)≤lo)(h2:lo<2^62)(h3: -(2^62)≤hi)(h4:hi<2^62)
 (q:R (Lq lo (hi - lo).toNat) H):wpAny (model X.prog X.w) X.A (pyIter (.ref s.heap.objs.size)) (TN X pins σ tg R) E {s with heap:=s.heap.push {cls:= .type "range",data:= .fields #[.int lo t,.int hi u,.int 1 v]},toks:=tk}:=by
 refine wpAny_pyIter_range (IsRange.new ..) (small_one h1 h2 h3 h4) ?_;have I1:Inv X pins σ H {s with heap:=s.heap.push {cls:= .type "range",data:= .fields #[.int lo t,.int hi u,.int 1 v]},toks:=tk}:=I.kept λb o e=>Ad _ e
 refine⟨(s.heap.push {cls:= .type "range",data:= .fields #[.int lo t,.int hi u,.int 1 v]}).objs.size,[(s.heap.push {cls:= .type "range",data:= .fields #[.int lo t,.int hi u,.int 1 v]}).objs.size],_,_,H,rfl,
  I1.kept (t':=tk) λb o e=>Ad _ e,Xy _ lo (hi - lo).toNat,?_,λb hb=>?_,q⟩
 · have e1:lo+((0:Nat):Int)*1=lo:=by simp
   have e2:(((hi - lo).toNat:Nat):Int) - ((0:Nat):Int)=Builtin.Range.rangeSize lo hi 1:=by rw[rangeSize_one];split<;>omega
   show IsRangeIter _ _ (lo+((0:Nat):Int)*1) ((((hi - lo).toNat:Nat):Int) - ((0:Nat):Int)) 1;rw[e1,e2];exact An _ rfl
 · have e:b=(s.heap.push {cls:= .type "range",data:= .fields #[.int lo t,.int hi u,.int 1 v]}).objs.size:=by simpa using hb
   subst e;exact I1.fpOk (Ah _) (I1.hok.fresh (Ah _))
def Ua(ta:TA):TI:=λσ H R=>ta σ H λvs H1=>∃j:Int,vs=[.int j]∧ -(2^62)≤j∧j<2^62∧R (Lq 0 j.toNat) H1
theorem Mj{a:Expr}{ta:TA}{p:Pos}(hg:Gl X "range")(hm:X.mg "range"=none)(ha:PA X [a] ta)(hs:AR [a] X.env=[(false,eval a X.env)]:=by rfl):PI X tg (.Call (.Name "range" p) [a] [] pos) (Ua ta):=by
 intro pins s σ H R I h;refine Call_ (Lg I hg hm boot_range (CO (Hx (ha pos pins s σ H _ I h) λus s1 ⟨vs,H1,I1,r1,q1⟩=>?_) hs rfl));obtain⟨j,e,q1,q2,q⟩:=q1;subst e;cases r1 with
 | cons r rr=> cases rr;obtain⟨t,rfl⟩:=r;exact call_range_1 (Wm I1 (by omega) (by omega) q1 q2 (by simpa using q))
def PY(wi:TI)(g:TG)(tb:TS):TS:=λD σ H=>wi σ H λJ H1=>∃W:Nat→Nat→St→Hp→Prop,(∃m,W 0 m σ H1)∧∀i m σ H,W i m σ H→
 (J.stop i H∧D.nx σ H)∨(J.go i H∧∃N:St→Hp→Prop,(∀σ' H',N σ' H'→∃m',m'<m∧W (i+1) m' σ' H')∧∀x H',J.yld i H x H'→g x σ H' λσ2 H2=>tb {D with nx:=N,ct:=N,bk:=D.nx} σ2 H2)
def Jb(fp:List Addr)(h:Heap):List (Addr×Obj):=fp.filterMap λb=>(h.get? b).map λo=>(b,o)
theorem J8{fp:List Addr}{o:Obj}(hb:b∈fp)(e:h.get? b=some o):(b,o)∈Jb fp h:=DB.mpr ⟨b,hb,by rw[e];rfl⟩
theorem OY{fp:List Addr}{p:Addr×Obj}(hp:p∈Jb fp h):p.1∈fp∧h.get? p.1=some p.2:=by
 obtain⟨b,hb,e⟩:=DB.mp hp;cases q:h.get? b with
 | none=>rw[q] at e;cases e
 | some o=> rw[q] at e;have e':(b,o)=p:=A5 e;subst e';exact⟨hb,q⟩
theorem Inv.pinned{σ:St}{H:Hp}{fp:List Addr}(I:Inv X pins σ H s)(hf:∀b∈fp,HA X pins H b)(ho:∀b∈fp,∃o,s.heap.get? b=some o∧∀v,o.data≠ .cell v):Inv X (pins++Jb fp s.heap) σ H s:=
 I.pins_of λp hp=>(Aq.mp hp).elim (λz=>I.pin p (Ag _ z)) λz=>by obtain⟨hb,e⟩:=OY z;obtain⟨f0,f1,f2,_⟩:=hf p.1 hb;obtain⟨o,e',d⟩:=ho p.1 hb;rw[e] at e';cases e';exact⟨e,f0,f1,f2,d⟩
theorem Inv.unpinned{pl:List (Addr×Obj)}{σ:St}{H:Hp}(I:Inv X (pins++pl) σ H s):Inv X pins σ H s:=I.pins_of λp hp=>I.pin p (Ag _ (BB _ hp))
theorem Kl{iter:Expr}{body:List Stmt}{wi:TI}{g:TG}{tb:TS}{pos:Pos}(hp:PassesOwn (model X.prog X.w) X.A X.env X.xe)(hc:X.calm=true)(hi:PI X tg iter wi)(hg:PG X tg g)(hb:PSs X body tb)
 (hs:∀x,Bj iter X.env x=pure x:=by intro _;rfl):PS X (.For tg iter body [] pos) (PY wi g tb):=by
 intro pins s σ H D I h;refine wpAny_For (Hx (hi pins s σ H _ I h) λv s1 h1=>Hx h1 λitv s2 h2=>?_) hs;obtain⟨it,fp,tn,J,H2,e,I2,T,st2,f2,W,⟨m0,w0⟩,turn⟩:=h2;subst e;have stat:∀{H':Hp},(∀b∈fp,H' b=none)→∀b∈fp,HA X pins H' b:=λhn b hb=>⟨hn b hb,(f2 b hb).2⟩;refine codeAny_forLoop_any (λn s'=>∃i σ' H',Inv X pins σ' H' s'∧tn i s'.heap∧(∀b∈fp,H' b=none)∧W i n σ' H') ?_ m0 ⟨0,σ,H2,I2,st2,λb hb=>(f2 b hb).1,w0⟩;rintro n s3 ⟨i,σ3,H3,I3,st3,fr3,w3⟩;rcases turn i n σ3 H3 w3 with⟨stop,qn⟩ | ⟨go,N,hN,step⟩
 · refine D6 hp (Hx (T.done X rfl rfl rfl hc i pins s3 σ3 H3 X.xe I3 (stat fr3) st3 stop) λr s4 ⟨hr,I4⟩=>?_);subst hr;exact Fx ⟨σ3,H3,I4,qn⟩
 · refine D6 hp (Hx (T.item X rfl rfl rfl hc i pins s3 σ3 H3 X.xe I3 (stat fr3) st3 go) λr s4 ⟨u,hr,h4⟩=>?_);subst hr;refine D6 hp (Hx h4 λ_ s5 ⟨x,H5,I5,r5,y5,st5,fr5⟩=>?_);have I5':=I5.pinned (stat fr5) (T.obj _ _ st5);refine D6 hp (Hx (hg _ s5 σ3 H5 x u _ I5' r5 (step x H5 y5)) λ_ s6 ⟨σ6,H6,I6,q6⟩=>?_);refine D6 hp (Hx (hb _ s6 σ6 H6 _ I6 q6) λf s7 q7=>?_);have again:∀{σ7:St}{H7:Hp},Inv X (pins++Jb fp s5.heap) σ7 H7 s7→N σ7 H7→∃m,m<n∧∃i σ' H',Inv X pins σ' H' s7∧tn i s7.heap∧(∀b∈fp,H' b=none)∧W i m σ' H':=λ{σ7 H7}I7 n7=>by
    obtain⟨m',hm,w7⟩:=hN σ7 H7 n7;refine⟨m',hm,i+1,σ7,H7,I7.unpinned,T.keep _ _ _ st5 λb hb o e=>(I7.pin (b,o) (Ag _ (Ag _ (J8 hb e)))).1,λb hb=>?_,w7⟩;obtain⟨o,e,d⟩:=T.obj _ _ st5 b hb;exact(I7.pin (b,o) (Ag _ (Ag _ (J8 hb e)))).2.1
   cases f with
   | next=>obtain⟨σ7,H7,I7,n7⟩:=q7;exact again I7 n7
   | cont=>obtain⟨σ7,H7,I7,n7⟩:=q7;exact again I7 n7
   | brk=>obtain⟨σ7,H7,I7,q7⟩:=q7;exact⟨σ7,H7,I7.unpinned,q7⟩
   | ret v=>obtain⟨x7,σ7,H7,I7,r7,q7⟩:=q7;exact⟨x7,σ7,H7,I7.unpinned,r7,q7⟩
end
theorem NE{K:Ae}{xs:List V}{g:TG}{tb:TS}{D:Ends}{σ:St}{H:Hp}(Pv:Nat→St→Hp→Prop)(h0:Pv 0 σ H)(hl:∀i σ H,i≤xs.length→Pv i σ H→SqL K H a xs)
 (hs:∀i x σ H,xs[i]?=some x→Pv i σ H→g x σ H λσ2 H2=>tb {D with nx:=Pv (i+1),ct:=Pv (i+1),bk:=D.nx} σ2 H2) (hd:∀σ H,Pv xs.length σ H→D.nx σ H):
 ∃W:Nat→Nat→St→Hp→Prop,(∃m,W 0 m σ H)∧∀i m σ H,W i m σ H→
  ((Ke K a).stop i H∧D.nx σ H)∨((Ke K a).go i H∧∃N:St→Hp→Prop,(∀σ' H',N σ' H'→∃m',m'<m∧W (i+1) m' σ' H')∧∀x H',(Ke K a).yld i H x H'→g x σ H' λσ2 H2=>tb {D with nx:=N,ct:=N,bk:=D.nx} σ2 H2):=by
 refine⟨λi m σ H=>m=xs.length - i∧i≤xs.length∧Pv i σ H,⟨xs.length,by simp,AQ _,h0⟩,?_⟩;rintro i m σ H ⟨rfl,hi,p⟩;have q:=hl i σ H hi p;by_cases hlt:i<xs.length
 · refine .inr ⟨⟨xs,xs[i],q,by simp[hlt]⟩,Pv (i+1),λσ' H' p'=>⟨xs.length - (i+1),by omega,rfl,hlt,p'⟩,λx H' y=>?_⟩;obtain⟨e,y⟩:=y;subst e;exact hs i x σ _ (y xs q) p
 · have e:i=xs.length:=by omega
   subst e;exact .inl ⟨⟨xs,q,Ah _⟩,hd σ H p⟩
theorem O4{K:Ae}{xs:List V}{g:TG}{tb:TS}{D:Ends}{σ:St}{H:Hp}(Pv:Nat→St→Hp→Prop)(h0:Pv 0 σ H)(hl:∀i σ H,i≤xs.length→Pv i σ H→SqT K H a xs)
 (hs:∀i x σ H,xs[i]?=some x→Pv i σ H→g x σ H λσ2 H2=>tb {D with nx:=Pv (i+1),ct:=Pv (i+1),bk:=D.nx} σ2 H2) (hd:∀σ H,Pv xs.length σ H→D.nx σ H):
 ∃W:Nat→Nat→St→Hp→Prop,(∃m,W 0 m σ H)∧∀i m σ H,W i m σ H→
  ((KA K a).stop i H∧D.nx σ H)∨((KA K a).go i H∧∃N:St→Hp→Prop,(∀σ' H',N σ' H'→∃m',m'<m∧W (i+1) m' σ' H')∧∀x H',(KA K a).yld i H x H'→g x σ H' λσ2 H2=>tb {D with nx:=N,ct:=N,bk:=D.nx} σ2 H2):=by
 refine⟨λi m σ H=>m=xs.length - i∧i≤xs.length∧Pv i σ H,⟨xs.length,by simp,AQ _,h0⟩,?_⟩;rintro i m σ H ⟨rfl,hi,p⟩;have q:=hl i σ H hi p;by_cases hlt:i<xs.length
 · refine .inr ⟨⟨xs,xs[i],q,by simp[hlt]⟩,Pv (i+1),λσ' H' p'=>⟨xs.length - (i+1),by omega,rfl,hlt,p'⟩,λx H' y=>?_⟩;obtain⟨e,y⟩:=y;subst e;exact hs i x σ _ (y xs q) p
 · have e:i=xs.length:=by omega
   subst e;exact .inl ⟨⟨xs,q,Ah _⟩,hd σ H p⟩
theorem OV{lo:Int}{n:Nat}{g:TG}{tb:TS}{D:Ends}{σ:St}{H:Hp}(Pv:Nat→St→Hp→Prop)(h0:Pv 0 σ H)
 (hs:∀i σ H,i<n→Pv i σ H→g (.int (lo+i)) σ H λσ2 H2=>tb {D with nx:=Pv (i+1),ct:=Pv (i+1),bk:=D.nx} σ2 H2) (hd:∀σ H,Pv n σ H→D.nx σ H):
 ∃W:Nat→Nat→St→Hp→Prop,(∃m,W 0 m σ H)∧∀i m σ H,W i m σ H→
  ((Lq lo n).stop i H∧D.nx σ H)∨((Lq lo n).go i H∧∃N:St→Hp→Prop,(∀σ' H',N σ' H'→∃m',m'<m∧W (i+1) m' σ' H')∧∀x H',(Lq lo n).yld i H x H'→g x σ H' λσ2 H2=>tb {D with nx:=N,ct:=N,bk:=D.nx} σ2 H2):=by
 refine⟨λi m σ H=>m=n - i∧i≤n∧Pv i σ H,⟨n,by simp,AQ _,h0⟩,?_⟩;rintro i m σ H ⟨rfl,hi,p⟩;by_cases hlt:i<n
 · refine .inr ⟨hlt,Pv (i+1),λσ' H' p'=>⟨n - (i+1),by omega,rfl,hlt,p'⟩,λx H' y=>?_⟩;obtain⟨e,y⟩:=y;subst e y;exact hs i σ _ hlt p
 · have e:i=n:=by omega
   subst e;exact .inl ⟨Ah _,hd σ H p⟩
abbrev R2:=V→V→Hp→VK→Prop
def Iu(X:Cx)(f:Value→Value→Sem Value)(r:R2):Prop:=
 ∀(pins:List (Addr×Obj))(s:Shared)(σ:St)(H:Hp)(x y:V)(v u:Value)(Q:VK),Inv X pins σ H s→RelV x v→RelV y u→r x y H Q→
  wpAny (model X.prog X.w) X.A (f v u) (EP X pins σ Q) X.xe s
def J9(X:Cx)(f:Value)(r:List V→Hp→VK→Prop):Prop:=
 ∀(pins:List (Addr×Obj))(s:Shared)(σ:St)(H:Hp)(xs:List V)(us:List Value)(Q:VK),Inv X pins σ H s→Vals xs us→r xs H Q→
  wpAny (model X.prog X.w) X.A (call f us) (EP X pins σ Q) X.xe s
def Qw(X:Cx)(r:V→Hp→(Bool→Hp→Prop)→Prop):Prop:=
 ∀(pins:List (Addr×Obj))(s:Shared)(σ:St)(H:Hp)(x:V)(v:Value)(Q:Bool→Hp→Prop),Inv X pins σ H s→RelV x v→r x H Q→
  wpAny (model X.prog X.w) X.A (truthy v) (TP X pins σ Q) X.xe s
def Jh(r:R2)(ta tb:TE):TE:=λσ H Q=>ta σ H λx H1=>tb σ H1 λy H2=>r x y H2 Q
def rI(C:Int→Int→Prop)(g:Int→Int→V):R2:=λx y H Q=>∃i j,x= .int i∧y= .int j∧C i j∧Q (g i j) H
def JS(g:Int→Int→V):R2:=λx y H Q=>∃i j,x= .int i∧y= .int j∧Q (g i j) H
section
variable{X:Cx}{a b c:Expr}{ta tb tc:TE}
theorem LL(ha:PE X a ta)(hb:PE X b tb){σ:St}{H:Hp}{R:V→V→Hp→Prop}(I:Inv X pins σ H s)
 (h:ta σ H λx H1=>tb σ H1 λy H2=>R x y H2) {Q:Value→Shared→Prop} {f:Value→Value→Sem Value}
 (hf:∀v u s2 x y H2,Inv X pins σ H2 s2→RelV x v→RelV y u→R x y H2→wpAny (model X.prog X.w) X.A (f v u) Q X.xe s2):
 wpAny (model X.prog X.w) X.A (eval a X.env) (λv s₁=>wpAny (model X.prog X.w) X.A (eval b X.env) (λu s₂=>wpAny (model X.prog X.w) X.A (f v u) Q X.xe s₂) X.xe s₁) X.xe s:=by
 refine Hx (ha pins s σ H _ I h) λv s1 ⟨x,H1,I1,r1,q1⟩=>?_;refine Hx (hb pins s1 σ H1 _ I1 q1) λu s2 ⟨y,H2,I2,r2,q2⟩=>?_;exact hf v u s2 x y H2 I2 r1 r2 q2
theorem HC{op:Operator}{r:R2}(ho:Iu X (binaryOp op) r)(ha:PE X a ta)(hb:PE X b tb):PE X (.BinOp a op b pos) (Jh r ta tb):=by intro pins s σ H Q I h;exact wpAny_BinOp (LL ha hb I h λv u s2 x y H2 I2 rx ry q=>ho pins s2 σ H2 x y v u Q I2 rx ry q)
theorem MR{f:Value→Value→Sem Value}{C:Int→Int→Prop}{g:Int→Int→Int}
 (rule:∀(i j:Int)(t u:Tok)(s:Shared)(Q:Value→Shared→Prop)(E:Value→Shared→Prop),C i j→Q (.int (g i j) s.toks) {s with toks:=s.toks+1}→wpAny (model X.prog X.w) X.A (f (.int i t) (.int j u)) Q E s):
 Iu X f (rI C λi j=> .int (g i j)):=by
 intro pins s σ H x y v u Q I rx ry h;obtain⟨i,j,rfl,rfl,hc,q⟩:=h;obtain⟨t,rfl⟩:=rx;obtain⟨t',rfl⟩:=ry;exact rule i j t t' s _ _ hc ⟨.int (g i j),H,I.tok _,⟨_,rfl⟩,q⟩
theorem MQ{f:Value→Value→Sem Value}{g:Int→Int→Int}
 (rule:∀(i j:Int)(t u:Tok)(s:Shared)(Q:Value→Shared→Prop)(E:Value→Shared→Prop),Q (.int (g i j) s.toks) {s with toks:=s.toks+1}→wpAny (model X.prog X.w) X.A (f (.int i t) (.int j u)) Q E s):
 Iu X f (JS λi j=> .int (g i j)):=by
 intro pins s σ H x y v u Q I rx ry h;obtain⟨i,j,rfl,rfl,q⟩:=h;obtain⟨t,rfl⟩:=rx;obtain⟨t',rfl⟩:=ry;exact rule i j t t' s _ _ ⟨.int (g i j),H,I.tok _,⟨_,rfl⟩,q⟩
theorem KN{f:Value→Value→Sem Value}{g:Int→Int→Bool}
 (rule:∀(i j:Int)(t u:Tok)(s:Shared)(Q:Value→Shared→Prop)(E:Value→Shared→Prop),Q (.bool (g i j)) s→wpAny (model X.prog X.w) X.A (f (.int i t) (.int j u)) Q E s):
 Iu X f (JS λi j=> .bl (g i j)):=by
 intro pins s σ H x y v u Q I rx ry h;obtain⟨i,j,rfl,rfl,q⟩:=h;obtain⟨t,rfl⟩:=rx;obtain⟨t',rfl⟩:=ry;exact rule i j t t' s _ _ ⟨.bl (g i j),H,I,rfl,q⟩
def CMul(i j:Int):Prop:=(-(2^64)<i∧i<2^64)∨(-(2^64)<j∧j<2^64)
theorem CMul.ok{i j:Int}(h:CMul i j):IntMulOk i j:=by
 rcases h with⟨h1,h2⟩ | ⟨h1,h2⟩
 · exact .of_left (intBits_le_64 h1 h2)
 · exact .of_right (intBits_le_64 h1 h2)
theorem Ix:Iu X (binaryOp .Add) (JS λi j=> .int (i+j)):=MQ λ_ _ _ _ _ _ _ q=>add_int q
theorem KC:Iu X (binaryOp .Sub) (JS λi j=> .int (i - j)):=MQ λ_ _ _ _ _ _ _ q=>sub_int q
theorem L3:Iu X (binaryOp .Mult) (rI CMul λi j=> .int (i*j)):=MR λ_ _ _ _ _ _ _ hc q=>mul_int q hc.ok
theorem K3:Iu X (binaryOp .Mod) (rI (λ_ j=>0<j) λi j=> .int (i%j)):=MR λi j _ _ _ _ _ hc q=>by have h1:(0:Int)<j:=hc;exact mod_int' (by omega) (by rw[Int.fmod_eq_emod_of_nonneg i (by omega)];exact q)
end
def ML:V→V→Bool
 | .non,.non=>true | .non,.int _=>true | .int _,.non=>true | .non,.bl _=>true | .bl _,.non=>true | .non,.str _=>true | .str _,.non=>true
 | .int _,.int _=>true | .bl _,.bl _=>true | .str _,.str _=>true | .byt _,.byt _=>true
 | .int _,.str _=>true | .str _,.int _=>true | .bl _,.str _=>true | .str _,.bl _=>true
 | _,_=>false
def Z7:R2:=λx y H Q=>ML x y=true∧Q (.bl (decide (x=y))) H
def Z6:R2:=λx y H Q=>ML x y=true∧Q (.bl (!decide (x=y))) H
theorem Rn{i j:Int}:decide (V.int i=V.int j)=(i==j):=by rw[Ch];simp
theorem QK{i j:Bool}:decide (V.bl i=V.bl j)=(i==j):=by rw[Ch];simp
theorem Ro{i j:Str}:decide (V.str i=V.str j)=(i==j):=by rw[Ch];simp
theorem Rm{i j:Array UInt8}:decide (V.byt i=V.byt j)=(i.toList==j.toList):=by rw[Ch];cases i;cases j;simp
section
variable{X:Cx}{a b c:Expr}{ta tb tc:TE}
theorem Iw{σ:St}{H:Hp}{Q:VK}{k k':Bool}(I:Inv X pins σ H s)(q:Q (.bl k) H)(e:k=k'):EP X pins σ Q (.bool k') s:=by subst e;exact⟨.bl k,H,I,rfl,q⟩
theorem JX:Iu X (BH .Eq) Z7:=by
 intro pins s σ H x y v u Q I rx ry h;obtain⟨hs,q⟩:=h;cases x with
 | non=>
  cases rx;cases y with
  | non=>cases ry;exact PySem.EqNone.eq_none_none (Iw I q (by simp))
  | bl j=>cases ry;exact PySem.EqNone.eq_none_bool (Iw I q (by simp))
  | int j=>obtain⟨t',rfl⟩:=ry;exact PySem.EqNone.eq_none_int (Iw I q (by simp))
  | str j=>obtain⟨t',rfl⟩:=ry;exact PySem.EqNone.eq_none_str (Iw I q (by simp))
  | _=>exact absurd (show false=true from hs) AA
 | bl i=>
  cases rx;cases y with
  | non=>cases ry;exact PySem.EqNone.eq_bool_none (Iw I q (by simp))
  | bl j=>cases ry;exact eq_bool (Iw I q QK)
  | str j=>obtain⟨t',rfl⟩:=ry;exact PySem.EqMixed.eq_bool_str (Iw I q (by simp))
  | _=>exact absurd (show false=true from hs) AA
 | int i=>
  obtain⟨t,rfl⟩:=rx;cases y with
  | non=>cases ry;exact PySem.EqNone.eq_int_none (Iw I q (by simp))
  | int j=>obtain⟨t',rfl⟩:=ry;exact eq_int (Iw I q Rn)
  | str j=>obtain⟨t',rfl⟩:=ry;exact PySem.EqMixed.eq_int_str (Iw I q (by simp))
  | _=>exact absurd (show false=true from hs) AA
 | str i=>
  obtain⟨t,rfl⟩:=rx;cases y with
  | non=>cases ry;exact PySem.EqNone.eq_str_none (Iw I q (by simp))
  | bl j=>cases ry;exact PySem.EqMixed.eq_str_bool (Iw I q (by simp))
  | int j=>obtain⟨t',rfl⟩:=ry;exact PySem.EqMixed.eq_str_int (Iw I q (by simp))
  | str j=>obtain⟨t',rfl⟩:=ry;exact eq_str (Iw I q Ro)
  | _=>exact absurd (show false=true from hs) AA
 | byt i=>
  obtain⟨t,rfl⟩:=rx;cases y with
  | byt j=>obtain⟨t',rfl⟩:=ry;exact PySem.W.eq_bytes (Iw I q Rm)
  | _=>exact absurd (show false=true from hs) AA
 | _=>cases y<;>exact absurd (show false=true from hs) AA
theorem Lc:Iu X (BH .NotEq) Z6:=by
 intro pins s σ H x y v u Q I rx ry h;obtain⟨hs,q⟩:=h;cases x with
 | non=>
  cases rx;cases y with
  | non=>cases ry;exact PySem.EqNone.ne_none_none (Iw I q (by simp))
  | bl j=>cases ry;exact PySem.EqNone.ne_none_bool (Iw I q (by simp))
  | int j=>obtain⟨t',rfl⟩:=ry;exact PySem.EqNone.ne_none_int (Iw I q (by simp))
  | str j=>obtain⟨t',rfl⟩:=ry;exact PySem.EqNone.ne_none_str (Iw I q (by simp))
  | _=>exact absurd (show false=true from hs) AA
 | bl i=>
  cases rx;cases y with
  | non=>cases ry;exact PySem.EqNone.ne_bool_none (Iw I q (by simp))
  | bl j=>cases ry;exact ne_bool (Iw I q (congrArg not QK))
  | str j=>obtain⟨t',rfl⟩:=ry;exact PySem.EqMixed.ne_bool_str (Iw I q (by simp))
  | _=>exact absurd (show false=true from hs) AA
 | int i=>
  obtain⟨t,rfl⟩:=rx;cases y with
  | non=>cases ry;exact PySem.EqNone.ne_int_none (Iw I q (by simp))
  | int j=>obtain⟨t',rfl⟩:=ry;exact ne_int (Iw I q (congrArg not Rn))
  | str j=>obtain⟨t',rfl⟩:=ry;exact PySem.EqMixed.ne_int_str (Iw I q (by simp))
  | _=>exact absurd (show false=true from hs) AA
 | str i=>
  obtain⟨t,rfl⟩:=rx;cases y with
  | non=>cases ry;exact PySem.EqNone.ne_str_none (Iw I q (by simp))
  | bl j=>cases ry;exact PySem.EqMixed.ne_str_bool (Iw I q (by simp))
  | int j=>obtain⟨t',rfl⟩:=ry;exact PySem.EqMixed.ne_str_int (Iw I q (by simp))
  | str j=>obtain⟨t',rfl⟩:=ry;exact ne_str (Iw I q (congrArg not Ro))
  | _=>exact absurd (show false=true from hs) AA
 | byt i=>
  obtain⟨t,rfl⟩:=rx;cases y with
  | byt j=>obtain⟨t',rfl⟩:=ry;exact PySem.W.ne_bytes (Iw I q (congrArg not Rm))
  | _=>exact absurd (show false=true from hs) AA
 | _=>cases y<;>exact absurd (show false=true from hs) AA
theorem Lz:Iu X (BH .Lt) (JS λi j=> .bl (decide (i<j))):=KN λ_ _ _ _ _ _ _ q=>lt_int q
theorem Op:Iu X (BH .LtE) (JS λi j=> .bl (decide (i≤j))):=KN λ_ _ _ _ _ _ _ q=>le_int q
theorem Lb:Iu X (BH .Gt) (JS λi j=> .bl (decide (j<i))):=KN λ_ _ _ _ _ _ _ q=>gt_int q
theorem Ub:Iu X (BH .GtE) (JS λi j=> .bl (decide (j≤i))):=KN λ_ _ _ _ _ _ _ q=>ge_int q
theorem W0:Iu X (BH .Lt) (λx y H Q=>∃i j,x= .str i∧y= .str j∧Q (.bl (decide (i.cps.toList<j.cps.toList))) H):=by intro pins s σ H x y v u Q I rx ry h;obtain⟨i,j,rfl,rfl,q⟩:=h;obtain⟨t,rfl⟩:=rx;obtain⟨t',rfl⟩:=ry;exact lt_str (Iw I q rfl)
theorem Ie(b:Expr){op:CmpOp}(h:op≠ .In:=by decide)(h2:op≠ .NotIn:=by decide):behindInMarks op b=false:=by
 have e1:(op==CmpOp.In)=false:=by cases op<;>first | rfl | exact absurd rfl h
 have e2:(op==CmpOp.NotIn)=false:=by cases op<;>first | rfl | exact absurd rfl h2
 cases b<;>simp[behindInMarks,e1,e2]
theorem L8{op:CmpOp}{r:R2}(ho:Iu X (BH op) r)(ha:PE X a ta)(hb:PE X b tb)(hm:behindInMarks op b=false):PE X (.Compare a [op] [b] pos) (Jh r ta tb):=by intro pins s σ H Q I h;exact wpAny_Compare1 (LL ha hb I h λv u s2 x y H2 I2 rx ry q=>ho pins s2 σ H2 x y v u Q I2 rx ry q) hm
def Q9(t:TE):TT:=λσ H Q=>t σ H λx H'=>∃k,x= .bl k∧Q k H'
theorem Il{op:CmpOp}{r:R2}(ho:Iu X (BH op) r)(ha:PE X a ta)(hb:PE X b tb)(hm:behindInMarks op b=false):PT X (.Compare a [op] [b] pos) (Q9 (Jh r ta tb)):=by intro pins s σ H Q I h;refine wpAny_isTrue_Compare1 (Hx (ha pins s σ H _ I h) λv s1 ⟨x,H1,I1,r1,q1⟩=>Hx (hb pins s1 σ H1 _ I1 q1) λu s2 ⟨y,H2,I2,r2,q2⟩=> Hx (ho pins s2 σ H2 x y v u _ I2 r1 r2 q2) λc s3 ⟨z,H3,I3,r3,k,e,q3⟩=>?_) hm;subst e;cases r3;exact Bp ⟨H3,I3,q3⟩
def Re(r r':R2)(ta tb tc:TE):TE:=λσ H Q=>ta σ H λx H1=>tb σ H1 λy H2=>r x y H2 λz H3=>∃k,z= .bl k∧
 (if k=true then tc σ H3 λw' H4=>r' y w' H4 Q else Q (.bl false) H3)
theorem Wc{op op':CmpOp}{r r':R2}(ho:Iu X (BH op) r)(ho':Iu X (BH op') r')(ha:PE X a ta)(hb:PE X b tb)(hc:PE X c tc)
 (hm:lastMarks [op,op'] [b,c]=false:=by with_unfolding_all rfl):PE X (.Compare a [op,op'] [b,c] pos) (Re r r' ta tb tc):=by
 intro pins s σ H Q I h;refine Compare_chain (Hx (ha pins s σ H _ I h) λv s1 ⟨x,H1,I1,r1,q1⟩=>chain_link (Hx (hb pins s1 σ H1 _ I1 q1) λu s2 ⟨y,H2,I2,r2,q2⟩=> Hx (ho pins s2 σ H2 x y v u _ I2 r1 r2 q2) λd s3 ⟨z,H3,I3,r3,k,e,q3⟩=>?_)) hm;subst e;cases r3;refine Bp ?_;cases k with
 | false=>exact ite_ff ⟨.bl false,H3,I3,rfl,q3⟩
 | true=>exact ite_tt (chain_last (Hx (hc pins s3 σ H3 _ I3 q3) λw' s4 ⟨z',H4,I4,r4,q4⟩=>ho' pins s4 σ H4 y z' u w' Q I4 r2 r4 q4))
theorem Wj{op op':CmpOp}{r r':R2}(ho:Iu X (BH op) r)(ho':Iu X (BH op') r')(ha:PE X a ta)(hb:PE X b tb)(hc:PE X c tc)
 (hm:lastMarks [op,op'] [b,c]=false:=by with_unfolding_all rfl):PT X (.Compare a [op,op'] [b,c] pos) (Q9 (Re r r' ta tb tc)):=by
 intro pins s σ H Q I h;refine isTrue_chain (Hx (ha pins s σ H _ I h) λv s1 ⟨x,H1,I1,r1,q1⟩=>test_link (Hx (hb pins s1 σ H1 _ I1 q1) λu s2 ⟨y,H2,I2,r2,q2⟩=> Hx (ho pins s2 σ H2 x y v u _ I2 r1 r2 q2) λd s3 ⟨z,H3,I3,r3,k,e,q3⟩=>?_)) hm;subst e;cases r3;refine Bp ?_;cases k with
 | false=> obtain⟨k',e',q'⟩:=q3;cases e';exact ite_ff ⟨H3,I3,q'⟩
 | true=> refine ite_tt (test_last (Hx (hc pins s3 σ H3 _ I3 q3) λw' s4 ⟨z',H4,I4,r4,q4⟩=>Hx (ho' pins s4 σ H4 y z' u w' _ I4 r2 r4 q4) λd' s5 ⟨z2,H5,I5,r5,k2,e2,q5⟩=>?_));subst e2;cases r5;exact Bp ⟨H5,I5,q5⟩
def LM(K:Ae)(x:V)(H:Hp)(k:Bool):Prop:=
 match x with
 | .non=>k=false
 | .bl b=>k=b
 | .int i=>k=(i !=0)
 | .str y=>y.length≤Av∧k=((y.length:Int) !=0)
 | .byt y=>y.size≤Av∧k=((y.size:Int) !=0)
 | .ref p=>(∃xs,SqL K H p xs∧k=!xs.isEmpty)∨(∃xs,SqT K H p xs∧k=!xs.isEmpty)∨∃kvs,H p=some (.dK kvs)∧k=!kvs.isEmpty
 | _=>False
theorem XB{κ:Type}{kvs:List (κ×V)}{vs:List (κ×Value)}(r:KV kvs vs):(!vs.isEmpty)=!kvs.isEmpty:=by cases r<;>rfl
theorem Tk{xs:List V}{its:List Value}(r:Vals xs its):(!its.toArray.isEmpty)=!xs.isEmpty:=by cases r<;>simp
theorem L0:(Av:Nat)<2^63:=by rw[sizeLine_eq];decide
theorem Ux:Qw X (λx H Q=>∃k,LM X.K x H k∧Q k H):=by
 intro pins s σ H x v Q I rx h;obtain⟨k,e,q⟩:=h;have hl:=L0;have hs:Av=16777216:=sizeLine_eq;cases x with
 | non=> cases rx;have e':k=false:=e;subst e';exact truthy_none ⟨H,I,q⟩
 | bl b=> cases rx;have e':k=b:=e;subst e';exact Bp ⟨H,I,q⟩
 | int i=> obtain⟨t,rfl⟩:=rx;have e':k=(i !=0):=e;subst e';exact PySem.P.truthy_int ⟨H,I,q⟩
 | str y=> obtain⟨t,rfl⟩:=rx;obtain⟨hy,e'⟩:y.length≤Av∧k=((y.length:Int) !=0):=e;subst e';exact PySem.P.truthy_str (by omega) ⟨H,I.tok _,q⟩
 | byt y=> obtain⟨t,rfl⟩:=rx;obtain⟨hy,e'⟩:y.size≤Av∧k=((y.size:Int) !=0):=e;subst e';exact PySem.W.truthy_bytes (by omega) ⟨H,I.tok _,q⟩
 | ref p=>
  cases rx;have e':(∃xs,SqL X.K H p xs∧k=!xs.isEmpty)∨(∃xs,SqT X.K H p xs∧k=!xs.isEmpty)∨∃kvs,H p=some (.dK kvs)∧k=!kvs.isEmpty:=e;rcases e' with⟨xs,hx,e'⟩ | ⟨xs,hx,e'⟩ | ⟨kvs,hx,e'⟩
  · subst e';obtain⟨its,r,pl,hz⟩:=I.list hx;have hlen:=r.length;exact wpAny_truthy_list pl.isList (by simp only[Au];omega) ⟨H,I.tok _,by rw[Tk r];exact q⟩
  · subst e';obtain⟨its,r,pl,hz⟩:=I.tuple hx;have hlen:=r.length;exact truthy_tuple pl (by simp only[Au];omega) ⟨H,I.tok _,by rw[Tk r];exact q⟩
  · subst e';obtain⟨hz,hS,vs,r,m⟩:kvs.length≤Av∧(p==BU)=false∧∃vs,KV kvs vs∧s.heap.DictOf (IL X.prog X.w) p vs:=I.hok p _ hx;have hlen:kvs.length=vs.length:=Eb r;exact wpAny_truthy_dict hS m (by omega) ⟨H,I.tok _,by rw[XB r];exact q⟩
 | _=>exact(show False from e).elim
theorem Wk(ha:PE X a ta)(he:∀whole,isTrue a X.env whole=(do let v ←whole;standAt a.pos;holding [v] (truthy v))):
 PT X a (λσ H Q=>ta σ H λx H'=>∃k,LM X.K x H' k∧Q k H'):=by
 intro pins s σ H Q I h;exact isTrue_plain (Hx (ha pins s σ H _ I h) λv s1 ⟨x,H1,I1,r1,q1⟩=>Ux pins s1 σ H1 x v Q I1 r1 q1) (he _)
theorem NO:Iu X (binaryOp .Add) (λx y H Q=>∃i j,x= .str i∧y= .str j∧i.length+j.length≤Av∧Q (.str (i++j)) H):=by intro pins s σ H x y v u Q I rx ry h;obtain⟨i,j,rfl,rfl,hz,q⟩:=h;obtain⟨t,rfl⟩:=rx;obtain⟨t',rfl⟩:=ry;exact add_str (λt' tk=>⟨.str (i++j),H,I.tok _,⟨_,rfl⟩,q⟩) hz
theorem Jx{x:V}(r:Vals [x] us):∃u,us=[u]∧RelV x u:=by
 cases r with
 | cons r1 r2=>cases r2;exact⟨_,rfl,r1⟩
theorem Mt{x y:V}(r:Vals [x,y] us):∃u w',us=[u,w']∧RelV x u∧RelV y w':=by
 cases r with
 | cons r1 r2=>
  cases r2 with
  | cons r3 r4=>cases r4;exact⟨_,_,rfl,r1,r3⟩
theorem OU:J9 X (.builtin "abs") (λxs H Q=>∃i,xs=[.int i]∧Q (.int (if i<0 then -i else i)) H):=by intro pins s σ H xs us Q I r h;obtain⟨i,rfl,q⟩:=h;obtain⟨u,rfl,t,rfl⟩:=Jx r;exact call_abs_int λu tk=>⟨.int (if i<0 then -i else i),H,I.tok _,⟨_,rfl⟩,q⟩
theorem VH(hc:X.calm=true):J9 X (.builtin "min") (λxs H Q=>∃i j,xs=[.int i,.int j]∧Q (.int (if j<i then j else i)) H):=by
 intro pins s σ H xs us Q I r h;obtain⟨i,j,rfl,q⟩:=h;obtain⟨u,w',rfl,⟨t,rfl⟩,⟨t',rfl⟩⟩:=Mt r;refine min_two_ints (I.ok.hd hc) λh' tk k=>⟨_,H,I.kept k,?_,q⟩;by_cases hj:j<i
 · rw[if_pos hj,if_pos hj];exact⟨_,rfl⟩
 · rw[if_neg hj,if_neg hj];exact⟨_,rfl⟩
end
structure ObjM(h:Heap)(x dx C:Addr)(mA:Str→Option Value):Prop where
 obj:h.get? x=some (Fw C dx)
 ns:h.Ns1 dx mA
 ne:dx≠x
theorem WX{dx:Addr}{mA:Str→Option Value}(n:h.Ns1 dx mA):∃od,h.get? dx=some od∧∀name,FF name od=some (mA name):=by
 obtain⟨o,es,ep,ho,hd,hk,_,hm⟩:=n;refine⟨o,ho,λname=>?_⟩;have e:=hm name;unfold nsFind findBy at e;rw[←Array.find?_toList] at e;unfold FF;rw[hd];dsimp only
 split
 · rename_i y q;rw[q] at e;exact congrArg some e
 · rename_i q;rw[q] at e;have a:es.toList.any (·.refKey)=false:=by
    rw[List.any_eq_false];intro y hy;obtain⟨z,t,hkey⟩:=hk y (Array.mem_toList_iff.mp hy);simp[DictEntry.refKey,hkey]
   have a':¬es.toList.any (·.refKey)=true:=by rw[a];exact AA
   rw[if_neg a'];exact congrArg some e
theorem ObjM.look{x dx C:Addr}{mA:Str→Option Value}(I:ObjM h x dx C mA):∃od,PySem.W.InstAt h x (Fw C dx) C (some od)∧∀name,FF name od=some (mA name):=
 let⟨od,ho,hl⟩:=WX I.ns
 ⟨od,⟨I.obj,rfl,rfl,ho⟩,hl⟩
section
variable{K:Ae}{x dx C f:Addr}{mA:Str→Option Value}{name:Str}{v:Value}
end
theorem RelO.some_of{v:V}{o:Option Value}(r:RelO (some v) o):∃u,o=some u∧RelV v u:=by
 cases o with
 | none=>exact(show False from r).elim
 | some u=>exact⟨u,rfl,r⟩
section
variable{H H':Hp}{h':Heap}{C dx:Addr}{fs fs':List (Str×V)}
theorem V2(hok:HOk P w H h)(e:H a=some (.ins C dx fs)):∃mA,ObjM h a dx C mA∧(∀f,RelO (fs.lookup f) (mA f))∧PySem.Within mA (fs.map (·.1))∧fs.length≤1000∧H dx=some (.own a):=by obtain⟨d,z,ne,ob,mA,n,r,q⟩:=(show ObjOk P w H h a (.ins C dx fs) from hok a _ e);exact⟨mA,⟨ob,n,ne⟩,r,q,z,d⟩
end
structure Cls(K:Ae)(C:Addr):Prop where
 pg:PySem.W.plainGet K C Str.empty=true
 hd:PySem.W.hasDictIn K C=true
 po:PySem.W.plainOver K C=true
 sa:PySem.W.findIn K (.ref C) "__setattr__"=some (some (.builtin "object.__setattr__"))
theorem Cls.get{K:Ae}{C:Addr}(c:Cls K C)(f:Str):PySem.W.plainGet K C f=true:=c.pg
section
variable{X:Cx}{σ:St}{H:Hp}{C dx:Addr}{fs:List (Str×V)}{f:Str}{v:V}
end
section
variable{X:Cx}{o value:Expr}{f:Str}{pos' tpos:Pos}{ta tv:TE}
end
section
variable{X:Cx}{σ:St}{H:Hp}{Q:Value→Shared→Prop}{c:Value}{b:Bool}
inductive TyOf(K:Ae)(H:Hp):V→Value→Prop where
 | non:TyOf K H .non (.type "NoneType")
 | bl (x:Bool):TyOf K H (.bl x) (.type "bool")
 | int (i:Int):TyOf K H (.int i) (.type "int")
 | str (x:Str):TyOf K H (.str x) (.type "str")
 | flt (x:UInt64):TyOf K H (.flt x) (.type "float")
 | lst {a:Addr} {xs:List V} (e:H a=some (.lst xs)):TyOf K H (.ref a) (.type "list")
 | frz {a:Addr} {o:Obj} {xs:List V} (e:H a=some (.frz o (.lst xs))):TyOf K H (.ref a) (.type "list")
 | tup {a:Addr} {xs:List V} (e:H a=some (.tup xs)):TyOf K H (.ref a) (.type "tuple")
 | dK {a:Addr} {kvs:List (HF×V)} (e:H a=some (.dK kvs)):TyOf K H (.ref a) (.type "dict")
 | dT {a:Addr} {kvs:List (List HF×V)} (e:H a=some (.dT kvs)):TyOf K H (.ref a) (.type "dict")
 | ins {a C dx:Addr} {fs:List (Str×V)} (e:H a=some (.ins C dx fs)) (cl:Cls K C) (ha:PySem.W.findIn K (.ref C) "__class__"=some (some (.builtin "object.__class__")))
  (hn:PySem.W.specialIn K (.builtin "object.__class__") "__get__"=some (some (.builtin "getset_descriptor.__get__"))) (htk:PySem.W.takesIn K (.builtin "object.__class__")=some true)
  (hm:PySem.W.mroIn K C (.type "object")=some true):TyOf K H (.ref a) (.ref C)
theorem WM{x:V}{t:Value}(I:Inv X pins σ H s)(rx:RelV x u)(ty:TyOf X.K H x t)(e:PySem.W.kitOne X.K t c=some b)(h:∀tk,Q (.bool b) {s with toks:=tk}):
 wpAny (model X.prog X.w) A (call (.builtin "isinstance") [u,c]) Q E s:=by
 cases ty with
 | non=>cases(show u=Value.none from rx);exact BY PySem.W.kitx_none I.kIn True.intro e (λz=>nomatch z) h
 | bl y=>cases(show u=Value.bool y from rx);exact BY PySem.W.kitx_bool I.kIn True.intro e (λz=>nomatch z) h
 | int i=>obtain⟨t,q⟩:=(show ∃t,u=Value.int i t from rx);cases q;exact BY PySem.W.kitx_int I.kIn True.intro e (λz=>nomatch z) h
 | str y=>obtain⟨t,q⟩:=(show ∃t,u=Value.str y t from rx);cases q;exact BY PySem.W.kitx_str I.kIn True.intro e (λz=>nomatch z) h
 | flt y=>obtain⟨t,q⟩:=(show ∃t,u=Value.float y t from rx);cases q;exact BY PySem.W.kitx_float I.kIn True.intro e (λz=>nomatch z) h
 | @lst a xs ea=> cases(show u=Value.ref a from rx);obtain⟨_,_,n,_,h1⟩:=(show ObjOk X.prog X.w H s.heap a (.lst xs) from I.hok a _ ea);exact BY DO I.kIn ⟨_,h1,rfl⟩ e (λz=>nomatch z) h
 | @frz a ob xs ea=> cases(show u=Value.ref a from rx);obtain⟨_,_,_,n,_,h1⟩:=(show ObjOk X.prog X.w H s.heap a (.frz ob (.lst xs)) from I.hok a _ ea);exact BY DO I.kIn ⟨_,h1,rfl⟩ e (λz=>nomatch z) h
 | @tup a xs ea=> cases(show u=Value.ref a from rx);obtain⟨_,_,_,p⟩:=(show ObjOk X.prog X.w H s.heap a (.tup xs) from I.hok a _ ea);obtain⟨o,h1,h2,_⟩:=p;exact BY PySem.W.kitx_tuple I.kIn ⟨o,h1,h2⟩ e (λz=>nomatch z) h
 | @dK a kvs ea=> cases(show u=Value.ref a from rx);obtain⟨_,_,vs,_,p⟩:=(show ObjOk X.prog X.w H s.heap a (.dK kvs) from I.hok a _ ea);obtain⟨o,es,ep,h1,h2,_⟩:=p;exact BY DP I.kIn ⟨o,h1,h2.1⟩ e (λz=>nomatch z) h
 | @dT a kvs ea=> cases(show u=Value.ref a from rx);obtain⟨_,_,xs,_,o,es,ep,h1,h2,_⟩:=(show ObjOk X.prog X.w H s.heap a (.dT kvs) from I.hok a _ ea);exact BY DP I.kIn ⟨o,h1,h2.1⟩ e (λz=>nomatch z) h
 | @ins a C dx fs ea cl ha hn htk hm=> cases(show u=Value.ref a from rx);obtain⟨mA,O,_⟩:=V2 I.hok ea;obtain⟨od,J,_⟩:=O.look;exact BY (PySem.W.kitx_own (cl.get _) cl.hd ha hn htk hm) I.kIn J e (λz=>nomatch z) h
end
structure Room(k:Nat)(A:Bu):Prop where
 hd:A.handled=none
 dp:A.depth+3*k+5<recursionLimit
 un:A.units+16*k+200<cLine
 gd:A.guards=some []
theorem Room.mono{j k:Nat}(r:Room k A)(h:j≤k):Room j A:=⟨r.hd,by have:=r.dp;omega,by have:=r.un;omega,r.gd⟩
theorem Room.deeper{k:Nat}(r:Room (k+1) A)(env:Env):Room k (A.deeper env):=
 ⟨r.hd,by have:=r.dp;show A.depth+1+3*k+5<_;omega,by have:=r.un;show A.units+3+16*k+200<_;omega,r.gd⟩
theorem Room.in1{k:Nat}(r:Room (k+1) A):Room k A.in1:=
 ⟨r.hd,by have:=r.dp;show A.depth+3*k+5<_;omega,by have:=r.un;show A.units+1+16*k+200<_;omega,r.gd⟩
theorem Room.depth{k:Nat}(r:Room k A):A.depth<recursionLimit:=by have:=r.dp;omega
theorem Room.units{k:Nat}(r:Room k A):A.units+64<cLine:=by have:=r.un;omega
def IJ:TA:=λ_ H Q=>Q [] H
def Ji(ta:TE)(tr:TA):TA:=λσ H Q=>ta σ H λx H1=>tr σ H1 λxs H2=>Q (x::xs) H2
section
variable{X:Cx}{es:List Expr}{te:TE}{t:TA}
theorem Hs:PA X [] IJ:=λ_ _ _ _ H Q I h=>EQ ⟨[],H,I,.nil,h⟩
theorem Hq(ha:PE X e te)(hr:PA X es t)(hs:AR (e::es) X.env=(false,eval e X.env)::AR es X.env:=by rfl):PA X (e::es) (Ji te t):=by intro pos pins s σ H Q I h;rw[hs];show wpAny _ _ (spliced ((false,eval e X.env)::backTo pos (AR es X.env))) _ _ s;refine DC (Hx (ha pins s σ H _ I h) λu s1 ⟨x,H1,I1,r1,q1⟩=>?_);exact Hx (hr pos pins s1 σ H1 _ I1 q1) λus s2 ⟨xs,H2,I2,r2,q2⟩=>⟨x::xs,H2,I2,.cons r1 r2,q2⟩
def Jn(t:TA):TE:=λσ H Q=>t σ H λxs H1=>xs.length≤Av∧∀p,H1 p=none→Q (.ref p) (Hr H1 p (.tup xs))
def MJ(t:TA):TE:=λσ H Q=>t σ H λxs H1=>xs.length≤Av∧∀p,H1 p=none→Q (.ref p) (Hr H1 p (.lst xs))
theorem Ij{x1}(h:PA X es t):PE X (.Tuple es x1 pos) (Jn t):=by intro pins s σ H Q I hq;refine wpAny_Tuple_spliced (Hx (h pos pins s σ H _ I hq) λus s1 ⟨xs,H1,I1,r,z,q⟩=>⟨by rw[←r.length];exact z,?_⟩);have hf:H1 s1.heap.objs.size=none:=I1.hok.fresh (Ah _);refine⟨.ref s1.heap.objs.size,Hr H1 s1.heap.objs.size (.tup xs),I1.laid (t':=s1.toks) (λb u e=>Ad _ e) (Ah _) ?_,rfl,q _ hf⟩;exact⟨z,us,r,⟨_,An _ rfl,rfl,rfl,_,rfl⟩⟩
theorem IC(h:PA X es t):PE X (.List es pos) (MJ t):=by intro pins s σ H Q I hq;refine wpAny_List_spliced (Hx (h pos pins s σ H _ I hq) λus s1 ⟨xs,H1,I1,r,z,q⟩=>⟨by rw[←r.length];exact z,?_⟩);have hf:H1 s1.heap.objs.size=none:=I1.hok.fresh (Ah _);refine⟨.ref s1.heap.objs.size,Hr H1 s1.heap.objs.size (.lst xs),I1.laid (t':=s1.toks) (λb u e=>Ad _ e) (Ah _) ?_,rfl,q _ hf⟩;exact⟨z,us,0,r,An _ rfl⟩
end
abbrev Sp:=List V→Hp→VK→XK→Prop
abbrev JN:=List Env→Hp→Shared→XK→Value→Shared→Prop
structure Env0(P:Br)(w:World)(K:Ae)(mg:Str→Option Value)(base:Heap)(A:Bu)(outer:List Env)(s:Shared)(H:Hp):Prop where
 frames:A.frames=some outer
 mod:Mod K mg base
 bs:∀b o,base.get? b=some o→s.heap.get? b=some o∧H b=none
 bsz:base.objs.size≤s.heap.objs.size
 funs:s.heap.FunFrames base outer
 frf:∀b∈Kv outer,H b=none
 hok:HOk P w H s.heap
 bare:AllBare s.gens
def CE(outer:List Env)(P:Br)(w:World)(H:Hp)(s:Shared)(Q:VK)(u:Value)(s':Shared):Prop:=
 ∃v H',s'.os=s.os∧AllBare s'.gens∧Un (Kv outer) [] H H' s.heap s'.heap∧HOk P w H' s'.heap∧RelV v u∧Q v H'
def CR(CX:JN)(outer:List Env)(P:Br)(w:World)(H:Hp)(s:Shared)(Q:VK)(E:XK)(r:Result)(s':Shared):Prop:=
 match r with
 | .ok (.ret u)=>CE outer P w H s Q u s'
 | .ok _=>False
 | .error e=>CX outer H s E e s'
structure FnOk(P:Br)(w:World)(K:Ae)(mg:Str→Option Value)(base:Heap)(CX:JN)(k:Nat)(f:Addr)(fd:BG)(ps:List Str)(sp:Sp):Prop where
 len:∀vs H Q E,sp vs H Q E→vs.length=ps.length
 run:∀(A:Bu)(outer:List Env)(s:Shared)(H:Hp)(args:Args)(us:List Value)(vs:List V)(Q:VK)(E:XK),Room k A→Env0 P w K mg base A outer s H→BindsTo s fd args (ps.zip us)→Vals vs us→sp vs H Q E→
  codeAny (model P w) A (.call (.ref f) args) (CR CX outer P w H s Q E) s
section
variable{X:Cx}{σ:St}{H:Hp}{s':Shared}
theorem Inv.env0(I:Inv X pins σ H s):Env0 X.prog X.w X.K X.mg X.base X.A X.stack s H:=
 ⟨I.ok.frames,I.ok.mod,I.bs,AY I.ok.bsz I.sz,I.stack,I.stkFree,I.hok,I.bare⟩
theorem Inv.after{Q:VK}(I:Inv X pins σ H s)(h:CE X.stack X.prog X.w H s Q u s'):EP X pins σ Q u s':=by obtain⟨v,H',os,bare,un,hok,r,q⟩:=h;obtain⟨hh,g,d,t,os'⟩:=s';obtain rfl:os'=s.os:=os;exact⟨v,H',I.call (h':=hh) (g':=g) (d':=d) (t':=t) (ch:=[]) un hok bare (λb z=>absurd z (by simp)),r,q⟩
end
def Q8(sp:Sp)(dvs:List V)(E:XK)(t:TA):TE:=λσ H Q=>t σ H λvs H1=>sp (vs++dvs) H1 Q E
def Binds(K:Ae)(fd:BG)(ps:List Str)(ds:List Value):Prop:=
 ∀(s:Shared)(us:List Value),K.In s.heap→(us++ds).length=ps.length→BindsTo s fd ⟨us,[]⟩ (ps.zip (us++ds))
theorem Binds.all{K:Ae}{fd:BG}{ps:List Str}(h:∀us:List Value,us.length=ps.length→bindArgs fd ⟨us,[]⟩=pure (ps.zip us)):Binds K fd ps []:=λs us _ hl=>by rw[Ej] at hl ⊢;exact .of_eq (h us hl)
def Ot(CX:JN)(X:Cx)(E:XK):Prop:=∀(pins:List (Addr×Obj))(σ:St)(H:Hp)(s:Shared)(e:Value)(s':Shared),Inv X pins σ H s→CX X.stack H s E e s'→X.xe e s'
section
variable{X:Cx}{CX:JN}{k:Nat}{f C:Addr}{fd:BG}{ps:List Str}{sp:Sp}{dvs:List V}{ds:List Value}{E:XK}{x m:Str}{p apos:Pos}{o:Expr}{es:List Expr}{ta:TE}{t:TA}
theorem QV{pins:List (Addr×Obj)}{σ:St}{H:Hp}{s:Shared}{Q:VK}{us:List Value}{vs:List V}(F:FnOk X.prog X.w X.K X.mg X.base CX k f fd ps sp)(hr:Room k X.A)(hb:Binds X.K fd ps ds)(hd:Vals dvs ds)(hx:Ot CX X E)
 (I:Inv X pins σ H s) (r:Vals vs us) (h:sp (vs++dvs) H Q E):wpAny (model X.prog X.w) X.A (call (.ref f) us) (EP X pins σ Q) X.xe s:=by
 have r2:Vals (vs++dvs) (us++ds):=r.append hd;have hl:(us++ds).length=ps.length:=by rw[←r2.length];exact F.len _ _ _ _ h
 refine Ek (Cd (F.run X.A X.stack s H ⟨us,[]⟩ (us++ds) (vs++dvs) Q E hr I.env0 (hb s us I.kIn hl) r2 h) λr s' hq=>?_);cases r with
 | error e=>exact hx pins σ H s e s' I hq
 | ok fl=>
  cases fl with
  | ret u=>exact I.after hq
  | next=>exact C5 hq
  | brk=>exact C5 hq
  | cont=>exact C5 hq
theorem V7(F:FnOk X.prog X.w X.K X.mg X.base CX k f fd ps sp)(hr:Room k X.A)(hg:Gl X x)(hm:X.mg x=some (.ref f))(hk:Ez X.K (.ref f)=true)(hb:Binds X.K fd ps ds)(hd:Vals dvs ds)(hx:Ot CX X E)
 (ha:PA X (e::es) t) (hdb:(x==("__debug__":Str))=false:=by decide) (he:AR (e::es) X.env=(false,eval e X.env)::AR es X.env:=by rfl) (hpl:(backTo pos (AR es X.env)).any (·.1)=false:=by rfl):
 PE X (.Call (.Name x p) (e::es) [] pos) (Q8 sp dvs E t):=by
 intro pins s σ H Q I h;refine C9 (R5 I hg hm ?_ hdb);refine PySem.W.callWith_K (h₀:=X.base) I.ok.mod.kin hk (Hx (ha pos pins s σ H _ I h) λus s1 ⟨vs,H1,I1,r,q⟩=>⟨I1.kIn,?_⟩) he hpl;exact QV F hr hb hd hx I1 r q
end
def PK(X:Cx)(kws:List Keyword)(t:TA):Prop:=
 ∀(pos:Pos)(pins:List (Addr×Obj))(s:Shared)(σ:St)(H:Hp)(Q:List V→Hp→Prop),Inv X pins σ H s→t σ H Q→wpAny (model X.prog X.w) X.A (evalAll ((backToKw pos (keywordEach kws X.env)).map (·.2))) (AP X pins σ Q) X.xe s
section
variable{X:Cx}{CX:JN}{k:Nat}{f C:Addr}{fd:BG}{ps ks:List Str}{sp:Sp}{E:XK}{x m:Str}{p apos kpos:Pos}{o:Expr}{es:List Expr}{kws:List Keyword}{te ta:TE}{t tk:TA}{nm:Option Str}
theorem Oy:PK X [] IJ:=λ_ _ _ _ H Q I h=>wpAny_evalAll_nil ⟨[],H,I,.nil,h⟩
theorem OJ(ha:PE X e te)(hr:PK X kws t):PK X (⟨nm,e,kpos⟩::kws) (Ji te t):=by
 intro pos pins s σ H Q I h;show wpAny _ _ (evalAll ((do let v ←eval e X.env;standAt pos;pure v)::(backToKw pos (keywordEach kws X.env)).map (·.2))) _ _ s
 refine wpAny_evalAll_cons (Aa (Hx (ha pins s σ H _ I h) λu s1 ⟨x,H1,I1,r1,q1⟩=>Aa (Bv (Ac ?_))));exact Hx (hr pos pins s1 σ H1 _ I1 q1) λus s2 ⟨xs,H2,I2,r2,q2⟩=>⟨x::xs,H2,I2,.cons r1 r2,q2⟩
variable{g:List Value→List Value→List Value}{gV:List V→List V→List V}
end
structure FnScope(N P:List Str)(sc:Scope):Prop where
 kind:sc.kind= .function
 co:sc.isCoroutine=false
 gen:sc.isGenerator=false
 nd:N.Nodup
 pre:N.take P.length=P
 par:∀x∈P,sc.names.lookup x=some .local∨sc.names.lookup x=some .cell
 nofree:∀y∈sc.names,y.2≠ .free
theorem Sy{kindOf:Str→Option NameKind}{x:Str}:∀{binds:List (Str×Value)}{m:Str→Option Value},(∀v,(x,v) ∉ binds)→bindL kindOf binds m x=m x
 | [],_,_=>rfl
 | (n,v)::r,m,h=>by
  unfold bindL;rw[Sy λw hw=>h w (AE _ hw)]
  split
  · have:x≠n:=by rintro rfl;exact h v Az
    simp[this]
  · rfl
theorem Sv{kindOf:Str→Option NameKind}{x:Str}:∀{binds:List (Str×Value)}{m:Str→Option Value},(∀v,(x,v) ∉ binds)→bindC kindOf binds m x=m x
 | [],_,_=>rfl
 | (n,v)::r,m,h=>by
  unfold bindC;rw[Sv λw hw=>h w (AE _ hw)]
  split
  · rfl
  · have:x≠n:=by rintro rfl;exact h v Az
    simp[this]
theorem Sw{kindOf:Str→Option NameKind}{x:Str}{v:Value}:∀{P:List Str}{vs:List Value}{i:Nat}{m:Str→Option Value},P.Nodup→P[i]?=some x→vs[i]?=some v→kindOf x=some .local→
 bindL kindOf (P.zip vs) m x=some v
 | [],_,_,_,_,h,_,_=>by simp at h
 | _::_,[],_,_,_,_,h,_=>by simp at h
 | p::P,w::vs,0,m,nd,h1,h2,hk=>by simp at h1 h2;subst h1;subst h2;show bindL kindOf ((p,w)::P.zip vs) m p=_;unfold bindL;rw[Sy λv hv=>(CC.mp nd).1 (El hv).1,if_pos hk];simp
 | p::P,w::vs,i+1,m,nd,h1,h2,hk=>by show bindL kindOf ((p,w)::P.zip vs) m x=_;unfold bindL;exact Sw (i:=i) (CC.mp nd).2 (by simpa using h1) (by simpa using h2) hk
theorem Su{kindOf:Str→Option NameKind}{x:Str}{v:Value}:∀{P:List Str}{vs:List Value}{i:Nat}{m:Str→Option Value},P.Nodup→P[i]?=some x→vs[i]?=some v→kindOf x≠some .local→
 bindC kindOf (P.zip vs) m x=some v
 | [],_,_,_,_,h,_,_=>by simp at h
 | _::_,[],_,_,_,_,h,_=>by simp at h
 | p::P,w::vs,0,m,nd,h1,h2,hk=>by simp at h1 h2;subst h1;subst h2;show bindC kindOf ((p,w)::P.zip vs) m p=_;unfold bindC;rw[Sv λv hv=>(CC.mp nd).1 (El hv).1,if_neg hk];simp
 | p::P,w::vs,i+1,m,nd,h1,h2,hk=>by show bindC kindOf ((p,w)::P.zip vs) m x=_;unfold bindC;exact Su (i:=i) (CC.mp nd).2 (by simpa using h1) (by simpa using h2) hk
def JY(N:List Str)(vs:List V):St:=vs.map some++Bt (N.length - vs.length) none
def Je(CX:JN)(P:Br)(w:World)(K:Ae)(mg:Str→Option Value)(base:Heap)(N:List Str)(qual:Str)(scope:Scope)(f:Addr)(cd:Value)(A:Bu)(outer:List Env)(s:Shared)(H:Hp)(E:XK):Cx where
 prog:=P
 w:=w
 K:=K
 mg:=mg
 base:=base
 A:=A.deeper (envOfC qual scope s.heap.objs.size f cd)
 N:=N
 s₀:=s
 H₀:=H
 env:=envOfC qual scope s.heap.objs.size f cd
 outer:=outer
 stack:=envOfC qual scope s.heap.objs.size f cd::outer
 ex:=[]
 calm:=true
 fn:=λ_=>true
 pn:=[]
 xe:=λe s'=>wpAny (model P w) (A.deeper (envOfC qual scope s.heap.objs.size f cd)) (leaving (envOfC qual scope s.heap.objs.size f cd) e) (λ_ s''=>CX outer H s E e s'') (λe' s''=>CX outer H s E e' s'') s'
theorem RZ{sc:Scope}{x:Str}(h:sc.names.lookup x=some .cell):∃c,(BS n sc.names []).lookup x=some c:=by have q:=C2 sc.names n [] (.inl h);exact Fd.mp q
theorem Sl{CX:JN}{P:Br}{w:World}{K:Ae}{mg:Str→Option Value}{base:Heap}{N ps:List Str}{qual:Str}{scope:Scope}{f:Addr}{cd:Value}{A:Bu}{outer:List Env}{s s1:Shared}{H:Hp}{E:XK}{us:List Value}{vs:List V}
 (S:FnScope N ps scope) (hd:A.handled=none) (e0:Env0 P w K mg base A outer s H) (hl:vs.length=ps.length) (r:Vals vs us)
 (x:InCallC s s.heap.objs.size (bindL (envOfC qual scope s.heap.objs.size f cd).kindOf (ps.zip us) λ_=>none) (BS (s.heap.objs.size+1) scope.names []) (bindC (envOfC qual scope s.heap.objs.size f cd).kindOf (ps.zip us) λ_=>none) s1):
 Inv (Je CX P w K mg base N qual scope f cd A outer s H E) [] (JY N vs) H s1:=by
 have hpl:ps.length≤N.length:=by have:=congrArg AX S.pre;rw[AH] at this;omega
 obtain⟨h1,tk,rfl,hk⟩:=x.done;have noA:∀b:Addr,b ∉ (Je CX P w K mg base N qual scope f cd A outer s H E).ex:=λb z=>absurd (show b∈([]:List Addr) from z) (by simp);refine⟨⟨e0.mod,S.kind,rfl,rfl,Ah _,λy z c h1 h2=>?_,λy hy=>?_,λy c _ h=>?_,λ_=>hd,Around.frames_deeper e0.frames,.inr ⟨rfl,rfl⟩,λb z=>absurd z (noA b),e0.bs,e0.bsz,λb _ _=>noA b,λb z=>absurd z (noA b),e0.funs,e0.frf⟩,
  rfl,e0.bare,Un.kept hk,⟨_,x.toInCall.ns,λi y v h1 h2 h3=>?_⟩,λy c h=>⟨_,x.cell y c h⟩,e0.hok.fresh (Ah _),λy c h=>?_,λp hp=>absurd (show p∈([]:List (Addr×Obj)) from hp) (by simp),e0.hok.kept hk,?_⟩
 · exact name_of_addr x.apart (Dh h1) (Dh h2)
 · have hy:scope.names.lookup y=some .cell∨scope.names.lookup y=some .free:=hy;rcases hy with hy | hy
   · exact RZ hy
   · exact absurd rfl (S.nofree _ (Dh hy))
 · exact Bz (x.above y c (Dh h))
 · have hi:i<vs.length:=by
    unfold JY at h2;by_cases hi:i<vs.length
    · exact hi
    · rw[EE (by simpa using hi)] at h2;rw[List.getElem?_replicate] at h2
      split at h2<;>cases h2
   have ha:vs[i]?=some v:=by
    unfold JY at h2;rw[EY (by simpa using hi),Ai] at h2;cases e:vs[i]? with
    | none=>rw[e] at h2;cases h2
    | some a=>rw[e] at h2;cases h2;rfl
   obtain⟨u,hu,rv⟩:=r.get ha;have hp:ps[i]?=some y:=by rw[←S.pre,List.getElem?_take_of_lt (by omega)];exact h1
   have ndP:ps.Nodup:=by rw[←S.pre];exact S.nd.sublist (List.take_sublist _ _)
   refine⟨u,rv,?_⟩;rcases S.par y (Am hp) with k | k
   · exact .inl ⟨k,Sw ndP hp hu k⟩
   · obtain⟨c,e⟩:=RZ (n:=s.heap.objs.size+1) k;refine .inr ⟨.inl k,c,e,?_⟩;have q:=x.cell y c e;rw[Su ndP hp hu (by show scope.names.lookup y≠_;rw[k];decide)] at q;exact q
 · exact e0.hok.fresh (Bz (x.above y c (Dh h)))
 · unfold JY;show _=N.length;rw[Aw,Ab,Ck];omega
theorem QH{CX:JN}{P:Br}{w:World}{K:Ae}{mg:Str→Option Value}{base:Heap}{k:Nat}{f:Addr}{name qual:Str}{params:Arguments}{body:List Stmt}{scope:Scope}{dV kV doc pm cdv ct oc:Value}{an od:Option Addr}
 {osl:Array (Option Value)} {N ps:List Str} {sp:Sp} (lk:K.lookup f=some ⟨oc,od,.func (Ds name qual params body scope dV kV doc pm an cdv ct),osl⟩) (hcd:FG K cdv qual=true) (S:FnScope N ps scope)
 (len:∀vs H Q E,sp vs H Q E→vs.length=ps.length)
 (hbody:∀(A:Bu)(outer:List Env)(s:Shared)(H:Hp)(vs:List V)(Q:VK)(E:XK),Room k (A.deeper (envOfC qual scope s.heap.objs.size f cdv))→sp vs H Q E→
  ∃t,PSs (Je CX P w K mg base N qual scope f cdv A outer s H E) body t∧t {nx:=λ_ H'=>Q .non H',rt:=Q} (JY N vs) H):
 FnOk P w K mg base CX (k+1) f (Ds name qual params body scope dV kV doc pm an cdv ct) ps sp:=by
 refine⟨len,λA outer s H args us vs Q E hr e0 hb r hsp=>?_⟩;have hl:=len _ _ _ _ hsp;have KX:K.In s.heap:=e0.mod.kin.keeps λb o e=>(e0.bs b o e).1;have lim:s.heap.NoLimit:=e0.mod.nolimit.keeps λb o e=>(e0.bs b o e).1;have hkind:∀y∈ps.zip us,scope.names.lookup y.1=some .local∨(scope.names.lookup y.1=some .cell∧((BS (s.heap.objs.size+1) scope.names []).lookup y.1).isSome=true):=λ⟨n,v⟩ hy=>by
  rcases S.par n (El hy).1 with q | q
  · exact .inl q
  · exact .inr ⟨q,C2 _ _ _ (.inl q)⟩
 refine codeAny_call_function hr.depth (KX _ _ lk) rfl S.co S.gen rfl (PySem.W.codeRec_of KX hcd) (hb _ _ _ _ ?_);refine EF S.kind hkind λenv he s1 x=>?_;subst he;refine⟨lim.keeps x.toInCall.keep,codeAny_func ?_⟩;obtain⟨t,ht,hq⟩:=hbody A outer s H vs Q E (hr.deeper _) hsp;have I:Inv (Je CX P w K mg base N qual scope f cdv A outer s H E) [] (JY N vs) H s1:=Sl S hr.hd e0 hl r x;refine Ay (ht [] s1 (JY N vs) H _ I hq) (λfl s' hs=>?_) λe s' hs=>hs;have fin:∀{σ':St}{H':Hp}{v:V}{u:Value},Inv (Je CX P w K mg base N qual scope f cdv A outer s H E) [] σ' H' s'→RelV v u→Q v H'→CE outer P w H s Q u s':=
  λ{σ' H' v u}J rv q=>⟨v,H',J.os,J.bare,J.base,J.hok,rv,q⟩
 cases fl with
 | ret u=> obtain⟨v,σ',H',J,rv,q⟩:=hs;exact fin J rv q
 | next=> obtain⟨σ',H',J,q⟩:=hs;exact fin (v:=V.non) (u:=Value.none) J rfl q
 | brk=> obtain⟨_,_,_,q⟩:=hs;exact C5 q
 | cont=> obtain⟨_,_,_,q⟩:=hs;exact C5 q
section
variable{X:Cx}{x:Str}{p:Pos}{es:List Expr}{t:TA}{id T:String}{r:List V→Hp→VK→Prop}
def TD(r:List V→Hp→VK→Prop)(t:TA):TE:=λσ H Q=>t σ H λvs H1=>r vs H1 Q
theorem HP(hc:J9 X (.builtin id) r)(hg:Gl X x)(hm:X.mg x=none)(hv:Bf x=some (.builtin id))(ha:PA X (e::es) t)(hn:x≠"__name__":=by decide)(hdb:(x==("__debug__":Str))=false:=by decide)
 (he:AR (e::es) X.env=(false,eval e X.env)::AR es X.env:=by rfl) (hpl:(backTo pos (AR es X.env)).any (·.1)=false:=by rfl):PE X (.Call (.Name x p) (e::es) [] pos) (TD r t):=by
 intro pins s σ H Q I h;refine C9 (Lg I hg hm hv ?_ hn hdb);exact Em (Hx (ha pos pins s σ H _ I h) λus s1 ⟨vs,H1,I1,r1,q1⟩=>hc pins s1 σ H1 vs us Q I1 r1 q1) he hpl
theorem Lm(hc:J9 X (.type T) r)(hg:Gl X x)(hm:X.mg x=none)(hv:Bf x=some (.type T))(ha:PA X (e::es) t)(hn:x≠"__name__":=by decide)(hdb:(x==("__debug__":Str))=false:=by decide)
 (he:AR (e::es) X.env=(false,eval e X.env)::AR es X.env:=by rfl) (hpl:(backTo pos (AR es X.env)).any (·.1)=false:=by rfl):PE X (.Call (.Name x p) (e::es) [] pos) (TD r t):=by
 intro pins s σ H Q I h;refine C9 (Lg I hg hm hv ?_ hn hdb);exact CO (Hx (ha pos pins s σ H _ I h) λus s1 ⟨vs,H1,I1,r1,q1⟩=>hc pins s1 σ H1 vs us Q I1 r1 q1) he hpl
end
end L2
variable{H:L2.Hp}{X:L2.Cx}{σ:L2.St}{xs:List L2.V}{x:PySem.Str}
namespace HT
open PySem PyProof.Rows
section
open PySem.SeqAt
open PySem.AutoSeq1 (wpAny_loadPart')
open PySem.MeetsSeq PySem.MeetsSeq2 PySem.MeetsSeq3
end
theorem cat_tup{t:Addr}{vs ws:List Value}{Q:Value→Shared→Prop}(ht:IsTup s.heap t vs.toArray)(hb:IsTup s.heap b ws.toArray)(hv:vs≠[])
 (h1:ws=[]→Q (.ref t) s) (h2:ws≠[]→Q (.ref s.heap.objs.size) {s with heap:=s.heap.push {cls:= .type "tuple",data:= .seq (vs++ws).toArray}})
 (hsz:vs.length+ws.length≤Av):wpAny (model prog w) A (binaryOp .Add (.ref t) (.ref b)) Q E s:=by
 obtain⟨⟨cls,dd,data,sl⟩,ho,hc,n,hd⟩:=id ht;obtain⟨⟨cls2,dd2,data2,sl2⟩,ho2,hc2,n2,hd2⟩:=id hb;simp only at hc hd hc2 hd2;subst hc hd hc2 hd2;have e:vs.toArray++ws.toArray=(vs++ws).toArray:=by simp
 by_cases hw:ws=[]
 · exact concat_meets ⟨_,ho,rfl⟩ ⟨_,ho2,rfl⟩ noFill_tuple_add seq_tuple_add DS DL (DD _ _)
    (tuple_addW1 t b vs.toArray ws.toArray n n2 dd dd2 sl sl2 (by simpa using hv) (by simp[hw])) ⟨ho,ho2,h1 hw⟩
 · refine concat_meets ⟨_,ho,rfl⟩ ⟨_,ho2,rfl⟩ noFill_tuple_add seq_tuple_add DS DL (DD _ _)
    (tuple_addW2 t b vs.toArray ws.toArray n n2 dd dd2 sl sl2 (by simpa using hv) (by simpa using hw) (by rw[Au,Au];exact hsz)) ⟨ho,ho2,?_⟩
   rw[e];exact h2 hw
def sIx(n d:Nat):Option Int→Nat
 | none=>d
 | some v=>if v<0 then(v+(n:Int)).toNat else min v.toNat n
theorem sIx_none(n d:Nat):sIx n d none=d:=rfl
theorem sIx_nat(n d k:Nat):sIx n d (some (k:Int))=min k n:=by
 show(if(k:Int)<0 then((k:Int)+(n:Int)).toNat else min (k:Int).toNat n)=min k n
 rw[if_neg (by omega),Bk]
theorem Us(n d:Nat)(hd:d≤n)(o:Option Int):sIx n d o≤n:=by
 cases o with
 | none=>exact hd
 | some v=>
  show(if v<0 then(v+(n:Int)).toNat else min v.toNat n)≤n
  by_cases hv:v<0
  · rw[if_pos hv];omega
  · rw[if_neg hv];exact Nat.min_le_right _ _
theorem Rk(v:Int)(n d:Nat):(if v<0 then max (v+(n:Int)) 0 else min v (n:Int))=((sIx n d (some v):Nat):Int):=by
 show(if v<0 then max (v+(n:Int)) 0 else min v (n:Int))=(((if v<0 then(v+(n:Int)).toNat else min v.toNat n):Nat):Int)
 by_cases hv:v<0
 · simp only[if_pos hv];omega
 · simp only[if_neg hv];omega
theorem XW(lo hi:Option Int)(n:Nat):D7 lo hi 1 (n:Int)=(((sIx n 0 lo:Nat):Int),((sIx n n hi:Nat):Int)):=by
 have h1:¬((1:Int)<0):=by omega
 unfold D7;simp only[h1,if_false];refine Prod.ext ?_ ?_
 · cases lo with
   | none=>rfl
   | some v=>exact Rk v n 0
 · cases hi with
   | none=>rfl
   | some v=>exact Rk v n n
theorem Xn(i j:Nat):C_ (i:Int) (j:Int) 1=j - i:=by
 unfold C_;have h1:(1:Int)>0:=by omega
 simp only[h1,if_true,Int.ediv_one]
 split<;>omega
theorem S_{v:Value}{o:Option Int}{Q:Option Int→Shared→Prop}(p:IsPart v o)(h:Q o s):wpAny (model prog w) A (Builtin.Slice.slicePartIndex v) Q E s:=by
 cases p with
 | none=>exact slicePart_none h
 | int i t=>exact slicePart_int h
theorem sliceApplied_gen{sl:Addr}{vl vu:Value}{lo hi:Option Int}{n:Nat}{Q:Int×Int×Nat→Shared→Prop}(hs:s.heap.IsSliceOf sl vl vu .none)(pl:IsPart vl lo)(pu:IsPart vu hi)
 (h:Q (((sIx n 0 lo:Nat):Int),1,sIx n n hi - sIx n 0 lo) s):wpAny (model prog w) A (EG (.ref sl) (pure (n:Int))) Q E s:=by
 obtain⟨os,hos,hcs,hds⟩:=id hs;unfold EG Builtin.Slice.sliceFields;refine Aa (Aa (AZ hos hds (x:=vl) rfl (Aa (AZ hos hds (x:=vu) rfl (Aa (AZ hos hds (x:= .none) rfl (Ac ?_)))))));refine Aa (slicePart_none ?_);show wpAny _ _ (if((1:Int)==0)=true then _ else _) _ _ s
 rw[if_neg (by decide)];refine Aa (S_ pl (Aa (S_ pu (Aa (Ac ?_)))));show wpAny _ _ (match D7 lo hi 1 (n:Int) with | (lo,hi)=>pure (lo,(1:Int),C_ lo hi 1)) _ _ s
 rw[XW lo hi n];show wpAny _ _ (pure (((sIx n 0 lo:Nat):Int),(1:Int),C_ ((sIx n 0 lo:Nat):Int) ((sIx n n hi:Nat):Int) 1)) _ _ s;rw[Xn];exact Ac h
theorem Wi(xs:Array Value)(i k:Nat):((BV k).filterMap λ(m:Nat)=>xs[((i:Int)+(m:Int)*1).toNat]?).toArray=((xs.toList.drop i).take k).toArray:=by
 have e:(λ(m:Nat)=>xs[((i:Int)+(m:Int)*1).toNat]?)=λm=>xs[i+m]?:=by
  funext m;have:((i:Int)+(m:Int)*1).toNat=i+m:=by omega
  rw[this]
 rw[e];have:=pick_run xs i k;rw[List.filterMap_map] at this;have e2:((λx=>xs[x]?)∘λx=>i+x)=λm=>xs[i+m]?:=rfl;rw[e2] at this;rw[this]
theorem getItem_tuple_cut{t sl:Addr}{items:Array Value}{vl vu:Value}{lo hi:Option Int}{Q:Value→Shared→Prop}(ht:IsTup s.heap t items)(hs:s.heap.IsSliceOf sl vl vu .none)(pl:IsPart vl lo)(pu:IsPart vu hi)
 (hw:¬(sIx items.size 0 lo=0∧sIx items.size items.size hi=items.size))
 (h:Q (.ref s.heap.objs.size) {s with heap:=s.heap.push {cls:= .type "tuple",data:= .seq ((items.toList.drop (sIx items.size 0 lo)).take (sIx items.size items.size hi - sIx items.size 0 lo)).toArray}})
 (hsz:items.size≤Av):wpAny (model prog w) A (getItem (.ref t) (.ref sl)) Q E s:=by
 have htake:sizeOk (.seq ((items.toList.drop (sIx items.size 0 lo)).take (sIx items.size items.size hi - sIx items.size 0 lo)).toArray):=by show((items.toList.drop (sIx items.size 0 lo)).take (sIx items.size items.size hi - sIx items.size 0 lo)).toArray.size≤Av;rw[Au,AH,BM,AC];omega
 have hj:sIx items.size items.size hi≤items.size:=Us _ _ (Ah _) hi;obtain⟨os,hos,hcs,hds⟩:=id hs;have hTs:s.TypeIs (.ref sl) "slice":=⟨os,hos,hcs⟩;unfold getItem
 try with_reducible refine AT ?_
 first | refine Aa (Ac ?_) | skip
 refine Aa (ER ht.typeIs (by decide) ?_);refine Aa (Bb (name:=BE "__getitem__") ht.typeIs BO
  (AV BO ht.typeIs entry_tuple_getitem ?_ (args_tuple_getitem _ _)))
 show wpAny _ _ (EH (.ref t)>>=_) _ _ s;refine Aa (tupleItemsOf_ ht ?_);refine Aa (C3 hTs ?_);rw[if_pos (by decide)];refine Aa (sliceApplied_gen hs pl pu ?_);have hno:¬((((sIx items.size 0 lo:Nat):Int)==0 && (1:Int)==1 && (sIx items.size items.size hi - sIx items.size 0 lo)==items.size)=true):=by intro q;rw[AB,AB] at q;have q1:((sIx items.size 0 lo:Nat):Int)=0:=eq_of_beq q.1.1;have q2:sIx items.size items.size hi - sIx items.size 0 lo=items.size:=eq_of_beq q.2;exact hw ⟨by omega,by omega⟩
 show wpAny _ _ (if(((sIx items.size 0 lo:Nat):Int)==0 && (1:Int)==1 && (sIx items.size items.size hi - sIx items.size 0 lo)==items.size)=true then _ else _) _ _ s
 rw[if_neg hno,Wi]
 first
  | exact Aa (m:=Dd _) (AW (Ac ⟨_,rfl,Ac h⟩) htake)
  | exact Aa (m:=Dd _) (AW (Aa (Ac (Ac ⟨_,rfl,Ac h⟩))) htake)
  | exact Aa (Aa (m:=Dd _) (AW (Ac (Ac ⟨_,rfl,Ac h⟩)) htake))
  | exact Aa (Aa (m:=Dd _) (AW (Ac ⟨_,rfl,Ac h⟩) htake))
end HT
namespace L2
abbrev TO:=St→Hp→(Option Int→Hp→Prop)→Prop
def PO(X:Cx)(e:Option Expr)(t:TO):Prop:=
 ∀(pins:List (Addr×Obj))(s:Shared)(σ:St)(H:Hp)(Q:Option Int→Hp→Prop),Inv X pins σ H s→t σ H Q→
  wpAny (model X.prog X.w) X.A (evalPart e X.env) (λu s'=>∃o H',Inv X pins σ H' s'∧IsPart u o∧Q o H') X.xe s
def Kd:TO:=λ_ H Q=>Q none H
def Ki(t:TE):TO:=λσ H Q=>t σ H λx H1=>∃i,x= .int i∧Q (some i) H1
section
variable{te:TE}{lo hi:Option Expr}{tl th:TO}{p2:Pos}
theorem IN:PO X none Kd:=by intro pins s σ H Q I h;rw[evalPart_none];exact Ac ⟨none,H,I,.none,h⟩
theorem IP(h:PE X e te):PO X (some e) (Ki te):=by intro pins s σ H Q I hw;rw[evalPart_some];refine Hx (h pins s σ H _ I hw) λu s1 ⟨x,H1,I1,r1,q1⟩=>?_;obtain⟨i,rfl,q⟩:=q1;obtain⟨t,rfl⟩:=r1;exact⟨some i,H1,I1,.int i t,q⟩
def Mp(X:Cx)(r:V→Option Int→Option Int→Hp→VK→Prop):Prop:=
 ∀(pins:List (Addr×Obj))(s:Shared)(σ:St)(H:Hp)(x:V)(v vl vu:Value)(lo hi:Option Int)(sl:Addr)(Q:VK),Inv X pins σ H s→RelV x v→s.heap.IsSliceOf sl vl vu .none→IsPart vl lo→IsPart vu hi→r x lo hi H Q→
  ∃T id,typeLookup (.type T) "__getitem__"=pure (some (.builtin id))∧s.TypeIs v T∧wpAny (model X.prog X.w) X.A (getItem v (.ref sl)) (EP X pins σ Q) X.xe s
def Kt(r:V→Option Int→Option Int→Hp→VK→Prop)(te:TE)(tl th:TO):TE:=λσ H Q=>te σ H λx H1=>tl σ H1 λl H2=>th σ H2 λu H3=>r x l u H3 Q
theorem IQ{r:V→Option Int→Option Int→Hp→VK→Prop}(hr:Mp X r)(he:PE X e te)(hl:PO X lo tl)(hu:PO X hi th):PE X (.Subscript e (.Slice lo hi none p2) pos) (Kt r te tl th):=by
 intro pins s σ H Q I h;refine Subscript_ (Hx (he pins s σ H _ I h) λv s1 ⟨x,H1,I1,r1,q1⟩=>?_);refine wpAny_Slice (Hx (hl pins s1 σ H1 _ I1 q1) λvl s2 ⟨l,H2,I2,pl,q2⟩=>Hx (hu pins s2 σ H2 _ I2 q2) λvu s3 ⟨u,H3,I3,pu,q3⟩=>?_);rw[evalPart_none];refine Ac ?_;have I4:Inv X pins σ H3 {s3 with heap:=s3.heap.push {cls:= .type "slice",data:= .fields #[vl,vu,.none]}}:=I3.kept (t':=s3.toks) λb ob q=>Ad _ q
 obtain⟨T,id,hT,ht,hg⟩:=hr pins {s3 with heap:=s3.heap.push {cls:= .type "slice",data:= .fields #[vl,vu,.none]}} σ H3 x v vl vu l u s3.heap.objs.size Q I4 r1 (Heap.IsSliceOf.new ..) pl pu q3;show wpAny (model X.prog X.w) X.A (subscriptTail e (.Slice lo hi none p2) v (.ref s3.heap.objs.size)) (EP X pins σ Q) X.xe {s3 with heap:=s3.heap.push {cls:= .type "slice",data:= .fields #[vl,vu,.none]}};exact tail_any (ops:=[.ref s3.heap.objs.size,v]) ht hT hg (by with_unfolding_all rfl)
def Iq(xs:List V)(lo hi:Option Int):List V:=(xs.drop (HT.sIx xs.length 0 lo)).take (HT.sIx xs.length xs.length hi - HT.sIx xs.length 0 lo)
theorem Th(xs:List V)(lo hi:Option Int):(Iq xs lo hi).length≤xs.length:=by unfold Iq;rw[AH,BM];omega
def Qa(K:Ae):V→Option Int→Option Int→Hp→VK→Prop:=λx lo hi H Q=>∃a xs,x= .ref a∧SqT K H a xs∧
 ¬(HT.sIx xs.length 0 lo=0∧HT.sIx xs.length xs.length hi=xs.length)∧∀p,H p=none→Q (.ref p) (Hr H p (.tup (Iq xs lo hi)))
theorem Ut:Mp X (Qa X.K):=by
 intro pins s σ H x v vl vu lo hi sl Q I rx hs pl pu h;obtain⟨a,xs,rfl,hx,hw,q⟩:=h;cases rx;obtain⟨its,r,ht,hz⟩:=I.tuple hx;have hlen:its.toArray.size=xs.length:=by rw[Au];exact r.length.symm
 refine⟨"tuple",_,BO.lookup,ht.typeIs,?_⟩;refine HT.getItem_tuple_cut ht hs pl pu (by rw[hlen];exact hw) ?_ (by rw[hlen];exact hz);rw[hlen];refine⟨.ref s.heap.objs.size,_,I.laid (t':=s.toks) (o:= .tup (Iq xs lo hi)) (λb ob q=>Ad _ q) (Ah _) ?_,rfl,q _ (I.hok.fresh (Ah _))⟩;exact⟨AY (Th xs lo hi) hz,_,(r.drop (HT.sIx xs.length 0 lo)).take (HT.sIx xs.length xs.length hi - HT.sIx xs.length 0 lo),IsTupP.new _ _⟩
theorem Vals.nil_iff(r:Vals xs us):us=[]↔xs=[]:=by
 cases r with
 | nil=>simp
 | cons _ _=>simp
end
def KQ(n:Nat)(i:Int):Option Nat:=if 0≤i then(if i<n then some i.toNat else none) else if -(n:Int)≤i then some (i+n).toNat else none
def IS{α:Type}(xs:List α)(i:Int):Option α:=(KQ xs.length i).bind λj=>xs[j]?
theorem O5{i:Int}{j:Nat}(h:KQ n i=some j):seqIndex? i n=some j∧j<n∧ -(n:Int)≤i∧i<n:=by
 unfold KQ at h;by_cases h0:0≤i
 · rw[if_pos h0] at h;by_cases h1:i<n
   · rw[if_pos h1] at h;have e:i.toNat=j:=A5 h;exact⟨by rw[seqIndex_of h0 h1,e],by omega,by omega,h1⟩
   · rw[if_neg h1] at h;cases h
 · rw[if_neg h0] at h;by_cases h1: -(n:Int)≤i
   · rw[if_pos h1] at h;have e:(i+n).toNat=j:=A5 h;exact⟨by rw[seqIndex_neg (by omega) h1,e],by omega,h1,by omega⟩
   · rw[if_neg h1] at h;cases h
theorem OB{α:Type}{xs:List α}{i:Int}{v:α}(h:IS xs i=some v):∃j,seqIndex? i xs.length=some j∧xs[j]?=some v∧j<xs.length∧ -(xs.length:Int)≤i∧i<xs.length:=by
 unfold IS at h;cases e:KQ xs.length i with
 | none=>rw[e] at h;cases h
 | some j=> rw[e] at h;obtain⟨h1,h2,h3,h4⟩:=O5 e;exact⟨j,h1,h,h2,h3,h4⟩
theorem J6{α:Type}{xs:List α}{j:Nat}{v:α}(h:xs[j]?=some v):IS xs (j:Int)=some v:=by
 have hj:j<xs.length:=(Al.mp h).1;have e:KQ xs.length (j:Int)=some j:=by unfold KQ;rw[if_pos (by omega),if_pos (by omega)];simp
 unfold IS;rw[e];exact h
def U3(b:Expr):Prop:=∀o i,subscripted b false o i=operate [o,i] (getItem o i)
def LQ(X:Cx)(r:R2):Prop:=
 ∀(value slice:Expr)(pins:List (Addr×Obj))(s:Shared)(σ:St)(H:Hp)(x y:V)(v u:Value)(Q:VK),Inv X pins σ H s→RelV x v→RelV y u→r x y H Q→
  subscripted slice false v u=operate [v,u] (getItem v u)→wpAny (model X.prog X.w) X.A (subscriptTail value slice v u) (EP X pins σ Q) X.xe s
def TQ(X:Cx)(id:String)(r:V→List V→Hp→VK→Prop):Prop:=
 ∀(pins:List (Addr×Obj))(s:Shared)(σ:St)(H:Hp)(x:V)(xs:List V)(v:Value)(us:List Value)(Q:VK),Inv X pins σ H s→RelV x v→Vals xs us→r x xs H Q→
  wpAny (model X.prog X.w) X.A (call (.builtin id) (v::us)) (EP X pins σ Q) X.xe s
section
variable{a b:Expr}{ta tb:TE}
theorem HV{r:R2}(hr:LQ X r)(ha:PE X a ta)(hb:PE X b tb)(hs:U3 b):PE X (.Subscript a b pos) (Jh r ta tb):=by intro pins s σ H Q I h;exact Subscript_ (LL ha hb I h λv u s2 x y H2 I2 rx ry q=>hr a b pins s2 σ H2 x y v u Q I2 rx ry q (hs _ _))
def Qd(K:Ae):R2:=λx y H Q=>∃p xs i v,x= .ref p∧y= .int i∧SqL K H p xs∧IS xs i=some v∧Q v H
def Ku(K:Ae):R2:=λx y H Q=>∃p xs i v,x= .ref p∧y= .int i∧SqT K H p xs∧IS xs i=some v∧Q v H
def Qc:R2:=λx y H Q=>∃z i c,x= .str z∧y= .int i∧z.length≤Av∧IS z.cps.toList i=some c∧Q (.str ⟨#[c]⟩) H
theorem ID:LQ X (Qd X.K):=by
 intro value slice pins s σ H x y v u Q I rx ry h hs;obtain⟨p,xs,i,z,rfl,rfl,hq,he,q⟩:=h;cases rx;obtain⟨t,rfl⟩:=ry;obtain⟨its,r,pl,hz⟩:=I.list hq;obtain⟨j,h1,h2,h3,h4,h5⟩:=OB he;obtain⟨w,ew,rw'⟩:=r.get h2;have hl:=r.length;have hn:=L0;have fin:EP X pins σ Q w s:=⟨z,H,I,rw',q⟩;by_cases h0:0≤i
 · have hj:i.toNat=j:=by
    rw[seqIndex_of h0 h5] at h1;exact A5 h1
   exact item_listR pl.isList h0 (by omega) (by rw[hj];simpa using ew) fin hs
 · have hj:(i+(its.toArray.size:Int)).toNat=j:=by
    rw[seqIndex_neg (by omega) h4] at h1;rw[Au,←hl];exact A5 h1
   exact F6 (x:=w) pl.isList.typeIs slot_list_getitem.lookup
    (wpAny_getItem_list_neg (Q:=λr s'=>r=w∧EP X pins σ Q r s') pl.isList (by omega) (by rw[Au]<;>omega) (by omega) (by rw[hj];simpa using ew) ⟨rfl,fin⟩) hs
theorem Jg:LQ X (Ku X.K):=by
 intro value slice pins s σ H x y v u Q I rx ry h hs;obtain⟨p,xs,i,z,rfl,rfl,hq,he,q⟩:=h;cases rx;obtain⟨t,rfl⟩:=ry;obtain⟨its,r,pl,hz⟩:=I.tuple hq;obtain⟨j,h1,h2,h3,h4,h5⟩:=OB he;obtain⟨w,ew,rw'⟩:=r.get h2;have hl:=r.length;have hn:=L0;have fin:EP X pins σ Q w s:=⟨z,H,I,rw',q⟩;exact F6 (x:=w) pl.typeIs slot_tuple_getitem.lookup
  (getItem_tuple (j:=j) (Q:=λr s'=>r=w∧EP X pins σ Q r s') pl (by omega) (by omega) (by rw[Au,←hl];exact h1) (by simpa using ew) ⟨rfl,fin⟩) hs
theorem QN:LQ X Qc:=by
 intro value slice pins s σ H x y v u Q I rx ry h hs;obtain⟨z,i,c,rfl,rfl,hz,he,q⟩:=h;obtain⟨t,rfl⟩:=rx;obtain⟨t',rfl⟩:=ry;obtain⟨j,h1,h2,h3,h4,h5⟩:=OB he;have hl:z.cps.toList.length=z.length:=by simp[Str.length]
 rw[hl] at h1 h4 h5;have hn:=L0;exact tail_any (typeIs_str s z t) slot_str_getitem.lookup (getItem_str (c:=c) (by have e1:decide (i< -(2^63:Int))=false:=decide_eq_false (by omega);have e2:decide (i≥2^63)=false:=decide_eq_false (by omega);rw[e1,e2,Bool.or_false]) (by rw[h1];simpa using h2) ⟨.str ⟨#[c]⟩,H,I.tok _,⟨_,rfl⟩,q⟩) hs
theorem XF(its:List Value)(n j:Nat)(u:Value):AJ (·.setIfInBounds j u) {cls:= .type "list",data:= .seq its.toArray n}={cls:= .type "list",data:= .seq (its.set j u).toArray n}:=by simp[AJ]
theorem Inv.lst{p:Addr}(I:Inv X pins σ H s)(h:H p=some (.lst xs)):
 ∃(its:List Value)(n:Nat),Vals xs its∧s.heap.get? p=some {cls:= .type "list",data:= .seq its.toArray n}∧xs.length≤Av:=by
 obtain⟨z,its,n,r,e⟩:=I.hok p _ h;exact⟨its,n,r,e,z⟩
theorem Inv.lstUpd{p:Addr}{ys:List V}{its its':List Value}{n n':Nat}{f:Obj→Obj}(I:Inv X pins σ H s)(h:H p=some (.lst xs))
 (ho:s.heap.get? p=some {cls:= .type "list",data:= .seq its.toArray n}) (hf:f {cls:= .type "list",data:= .seq its.toArray n}={cls:= .type "list",data:= .seq its'.toArray n'}) (r:Vals ys its') (hz:ys.length≤Av) (t:Nat):
 Inv X pins σ (Hr H p (.lst ys)) {s with heap:=s.heap.update p f,toks:=t}:=by
 have e:(s.heap.update p f).get? p=some {cls:= .type "list",data:= .seq its'.toArray n'}:=by rw[Bh f ho (by rw[hf]<;>rfl),hf]
 refine I.write (x:=p) (e:=p) (by rw[h];trivial) (.inl rfl) (λb u hb q=>(AS _ _ (BK hb)).trans q) ⟨_,e⟩ ?_;exact⟨hz,its',n',r,e⟩
def Uf:V→V→V→Hp→(Hp→Prop)→Prop:=λo i v H Q=>∃p xs k j,o= .ref p∧i= .int k∧H p=some (.lst xs)∧KQ xs.length k=some j∧Q (Hr H p (.lst (xs.set j v)))
theorem OT:Nh X Uf:=by
 intro pins s σ H o i v ov iv u Q I ro ri rv h;obtain⟨p,xs,k,j,rfl,rfl,hp,hj,q⟩:=h;cases ro;obtain⟨t,rfl⟩:=ri;obtain⟨its,n,r,ho,hz⟩:=I.lst hp;obtain⟨h1,h2,h3,h4⟩:=O5 hj;have hl:=r.length;have hn:=L0;have I':Inv X pins σ (Hr H p (.lst (xs.set j v))) {s with heap:=s.heap.update p (AJ (·.setIfInBounds j u))}:=
  I.lstUpd hp ho (XF its n j u) (r.set rv j) (by rw[List.length_set];exact hz) s.toks
 by_cases h0:0≤k
 · have hk:k.toNat=j:=by
    rw[seqIndex_of h0 h4] at h1;exact A5 h1
   exact PySem.W.ki_setAt ho h0 (by omega) (by rw[Au,←hl];exact h4) (by rw[hk];exact⟨_,I',q⟩)
 · have hk:(k+(its.toArray.size:Int)).toNat=j:=by
    rw[seqIndex_neg (by omega) h3] at h1;rw[Au,←hl];exact A5 h1
   exact PySem.W.ki_setBack ho (by omega) (by rw[Au,←hl];exact h3) (by omega) (by rw[hk];exact⟨_,I',q⟩)
theorem Zb(lo hi:Option Int)(n:Nat):(sliceBounds lo hi none n).1=((HT.sIx n 0 lo:Nat):Int)∧(sliceBounds lo hi none n).2.1=((HT.sIx n n hi:Nat):Int)∧(sliceBounds lo hi none n).2.2=1:=by
 refine⟨?_,?_,rfl⟩
 · cases lo with
   | none=>simp[sliceBounds,HT.sIx]
   | some i=>
    simp only[sliceBounds,HT.sIx,Fe,show(1:Int)>0 by decide,if_true];by_cases h:i<0
    · simp only[h,if_true]<;>omega
    · simp only[h,if_false]<;>omega
 · cases hi with
   | none=>simp[sliceBounds,HT.sIx]
   | some i=>
    simp only[sliceBounds,HT.sIx,Fe,show(1:Int)>0 by decide,if_true];by_cases h:i<0
    · simp only[h,if_true]<;>omega
    · simp only[h,if_false]<;>omega
theorem YX(its:List Value)(lo hi:Option Int):slicePick its.toArray lo hi none=((its.drop (HT.sIx its.length 0 lo)).take (HT.sIx its.length its.length hi - HT.sIx its.length 0 lo)).toArray:=by obtain⟨h1,h2,h3⟩:=Zb lo hi its.toArray.size;unfold slicePick;rw[h1,h2,h3];simp only[sliceRange_one,pick_run,Au]<;>rfl
def LI(K:Ae):V→Option Int→Option Int→Hp→VK→Prop:=λx lo hi H Q=>∃a xs,x= .ref a∧SqL K H a xs∧∀p,H p=none→Q (.ref p) (Hr H p (.lst (Iq xs lo hi)))
theorem Lk:Mp X (LI X.K):=by intro pins s σ H x v vl vu lo hi sl Q I rx hs pl pu h;obtain⟨a,xs,rfl,hx,q⟩:=h;cases rx;obtain⟨its,r,ht,hz⟩:=I.list hx;have hlen:=r.length;refine⟨"list",_,slot_list_getitem.lookup,ht.isList.typeIs,?_⟩;refine wpAny_getItem_list_slice ht.isList hs pl pu .none (by simp) ?_ (by rw[Au]<;>omega);rw[YX,←hlen];refine⟨.ref s.heap.objs.size,_,I.laid (t':=s.toks) (o:= .lst (Iq xs lo hi)) (λb ob q=>Ad _ q) (Ah _) ?_,rfl,q _ (I.hok.fresh (Ah _))⟩;exact⟨AY (Th xs lo hi) hz,_,0,(r.drop (HT.sIx xs.length 0 lo)).take (HT.sIx xs.length xs.length hi - HT.sIx xs.length 0 lo),An _ rfl⟩
def Kz:V→Bool
 | .non=>true
 | .bl _=>true
 | .int _=>true
 | .str _=>true
 | _=>false
def Kw:V→V→Bool
 | .non,.non=>true
 | .bl a,.bl b=>a==b
 | .bl a,.int b=>(if a then 1 else 0)==b
 | .int a,.bl b=>a==(if b then 1 else 0)
 | .int a,.int b=>a==b
 | .str a,.str b=>a==b
 | _,_=>false
theorem Va{y x:V}{v:Value}(ry:RelV y u)(rx:RelV x v)(fy:Kz y=true)(fx:Kz x=true):DJ A s u v (Kw y x):=by
 cases y with
 | non=>
  cases ry;cases x with
  | non=>cases rx;exact D8 _
  | bl b=>cases rx;exact FU b
  | int b=>obtain⟨t,rfl⟩:=rx;exact Gb b t
  | str b=>obtain⟨t,rfl⟩:=rx;exact Gc b t
  | _=>exact absurd (show false=true from fx) AA
 | bl a=>
  cases ry;cases x with
  | non=>cases rx;exact FV a
  | bl b=>cases rx;exact FW a b
  | int b=>obtain⟨t,rfl⟩:=rx;exact Gd a b t
  | str b=>obtain⟨t,rfl⟩:=rx;exact Ge a b t
  | _=>exact absurd (show false=true from fx) AA
 | int a=>
  obtain⟨t',rfl⟩:=ry;cases x with
  | non=>cases rx;exact Gf a t'
  | bl b=>cases rx;exact Gg a t' b
  | int b=>obtain⟨t,rfl⟩:=rx;exact SeqAt.EqAt.int_int a t' b t
  | str b=>obtain⟨t,rfl⟩:=rx;exact E5 a t' b t
  | _=>exact absurd (show false=true from fx) AA
 | str a=>
  obtain⟨t',rfl⟩:=ry;cases x with
  | non=>cases rx;exact Gh a t'
  | bl b=>cases rx;exact Gi a t' b
  | int b=>obtain⟨t,rfl⟩:=rx;exact E6 a t' b t
  | str b=>obtain⟨t,rfl⟩:=rx;exact SeqAt.EqAt.str_str a t' b t
  | _=>exact absurd (show false=true from fx) AA
 | _=>exact absurd (show false=true from fy) AA
def KR(x:V)(u:Value):Bool:=match u with
 | .none=>Kw .non x
 | .bool b=>Kw (.bl b) x
 | .int i _=>Kw (.int i) x
 | .str z _=>Kw (.str z) x
 | _=>false
theorem QM{x y:V}(r:RelV y u)(f:Kz y=true):KR x u=Kw y x:=by
 cases y with
 | non=>cases r;rfl
 | bl b=>cases r;rfl
 | int i=>obtain⟨t,rfl⟩:=r;rfl
 | str z=>obtain⟨t,rfl⟩:=r;rfl
 | _=>exact absurd (show false=true from f) AA
theorem OA{x:V}:∀{xs:List V}{us:List Value},Vals xs us→xs.all Kz=true→us.any (KR x)=xs.any λy=>Kw y x
 | _,_,.nil,_=>rfl
 | y::xs,u::us,.cons r t,f=>by rw[Dm,AB] at f;rw[Dn,Dn,QM r f.1,OA t f.2]
theorem ON{x:V}{v:Value}(rx:RelV x v)(fx:Kz x=true):∀{xs:List V}{us:List Value},Vals xs us→xs.all Kz=true→∀u∈us,DJ A s u v (KR x u)
 | _,_,.nil,_=>λu hu=>by cases hu
 | y::xs,u::us,.cons r t,f=>λu' hu=>by
  rw[Dm,AB] at f;rcases As.mp hu with rfl | hu
  · rw[QM r f.1];exact Va r rx f.1 fx
  · exact ON rx fx t f.2 u' hu
def Mm(x:V)(xs:List V):Bool:=xs.any λy=>Kw y x
def TH(K:Ae)(neg:Bool):R2:=λx y H Q=>∃p xs,y= .ref p∧(SqL K H p xs∨SqT K H p xs)∧Kz x=true∧xs.all Kz=true∧Q (.bl (if neg then !Mm x xs else Mm x xs)) H
theorem Ts:Iu X (BH .NotIn) (TH X.K true):=by
 intro pins s σ H x y v u Q I rx ry h;obtain⟨p,xs,rfl,hq,fx,fs,q⟩:=h;cases ry;rcases hq with hq | hq
 · obtain⟨its,r,pl,hz⟩:=I.list hq;refine SeqAt.notIn_listAt (KR x) pl.isList (λw hw=>ON rx fx r fs w (by simpa using hw)) ⟨.bl _,H,I,rfl,?_⟩;rw[show its.toArray.any (KR x)=its.any (KR x) by simp,OA r fs];exact q
 · obtain⟨its,r,pl,hz⟩:=I.tuple hq;refine SeqAt.notIn_tupleAt (KR x) pl (λw hw=>ON rx fx r fs w (by simpa using hw)) ⟨.bl _,H,I,rfl,?_⟩;rw[show its.toArray.any (KR x)=its.any (KR x) by simp,OA r fs];exact q
theorem Zh:Iu X (BH .NotIn) (λx y H Q=>∃i j,x= .str i∧y= .str j∧Q (.bl (!(!(DM j i 0 j.length 1).isEmpty))) H):=by intro pins s σ H x y v u Q I rx ry h;obtain⟨i,j,rfl,rfl,q⟩:=h;obtain⟨t,rfl⟩:=rx;obtain⟨t',rfl⟩:=ry;exact notIn_str ⟨.bl _,H,I,rfl,q⟩
theorem IF:J9 X (.builtin "len") (λxs H Q=>∃p ys,xs=[.ref p]∧(SqL X.K H p ys∨SqT X.K H p ys)∧Q (.int ys.length) H):=by
 intro pins s σ H xs us Q I r h;obtain⟨p,ys,rfl,hq,q⟩:=h;obtain⟨u,rfl,rx⟩:=Jx r;cases rx;have hn:=L0;rcases hq with hq | hq
 · obtain⟨its,r',pl,hz⟩:=I.list hq;have hlen:=r'.length;exact Calls.call_len_list pl.isList (by simp only[Au]<;>omega) ⟨.int ys.length,H,I.tok _,⟨s.toks+1,by rw[Au,hlen]⟩,q⟩
 · obtain⟨its,r',pl,hz⟩:=I.tuple hq;have hlen:=r'.length;exact len_tuple pl (by simp only[Au]<;>omega) ⟨.int ys.length,H,I.tok _,⟨s.toks+1,by rw[Au,hlen]⟩,q⟩
theorem P3:J9 X (.builtin "len") (λxs H Q=>∃z,xs=[.str z]∧z.length≤Av∧Q (.int z.length) H):=by intro pins s σ H xs us Q I r h;obtain⟨z,rfl,hz,q⟩:=h;obtain⟨u,rfl,t,rfl⟩:=Jx r;have hn:=L0;exact len_str (by omega) ⟨.int z.length,H,I.tok _,⟨_,rfl⟩,q⟩
theorem P4:J9 X (.type "list") (λxs H Q=>∃p ys,xs=[.ref p]∧(SqL X.K H p ys∨SqT X.K H p ys)∧∀l,H l=none→Q (.ref l) (Hr H l (.lst ys))):=by
 intro pins s σ H xs us Q I r h;obtain⟨p,ys,rfl,hq,q⟩:=h;obtain⟨u,rfl,rx⟩:=Jx r;cases rx;have fin:∀(its:List Value),Vals ys its→ys.length≤Av→∀(h':Heap)(c':Nat),(∀b o',s.heap.get? b=some o'→h'.get? b=some o')→
  h'.get? s.heap.objs.size=some {cls:= .type "list",dict:=none,data:= .seq its.toArray c',slots:=#[]}→EP X pins σ Q (.ref s.heap.objs.size) {s with heap:=h'}:=λits r' hz h' c' kp e=>
  ⟨.ref s.heap.objs.size,_,I.laid (t':=s.toks) kp (Ah _) (show ObjOk X.prog X.w _ h' _ (.lst ys) from⟨hz,its,c',r',e⟩),rfl,q _ (I.hok.fresh (Ah _))⟩
 rcases hq with hq | hq
 · obtain⟨its,r',pl,hz⟩:=I.list hq;have hlen:=r'.length;obtain⟨o,ho,hc,n,hd⟩:=pl.isList;exact call_list_seq p (.inl rfl) ho hc hd (λh' c' kp e=>fin its r' hz h' c' kp e) (by simp only[Au]<;>omega)
 · obtain⟨its,r',pl,hz⟩:=I.tuple hq;have hlen:=r'.length;obtain⟨o,ho,hc,n,hd⟩:=pl;exact call_list_seq p (.inr rfl) ho hc hd (λh' c' kp e=>fin its r' hz h' c' kp e) (by simp only[Au]<;>omega)
theorem Ob:J9 X (.type "tuple") (λxs H Q=>∃p ys,xs=[.ref p]∧((SqL X.K H p ys∧∀l,H l=none→Q (.ref l) (Hr H l (.tup ys)))∨(SqT X.K H p ys∧Q (.ref p) H))):=by
 intro pins s σ H xs us Q I r h;obtain⟨p,ys,rfl,h⟩:=h;obtain⟨u,rfl,rx⟩:=Jx r;cases rx;rcases h with⟨hq,q⟩ | ⟨hq,q⟩
 · obtain⟨its,r',pl,hz⟩:=I.list hq;have hlen:=r'.length;refine call_tuple_list pl.isList (λh' kp=>?_) (by simp only[Au]<;>omega);have I1:Inv X pins σ H {s with heap:=h'}:=I.kept (t':=s.toks) kp;have I2:Inv X pins σ (Hr H h'.objs.size (.tup ys)) {s with heap:=h'.push {cls:= .type "tuple",data:= .seq its.toArray}}:=
    I1.laid (t':=s.toks) (λb o e=>Ad _ e) (Ah _) (show ObjOk X.prog X.w _ _ _ (.tup ys) from⟨hz,its,r',IsTupP.new _ _⟩)
   exact⟨.ref h'.objs.size,_,I2,rfl,q _ (I1.hok.fresh (Ah _))⟩
 · obtain⟨its,r',pl,hz⟩:=I.tuple hq;exact call_tuple_same pl ⟨.ref p,H,I,rfl,q⟩
def TB(K:Ae)(T:String)(x:V)(H:Hp):Prop:=match x with
 | .str _=>T="str"
 | .int _=>T="int"
 | .ref p=>(T="list"∧∃xs,SqL K H p xs)∨(T="tuple"∧∃o,K.lookup p=some o∧o.cls= .type "tuple"∧o.dict=none)∨
  (T="dict"∧((∃kvs,H p=some (.dK kvs))∨∃kvs,H p=some (.dT kvs)))∨(T="set"∧∃S n,H p=some (.set S n))
 | _=>False
theorem Uz{T:String}{x:V}{v:Value}(I:Inv X pins σ H s)(r:RelV x v)(ty:TB X.K T x H):
 s.TypeIs v T∧∀a,v= .ref a→∃ob,s.heap.get? a=some ob∧ob.dict=none:=by
 cases x with
 | str z=> obtain⟨t,rfl⟩:=r;cases(show T="str" from ty);exact⟨typeIs_str s z t,λ_ e=>nomatch e⟩
 | int i=> obtain⟨t,rfl⟩:=r;cases(show T="int" from ty);exact⟨typeIs_int s i t,λ_ e=>nomatch e⟩
 | ref p=>
  cases r;rcases ty with⟨rfl,xs,hq⟩ | ⟨rfl,o,hk,hc,hd⟩ | ⟨rfl,hk⟩ | ⟨rfl,S,n,hk⟩
  · obtain⟨its,_,pl,_⟩:=I.list hq;refine⟨pl.isList.typeIs,λa e=>?_⟩;cases e;obtain⟨o,n,e,c,hd,_⟩:=pl;exact⟨o,e,hd⟩
  · refine⟨⟨o,I.kIn p o hk,hc⟩,λa e=>?_⟩;cases e;exact⟨o,I.kIn _ o hk,hd⟩
  · have z:∃o,s.heap.get? p=some o∧o.ExactDict:=by
     rcases hk with⟨kvs,hk⟩ | ⟨kvs,hk⟩
     · obtain⟨_,_,_,_,o,_,_,e,ex,_⟩:=I.hok p _ hk;exact⟨o,e,ex⟩
     · obtain⟨_,_,_,_,o,_,_,e,ex,_⟩:=I.hok p _ hk;exact⟨o,e,ex⟩
    obtain⟨o,e,ex⟩:=z;refine⟨⟨o,e,ex.1⟩,λa e2=>?_⟩;cases e2;exact⟨o,e,ex.2.1⟩
  · obtain⟨o,_,_,_,e,ex,_⟩:=I.hok p _ hk;refine⟨⟨o,e,ex.1⟩,λa e2=>?_⟩;cases e2;exact⟨o,e,ex.2.1⟩
 | _=>exact C5 ty
def TF(K:Ae)(T:String)(r:V→List V→Hp→VK→Prop)(to:TE)(t:TA):TE:=λσ H Q=>to σ H λx H1=>TB K T x H1∧t σ H1 λxs H2=>r x xs H2 Q
variable{o:Expr}{es:List Expr}{to:TE}{t:TA}{name:Str}{apos cpos:Pos}{T id:String}{r:V→List V→Hp→VK→Prop}
theorem Ld(pa:PlainAttrs T)(slot:Slot T name id)(hty:typeOf (.builtin id)=pure (.type "method_descriptor"))(hm:TQ X id r)(ho:PE X o to)(ha:PA X (e::es) t)
 (hbase:attributeBase o name X.env (eval o X.env)=eval o X.env:=by rfl)
 (hfew:((backTo cpos (AR (e::es) X.env)).all (λx=>!x.1) && (backToKw cpos (keywordEach [] X.env)).all (λx=>x.1.isSome)
  && decide ((e::es).length+([]:List Keyword).length+(if([]:List Keyword).isEmpty then 0 else 1)<30))=true:=by rfl)
 (hline:(apos.endLine==cpos.line)=true:=by rfl) (hs:AR (e::es) X.env=(false,eval e X.env)::AR es X.env:=by rfl) (hplain:(backTo cpos (AR es X.env)).any (·.1)=false:=by rfl):
 PE X (.Call (.Attribute o name apos) (e::es) [] cpos) (TF X.K T r to t):=by
 intro pins s σ H Q I h;refine wpAny_Call_method_late hbase hfew hline rfl (Hx (ho pins s σ H _ I h) λv s1 ⟨x,H1,I1,r1,ty,q1⟩=>?_);obtain⟨h1,h2⟩:=Uz I1 r1 ty;refine⟨T,id,pa,slot,hty,h1,h2,?_⟩;have hA:=ha cpos pins s1 σ H1 _ I1 q1;rw[hs] at hA ⊢;refine F7 (by show(false || (backTo cpos (AR es X.env)).any (·.1))=false;rw[hplain]<;>rfl) (FX ?_);exact Hx hA λus s2 ⟨vs,H2,I2,r2,q2⟩=>hm pins s2 σ H2 x vs v us Q I2 r1 r2 q2
end
def Qx(X:Cx)(id:String)(r:V→List V→Hp→VK→Prop):Prop:=
 ∀(pins:List (Addr×Obj))(s:Shared)(σ:St)(H:Hp)(x:V)(xs:List V)(v:Value)(us:List Value)(Q:VK),Inv X pins σ H s→RelV x v→Vals xs us→r x xs H Q→
  wpAny (model X.prog X.w) X.A (call (.builtin id) (v::us)) (EP X pins σ Q) X.xe s
theorem Vals.one:∀{x:V}{us:List Value},Vals [x] us→∃u,us=[u]∧RelV x u
 | _,_,.cons r .nil=>⟨_,rfl,r⟩
theorem Vals.eraseIdx:∀{xs:List V}{us:List Value}(i:Nat),Vals xs us→Vals (xs.eraseIdx i) (us.eraseIdx i)
 | _,_,_,.nil=> .nil
 | _,_,0,.cons _ t=>t
 | _,_,i+1,.cons r t=> .cons r (Vals.eraseIdx i t)
theorem So{α:Type}:∀(l:List α)(i:Nat),(l.eraseIdx i).length≤l.length
 | [],_=>Ah _
 | _::_,0=>CN _
 | _::r,i+1=>Nat.succ_le_succ (So r i)
section
variable{l:Addr}{ys zs:List V}
theorem Inv.lset{its its':List Value}{n:Nat}{f:Array Value→Array Value}{t':Nat}(I:Inv X pins σ H s)(hH:H l=some (.lst xs))
 (e:s.heap.get? l=some {cls:= .type "list",data:= .seq its.toArray n}) (hf:f its.toArray=its'.toArray) (hv:Vals ys its') (hz:ys.length≤Av):
 Inv X pins σ (Hr H l (.lst ys)) {s with heap:=s.heap.update l (AJ f),toks:=t'}:=by
 have q:=PySem.IsL.update e f;rw[hf] at q;refine I.write (x:=l) (e:=l) (by rw[hH];exact trivial) (.inl rfl) (λb' u hb hu=>(AS s.heap (AJ f) (BK hb)).trans hu) ⟨_,q⟩ ?_;exact⟨hz,its',_,hv,q⟩
theorem Inv.lnew{its:List Value}{t':Nat}(I:Inv X pins σ H s)(hv:Vals ys its)(hz:ys.length≤Av):
 Inv X pins σ (Hr H s.heap.objs.size (.lst ys)) {s with heap:=s.heap.push {cls:= .type "list",data:= .seq its.toArray},toks:=t'}:=
 I.laid (λ_ _ q=>Ad _ q) (Ah _) ⟨hz,its,0,hv,An _ rfl⟩
theorem Inv.fresh(I:Inv X pins σ H s):H s.heap.objs.size=none:=I.hok.fresh (Ah _)
theorem Inv.lstM(I:Inv X pins σ H s)(hH:H l=some (.lst xs)):xs.length≤Av∧∃(its:List Value)(n:Nat),Vals xs its∧xs.length=its.length∧s.heap.get? l=some {cls:= .type "list",data:= .seq its.toArray n}:=by obtain⟨z,its,n,r,e⟩:=I.hok l _ hH;exact⟨z,its,n,r,r.length,e⟩
theorem RG(h:n≤Av):Ff n=false:=by unfold Ff;exact decide_eq_false (by omega)
end
def Vh:V→List V→Hp→VK→Prop:=λx vs H Q=>∃l xs y,x= .ref l∧vs=[y]∧H l=some (.lst xs)∧xs.length<Av∧Q .non (Hr H l (.lst (xs++[y])))
theorem LF:Qx X "list.append" Vh:=by intro pins s σ H x vs v us Q I rx rv h;obtain⟨l,xs,y,rfl,rfl,hH,hz,q⟩:=h;cases rx;obtain⟨u,rfl,ru⟩:=rv.one;obtain⟨z,its,n,r,hl,e⟩:=I.lstM hH;refine call_meets F.slot_list_append ⟨_,e,rfl⟩ F.entry_list_append (F.args_list_append_2 _ _) (PySem.list_append l its.toArray n u (by rw[Au];omega)) ⟨e,?_⟩;refine⟨.non,_,I.lset (its':=its++[u]) hH e (by simp) (r.append (.cons ru .nil)) ?_,rfl,q⟩;rw[Aw,Ef];omega
def UV:V→List V→Hp→VK→Prop:=λx vs H Q=>∃l xs i k y,x= .ref l∧vs=[.int i]∧H l=some (.lst xs)∧ -(2^63)≤i∧i<2^63∧seqIndex? i xs.length=some k∧xs[k]?=some y∧Q y (Hr H l (.lst (xs.eraseIdx k)))
theorem Se:Qx X "list.pop" UV:=by
 intro pins s σ H x vs v us Q I rx rv h;obtain⟨l,xs,i,k,y,rfl,rfl,hH,h1,h2,hk,hy,q⟩:=h;cases rx;obtain⟨u,rfl,ru⟩:=rv.one;obtain⟨t,rfl⟩:=ru;obtain⟨z,its,n,r,hl,e⟩:=I.lstM hH;obtain⟨w,hw,rw'⟩:=r.get hy;refine call_meets F.slot_list_pop ⟨_,e,rfl⟩ F.entry_list_pop (F.args_list_pop_2 _ _)
  (MeetsSeq.list_pop_at l its.toArray n i t k w (fitsIndex_both h1 h2) (by rw[Au,←hl];exact hk) (by rw[←Cm];exact hw) (by rw[Au];omega)) ⟨e,?_⟩
 refine⟨y,_,I.lset (its':=its.eraseIdx k) hH e ?_ (r.eraseIdx k) ?_,rw',q⟩
 · show its.toArray.eraseIdxIfInBounds k=(its.eraseIdx k).toArray;rw[List.eraseIdxIfInBounds_toArray]
 · have:=So xs k;omega
def MP:R2:=λx y H Q=>∃l b xs zs,x= .ref l∧y= .ref b∧H l=some (.lst xs)∧H b=some (.lst zs)∧xs.length+zs.length≤Av∧∀p,H p=none→Q (.ref p) (Hr H p (.lst (xs++zs)))
theorem Li:Iu X (binaryOp .Add) MP:=by
 intro pins s σ H x y v u Q I rx ry h;obtain⟨l,b,xs,zs,rfl,rfl,hH,hB,hz,q⟩:=h;cases rx;cases ry;obtain⟨z,its,n,r,hl,e⟩:=I.lstM hH;obtain⟨z2,its2,n2,r2,hl2,e2⟩:=I.lstM hB;refine PySem.P.add_list e e2 ?_ (by rw[Au,Au];omega);have ea:its.toArray++its2.toArray=(its++its2).toArray:=by simp
 rw[ea];exact⟨.ref _,_,I.lnew (t':=s.toks) (r.append r2) (by rw[Aw];omega),rfl,q _ I.fresh⟩
theorem X4{a c:Nat}(hac:a≤c)(hc:c≤n):sliceBounds (some (a:Int)) (some (c:Int)) none n=((a:Int),(c:Int),1):=by
 simp only[sliceBounds,Fe];have h1:¬((a:Int)<0):=by omega
 have h2:¬((c:Int)<0):=by omega
 simp only[h1,h2,if_false,show(1:Int)>0 by decide,if_true];congr 1
 · omega
 · congr 1;omega
set_option maxRecDepth 100000 in
theorem K9{l b sl:Addr}{items new:Array Value}{n n2:Nat}{vl vu:Value}{a c:Nat}{Q:Unit→Shared→Prop}
 (e:s.heap.get? l=some {cls:= .type "list",data:= .seq items n}) (e2:s.heap.get? b=some {cls:= .type "list",data:= .seq new n2}) (hne:l≠b)
 (hs:s.heap.IsSliceOf sl vl vu .none) (pl:IsPart vl (some (a:Int))) (pu:IsPart vu (some (c:Int))) (hac:a≤c) (hc:c≤items.size)
 (hsz:items.size+new.size≤Av) (h:Q () {s with heap:=s.heap.update l (AJ λxs=>xs.extract 0 a++new++xs.extract c xs.size)}):
 wpAny (model prog w) A (setItem (.ref l) (.ref sl) (.ref b)) Q E s:=by
 have hl:s.heap.IsList l items:=PySem.IsL.isList e;have hb:s.heap.IsList b new:=PySem.IsL.isList e2;obtain⟨os,hos,hcs,hds⟩:=id hs;have hTs:s.TypeIs (.ref sl) "slice":=⟨os,hos,hcs⟩;have hstep:¬((rawPart none==rawInt 0)=true):=AA;have hsame:Co (.ref l) (.ref b)=false:=by unfold Co;exact beq_eq_false_iff_ne.mpr hne
 have hmax:(max (a:Int) (c:Int)).toNat=c:=by omega
 have hz':((λxs:Array Value=>xs.extract 0 a++new++xs.extract c xs.size) items).size≤Av+1:=by simp only[ES,Array.size_extract];omega
 unfold setItem
 try with_reducible refine AT ?_
 first | refine Aa (Ac ?_) | skip
 refine Aa (ER hl.typeIs (by decide) ?_);refine Aa (Bb (name:=BE "__setitem__") hl.typeIs slot_list_setitem
  (AV slot_list_setitem hl.typeIs entry_list_setitem ?_ (args_list_setitem _ _ _)))
 show wpAny _ _ (E7 (.ref sl)>>=_) _ _ s;refine Aa ?_;unfold E7;refine Aa (En hTs slice_no_index ?_);simp only[Option.isNone_none,if_true];refine Ac ?_;show wpAny _ _ (typeOf (.ref sl)>>=_) _ _ s;refine Aa (C3 hTs ?_)
 first
  | rw[if_neg (by decide)]
  | refine E8 (by decide) ?_
 rw[listSliceParts_eq];refine Aa (Aa (AZ hos hds (x:= .none) rfl (Aa (FH .none ?_))));rw[if_neg hstep];refine Aa (AZ hos hds (x:=vl) rfl (Aa (FH pl ?_)));refine Aa (AZ hos hds (x:=vu) rfl (Aa (FH pu (Ac ?_))))
 first
  | simp only[hsame,By,if_false]
  | refine E8 hsame ?_
  | (dsimp only
     rw[if_neg (by rw[hsame];exact AA)])
 refine Aa (m:=EZ (.ref b) "must assign iterable to extended slice") ?_;unfold EZ;refine Aa (C3 hb.typeIs ?_)
 first
  | refine PySem.W.KFB.if_so (by decide) ?_
  | rw[if_pos (by decide)]
  | simp only[beq_self_eq_true,Bool.true_or,if_true]
 unfold Builtin.List.listItems;refine Aa (Bd e2 rfl (Ac ?_));refine Aa (Aa (Bd e rfl (Ac ?_)));refine Aa (D3 ((sliceIndices_raw (some (a:Int)) (some (c:Int)) none items.size (by simp)).trans (congrArg (pure:Int×Int×Int→Sem (Int×Int×Int)) (X4 hac hc))) ?_);show wpAny _ _ (if((1:Int)==1)=true then _ else _) _ _ s
 rw[if_pos (by decide)];refine Aa (BI ?_)
 first
  | simp only[RG hsz,By,if_false]
  | refine E8 (RG hsz) ?_
 first | refine Aa (Ac ?_) | skip
 show wpAny _ _ (updateSeq l (λxs=>xs.extract 0 ((a:Int)).toNat++new++xs.extract (max (a:Int) (c:Int)).toNat xs.size)>>=_) _ _ s;rw[hmax,Bk];refine Aa (BZ (hz:=AY (Dx _ _) hsz) (_hz':=hz') e rfl ?_);refine Aa (Ce ?_)
 first
  | exact Aa (Ac (Ac ⟨.none,rfl,Ac h⟩))
  | exact Ac ⟨.none,rfl,Ac h⟩
section
variable{κ:Type}[DecidableEq κ]
def HU(kvs:List (κ×V))(k:κ):Option V:=(kvs.find? λkv=>decide (kv.1=k)).map (·.2)
def HM(kvs:List (κ×V))(k:κ)(v:V):List (κ×V):=
 if(kvs.any λkv=>decide (kv.1=k))=true then kvs.map (λkv=>if kv.1=k then(kv.1,v) else kv) else kvs++[(k,v)]
theorem Ks{p:κ×V}{r:List (κ×V)}{k:κ}(e:p.1=k):HU (p::r) k=some p.2:=by simp[HU,Cz,e]
theorem Kr{p:κ×V}{r:List (κ×V)}{k:κ}(e:¬p.1=k):HU (p::r) k=HU r k:=by simp[HU,Cz,e]
theorem ND(k:κ):∀kvs:List (κ×V),(kvs.any λkv=>decide (kv.1=k))=(HU kvs k).isSome
 | []=>rfl
 | p::r=>by
  rw[Dn];by_cases e:p.1=k
  · simp only[Ks e,decide_eq_true e,Bool.true_or,Option.isSome_some]
  · rw[Kr e,decide_eq_false e,Bool.false_or];exact ND k r
theorem RW(k j:κ)(y:V):∀kvs:List (κ×V),HU (kvs.map λkv=>if kv.1=k then(kv.1,y) else kv) j=(HU kvs j).map λx=>if j=k then y else x
 | []=>rfl
 | p::r=>by
  have ih:=RW k j y r;rw[AK];by_cases h:p.1=k
  · rw[if_pos h];by_cases e:p.1=j
    · rw[Ks (p:=(p.1,y)) e,Ks e,Eo,if_pos (e.symm.trans h)]
    · rw[Kr (p:=(p.1,y)) e,Kr e,ih]
  · rw[if_neg h];by_cases e:p.1=j
    · rw[Ks (p:=p) e,Ks e,Eo,if_neg (λz=>h (e.trans z))]
    · rw[Kr (p:=p) e,Kr e,ih]
theorem SL(k j:κ)(y:V):∀kvs:List (κ×V),HU kvs k=none→HU (kvs++[(k,y)]) j=if j=k then some y else HU kvs j
 | [],_=>by
  by_cases e:k=j
  · rw[if_pos e.symm];exact Ks (p:=(k,y)) e
  · rw[if_neg (λz=>e z.symm)];exact Kr (p:=(k,y)) e
 | p::r,hn=>by
  rw[List.cons_append];have hk:¬p.1=k:=λz=>by rw[Ks z] at hn;cases hn
  rw[Kr hk] at hn;have ih:=SL k j y r hn;by_cases e:p.1=j
  · rw[Ks e,Ks e,if_neg (λz=>hk (e.trans z))]
  · rw[Kr e,Kr e,ih]
theorem Pg(kvs:List (κ×V))(k j:κ)(y:V):HU (HM kvs k y) j=if j=k then some y else HU kvs j:=by
 unfold HM;by_cases a:(kvs.any λkv=>decide (kv.1=k))=true
 · rw[if_pos a,RW];rw[ND] at a;by_cases e:j=k
   · obtain⟨x,hx⟩:=Fd.mp a;rw[if_pos e,e,hx,Eo,if_pos rfl]
   · rw[if_neg e];cases HU kvs j with
     | none=>rfl
     | some x=>rw[Eo,if_neg e]
 · rw[if_neg a];refine SL k j y kvs ?_;rw[ND] at a;cases q:HU kvs k with
   | none=>rfl
   | some x=>rw[q] at a;exact(a rfl).elim
theorem MD(kvs:List (κ×V))(k:κ)(v:V):(HM kvs k v).length≤kvs.length+1:=by
 unfold HM
 split
 · rw[Ab];omega
 · rw[Aw,AF,List.length_nil];omega
theorem RelO.isSome_eq{o:Option V}{u:Option Value}(r:RelO o u):o.isSome=u.isSome:=by
 cases o with
 | none=>cases u with
  | none=>rfl
  | some _=>exact(show False from r).elim
 | some _=>cases u with
  | none=>exact(show False from r).elim
  | some _=>rfl
theorem RelO.getD{o:Option V}{u:Option Value}{d:V}{d':Value}(r:RelO o u)(rd:RelV d d'):RelV (o.getD d) (u.getD d'):=by
 cases o with
 | none=>cases u with
  | none=>exact rd
  | some _=>exact(show False from r).elim
 | some _=>cases u with
  | none=>exact(show False from r).elim
  | some _=>exact r
theorem KV.val{kvs:List (κ×V)}{vs:List (κ×Value)}(r:KV kvs vs)(k:κ):RelO (HU kvs k) (valueAt vs k):=by
 unfold KV at r
 induction r with
 | nil=>exact True.intro
 | @cons p q ps qs h t ih=>
  obtain⟨h1,h2⟩:=h;by_cases e:p.1=k
  · have e':q.1=k:=h1.symm.trans e;have b:valueAt (q::qs) k=some q.2:=by simp[valueAt,Cz,e']
    rw[Ks e,b];exact h2
  · have e':¬q.1=k:=λz=>e (h1.trans z);have b:valueAt (q::qs) k=valueAt qs k:=by simp[valueAt,Cz,e']
    rw[Kr e,b];exact ih
theorem KV.any{kvs:List (κ×V)}{vs:List (κ×Value)}(r:KV kvs vs)(k:κ):(kvs.any λkv=>decide (kv.1=k))=vs.any λkv=>decide (kv.1=k):=by
 unfold KV at r
 induction r with
 | nil=>rfl
 | cons h t ih=>rw[Dn,Dn,ih,h.1]
theorem KV.repl{kvs:List (κ×V)}{vs:List (κ×Value)}(r:KV kvs vs)(k:κ){y:V}(ry:RelV y u):
 KV (kvs.map λkv=>if kv.1=k then(kv.1,y) else kv) (vs.map λkv=>if kv.1=k then(kv.1,u) else kv):=by
 unfold KV at r ⊢
 induction r with
 | nil=>exact .nil
 | @cons p q ps qs h t ih=>
  rw[AK,AK];refine .cons ?_ ih;obtain⟨h1,h2⟩:=h;by_cases e:p.1=k
  · rw[if_pos e,if_pos (h1.symm.trans e)];exact⟨h1,ry⟩
  · rw[if_neg e,if_neg (λz=>e (h1.trans z))];exact⟨h1,h2⟩
theorem KV.put{kvs:List (κ×V)}{vs:List (κ×Value)}(r:KV kvs vs)(k:κ){y:V}(ry:RelV y u):KV (HM kvs k y) (stored vs k u):=by
 unfold HM stored;rw[r.any k];by_cases e:(vs.any λkv=>decide (kv.1=k))=true
 · rw[if_pos e,if_pos e];exact r.repl k ry
 · rw[if_neg e,if_neg e];exact Paired.snoc r ⟨rfl,ry⟩
theorem KV.length{kvs:List (κ×V)}{vs:List (κ×Value)}(r:KV kvs vs):kvs.length=vs.length:=Eb r
end
theorem Lw{k:HF}(r:RelV (kV k) u):(IL P w).is k u=true:=by
 cases k with
 | inl i=>obtain⟨t,e⟩:=(show ∃t,u=Value.int i t from r);subst e;exact Yf P w i t
 | inr x=>obtain⟨t,e⟩:=(show ∃t,u=Value.str x t from r);subst e;exact Yg P w x t
theorem Sm:∀{ks:List HF}{us:List Value},Vals (ks.map kV) us→ItemsAre (IL P w) ks us
 | [],_,r=>by rw[List.map_nil] at r;cases r;exact .nil
 | k::ks,_,r=>by
  rw[AK] at r;cases r with
  | cons h t=>exact .cons (Lw h) (Sm t)
abbrev KT(H:Hp):List (List HF×V)→List (List HF×Addr×Value)→Prop:=Paired λp q=>p.1=q.1∧H q.2.1=some (.tup (p.1.map kV))∧RelV p.2 q.2.2
theorem KT.val{kvs:List (List HF×V)}{xs:List (List HF×Addr×Value)}(r:KT H kvs xs)(k:List HF):RelO (HU kvs k) ((atKey xs k).map (·.2)):=by
 induction r with
 | nil=>exact True.intro
 | @cons p q ps qs h t ih=>
  obtain⟨h1,_,h2⟩:=h;by_cases e:p.1=k
  · have e':q.1=k:=h1.symm.trans e;have b:atKey (q::qs) k=some q.2:=by simp[atKey,Cz,e']
    rw[Ks e,b];exact h2
  · have e':¬q.1=k:=λz=>e (h1.trans z);have b:atKey (q::qs) k=atKey qs k:=by simp[atKey,Cz,e']
    rw[Kr e,b];exact ih
theorem KT.repl{kvs:List (List HF×V)}{xs:List (List HF×Addr×Value)}(r:KT H kvs xs)(k:List HF){y:V}(ry:RelV y u):
 KT H (kvs.map λkv=>if kv.1=k then(kv.1,y) else kv) (xs.map (putAt k u)):=by
 induction r with
 | nil=>exact .nil
 | @cons p q ps qs h t ih=>
  rw[AK,AK];refine .cons ?_ ih;obtain⟨h1,h2,h3⟩:=h;unfold putAt;by_cases e:p.1=k
  · rw[if_pos e,if_pos (h1.symm.trans e)];exact⟨h1,h2,ry⟩
  · rw[if_neg e,if_neg (λz=>e (h1.trans z))];exact⟨h1,h2,h3⟩
theorem KT.put{kvs:List (List HF×V)}{xs:List (List HF×Addr×Value)}(r:KT H kvs xs)(k:List HF){y:V}(hb:H b=some (.tup (k.map kV)))(ry:RelV y u):
 KT H (HM kvs k y) (storedH xs k b u):=by
 have e:(kvs.any λkv=>decide (kv.1=k))=(atKey xs k).isSome:=by rw[ND,(r.val k).isSome_eq,ET]
 unfold HM storedH;rw[e];by_cases q:(atKey xs k).isSome=true
 · rw[if_pos q,if_pos q];exact r.repl k ry
 · rw[if_neg q,if_neg q];exact Paired.snoc r ⟨rfl,hb,ry⟩
theorem KT.keeps{H':Hp}{kvs:List (List HF×V)}{xs:List (List HF×Addr×Value)}(r:KT H kvs xs)(ht:∀b ys,H b=some (.tup ys)→H' b=some (.tup ys)):KT H' kvs xs:=
 Paired.mapP r λ_ _ z=>⟨z.1,ht _ _ z.2.1,z.2.2⟩
theorem Q5{u:HO}(ok:HOk P w H h)(e:Rd H a u):ObjOk P w H h a u:=e.ok ok
theorem LS{kvs:List (HF×V)}(ok:HOk P w H h)(e:Rd H a (.dK kvs)):kvs.length≤Av∧(a==BU)=false∧∃vs,KV kvs vs∧h.DictOf (IL P w) a vs:=
 show ObjOk P w H h a (.dK kvs) from Q5 ok e
theorem Kg{kvs:List (HF×V)}(ok:HOk P w H h)(e:H a=some (.dK kvs)):kvs.length≤Av∧(a==BU)=false∧∃vs,KV kvs vs∧h.DictOf (IL P w) a vs:=LS ok (.inl e)
theorem Mu{ks:List HF}(ok:HOk P w H h)(e:H a=some (.tup (ks.map kV))):(tupleKind (IL P w)).is h ks a:=by obtain⟨_,its,r,o,h1,h2,_,n,h3⟩:=(show ObjOk P w H h a (.tup (ks.map kV)) from ok a _ e);exact⟨o,its.toArray,n,h1,h2,h3,by simpa using Sm r⟩
theorem LU{kvs:List (List HF×V)}(ok:HOk P w H h)(e:Rd H a (.dT kvs)):kvs.length≤Av∧(a==BU)=false∧
 ∃xs,KT H kvs xs∧h.DictOfH (tupleKind (IL P w)) a xs:=by
 obtain⟨z,y,xs,r,o,es,ep,h1,h2,h3,h4,h5⟩:=(show ObjOk P w H h a (.dT kvs) from Q5 ok e);refine⟨z,y,xs,r,o,es,ep,h1,h2,h3,h4,λx hx=>?_,h5⟩;have all:∀{l:List (List HF×V)}{m:List (List HF×Addr×Value)},KT H l m→∀x∈m,(tupleKind (IL P w)).is h x.1 x.2.1:=by
  intro l m q
  induction q with
  | nil=>intro x hx;exact nomatch hx
  | @cons p q ps qs hq t ih=>
   intro x hx;rcases As.mp hx with e | hx
   · subst e;exact Mu ok (by rw[←hq.1];exact hq.2.1)
   · exact ih x hx
 exact all r x hx
theorem TZ{kvs:List (List HF×V)}(ok:HOk P w H h)(e:H a=some (.dT kvs)):kvs.length≤Av∧(a==BU)=false∧
 ∃xs,KT H kvs xs∧h.DictOfH (tupleKind (IL P w)) a xs:=LU ok (.inl e)
def DGet(H:Hp)(a:Addr)(y:V)(r:Option V):Prop:=
 (∃kvs k,Rd H a (.dK kvs)∧y=kV k∧r=HU kvs k)∨∃kvs k b,Rd H a (.dT kvs)∧y= .ref b∧H b=some (.tup (k.map kV))∧r=HU kvs k
def DPut(H:Hp)(a:Addr)(y v:V)(H':Hp):Prop:=
 (∃kvs k,H a=some (.dK kvs)∧y=kV k∧kvs.length<Av∧H'=Hr H a (.dK (HM kvs k v)))∨
 ∃kvs k b,H a=some (.dT kvs)∧y= .ref b∧H b=some (.tup (k.map kV))∧kvs.length<Av∧H'=Hr H a (.dT (HM kvs k v))
theorem DGet.k{kvs:List (HF×V)}{k:HF}(e:H a=some (.dK kvs)):DGet H a (kV k) (HU kvs k):= .inl ⟨kvs,k,.inl e,rfl,rfl⟩
theorem DPut.k{kvs:List (HF×V)}{k:HF}{v:V}(e:H a=some (.dK kvs))(hl:kvs.length<Av):DPut H a (kV k) v (Hr H a (.dK (HM kvs k v))):= .inl ⟨kvs,k,e,rfl,hl,rfl⟩
section
variable{y v:V}{r:Value}{o:Option V}
theorem Inv.big(I:Inv X pins σ H s):BU<s.heap.objs.size:=by have h:AI<s.heap.objs.size:=(I.mod.glob.keeps I.bk).lt;exact BX (by decide) h
theorem VM{Q:Value→Shared→Prop}(hu:A.units+1<cLine)(I:Inv X pins σ H s)(g:DGet H a y (some v))(ry:RelV y u)(h:∀w' s',Inv X pins σ H s'→RelV v w'→Q w' s'):
 wpAny (model X.prog X.w) A (getItem (.ref a) u) Q E s:=by
 rcases g with⟨kvs,k,e,ey,l⟩ | ⟨kvs,k,b,e,ey,eb,l⟩
 · subst ey;obtain⟨z,hd,vs,rel,dd⟩:=LS I.hok e;obtain⟨w',hw,rw'⟩:=RelO.some_of (v:=v) (o:=valueAt vs k) (by rw[l];exact rel.val k);exact wpAny_getItem_of (Lw ry) dd.mapOf hw (h w' _ (I.tok _) rw')
 · subst ey;cases(show u=Value.ref b from ry);obtain⟨z,hd,xs,rel,dd⟩:=LU I.hok e;obtain⟨w',hw,rw'⟩:=RelO.some_of (v:=v) (o:=(atKey xs k).map (·.2)) (by rw[l];exact rel.val k);obtain⟨p,hp,hp2⟩:=Option.map_eq_some_iff.mp hw;refine wpAny_getItem_heap (tupleKind_room_in1 hu) (Mu I.hok eb) dd hp ?_;rw[hp2];exact h w' _ (I.tok _) rw'
theorem U9{Q:Value→Shared→Prop}(hu:A.units+1<cLine)(I:Inv X pins σ H s)(g:DGet H a y o)(ry:RelV y u)(h:∀s',Inv X pins σ H s'→Q (.bool (!o.isSome)) s'):
 wpAny (model X.prog X.w) A (BH .NotIn u (.ref a)) Q E s:=by
 rcases g with⟨kvs,k,e,ey,l⟩ | ⟨kvs,k,b,e,ey,eb,l⟩
 · subst ey;obtain⟨z,hd,vs,rel,dd⟩:=LS I.hok e;refine wpAny_notIn_of (Lw ry) hd dd.mapOf ?_;rw[←(rel.val k).isSome_eq,←l];exact h _ (I.tok _)
 · subst ey;cases(show u=Value.ref b from ry);obtain⟨z,hd,xs,rel,dd⟩:=LU I.hok e;refine wpAny_notIn_heap (tupleKind_room_in1 hu) (Mu I.hok eb) hd dd ?_;have q:=(rel.val k).isSome_eq;rw[ET] at q;rw[←q,←l];exact h _ (I.tok _)
theorem OC{h':Heap}{t':Nat}{ob:HO}(I:Inv X pins σ H s)(mu:Nk (H a))(hs:BD a s.heap h')(he:∃q,h'.get? a=some q)(new:ObjOk X.prog X.w (Hr H a ob) h' a ob):
 Inv X pins σ (Hr H a ob) {s with heap:=h',toks:=t'}:=
 I.write (x:=a) (e:=a) mu (.inl rfl) (λb q hb z=>(hs.2 b hb).trans z) he new
theorem O2{H':Hp}{h':Heap}{kvs:List (HF×V)}{vs:List (HF×Value)}(z:kvs.length≤Av)(hd:(a==BU)=false)(rel:KV kvs vs)(dd:h'.DictOf (IL P w) a vs):
 ObjOk P w H' h' a (.dK kvs):=⟨z,hd,vs,rel,dd⟩
theorem VN{H':Hp}{Q:Unit→Shared→Prop}(hu:A.units+1<cLine)(I:Inv X pins σ H s)(g:DPut H a y v H')(ry:RelV y u)(rv:RelV v r)(h:∀s',Inv X pins σ H' s'→Q () s'):
 wpAny (model X.prog X.w) A (setItem (.ref a) u r) Q E s:=by
 rcases g with⟨kvs,k,e,ey,l,eH⟩ | ⟨kvs,k,b,e,ey,eb,l,eH⟩
 · subst ey eH;obtain⟨z,hd,vs,rel,dd⟩:=Kg I.hok e;have hz:vs.length≤Av:=by rw[←rel.length];exact z
   have hl:(HM kvs k v).length≤Av:=by have:=MD kvs k v;omega
   refine wpAny_setItem_pairs (hsz:=hz) (Lw ry) dd λh' dd' hs=>h _ ?_;have he:∃q,h'.get? a=some q:=let⟨q,_,_,hq,_⟩:=dd';⟨q,hq⟩;exact OC I (by rw[e];exact True.intro) hs he (O2 hl hd (rel.put k rv) dd')
 · subst ey eH;cases(show u=Value.ref b from ry);obtain⟨z,hd,xs,rel,dd⟩:=TZ I.hok e;have hz:xs.length≤Av:=by rw[←Eb rel];exact z
   have hl:(HM kvs k v).length≤Av:=by have:=MD kvs k v;omega
   refine wpAny_setItem_heap (hsz:=hz) (tupleKind_room_in1 hu) (Mu I.hok eb) dd λh' dd' hs=>h _ ?_;obtain⟨q,es,ep,hq,h2,h3,h4,_,h5⟩:=dd';refine OC I (by rw[e];exact True.intro) hs ⟨q,hq⟩ ⟨hl,hd,_,(rel.put k eb rv).keeps λc ys ec=>?_,q,es,ep,hq,h2,h3,h4,h5⟩;rw[HD (K1 ec e (λz=>nomatch z))];exact ec
end
section
variable{kvs:List (HF×V)}{k:HF}
end
def Nj(i:Expr):Prop:=∀ov iv,subscripted i false ov iv=operate [ov,iv] (getItem ov iv)
theorem Vw{prog:Br}{w:World}{A:Bu}{E:Value→Shared→Prop}{s:Shared}{env:Env}{value slice:Expr}{pos:Pos}{T id:String}{Q:Value→Shared→Prop}
 (hl:typeLookup (.type T) "__getitem__"=pure (some (.builtin id))) (hs:Nj slice)
 (h:wpAny (model prog w) A (eval value env) (λo s₁=>wpAny (model prog w) A (eval slice env) (λi s₂=>s₂.TypeIs o T∧wpAny (model prog w) A (getItem o i) Q E s₂) E s₁) E s):
 wpAny (model prog w) A (eval (.Subscript value slice pos) env) Q E s:=by
 refine Subscript_ (Ay h (λo s₁ h₁=>Ay h₁ (λi s₂ h₂=>?_) λ_ _ x=>x) λ_ _ x=>x);obtain⟨hT,h₂⟩:=h₂;unfold subscriptTail;refine Aa ?_;rw[getitemInPython_of_ne hT.not_modules];refine Aa (En hT hl ?_);have fin:wpAny (model prog w) A (subscripted slice false o i) (λr s₃=>wpAny (model prog w) A (letTemporaryGo value o r>>=λ_=>pure r) Q E s₃) E s₂:=by rw[hs o i];exact wpAny_operating (Ay h₂ (λr s₃ h₃=>Aa (wpAny_letTemporaryGo (Ac h₃))) λ_ _ x=>x)
 first
  | exact Ac (Aa fin)
  | exact Aa (Ac (Aa fin))
  | exact Aa fin
theorem XX{y:V}{o:Option V}(I:Inv X pins σ H s)(g:DGet H a y o):s.TypeIs (.ref a) "dict":=by
 rcases g with⟨kvs,k,e,_,_⟩ | ⟨kvs,k,b,e,_,_,_⟩
 · obtain⟨_,_,vs,_,dd⟩:=LS I.hok e;exact dd.typeIs
 · obtain⟨_,_,xs,_,dd⟩:=LU I.hok e;exact dd.typeIs
def Uk(td ty:TE):TE:=λσ H Q=>td σ H λx H1=>ty σ H1 λy H2=>∃a v,x= .ref a∧DGet H2 a y (some v)∧Q v H2
def Vx(ty td:TE):TE:=λσ H Q=>ty σ H λy H1=>td σ H1 λx H2=>∃a o,x= .ref a∧DGet H2 a y o∧Q (.bl (!o.isSome)) H2
def Ug(td ty tv:TE):TS:=λD σ H=>tv σ H λv H1=>td σ H1 λx H2=>ty σ H2 λy H3=>∃a H4,x= .ref a∧DPut H3 a y v H4∧D.nx σ H4
section
variable{o i value:Expr}{pos' tpos:Pos}{td ty tv:TE}
theorem Nv(hu:X.A.units+1<cLine)(ho:PE X o td)(hi:PE X i ty)(hs:Nj i):PE X (.Subscript o i pos) (Uk td ty):=by intro pins s σ H Q I h;refine Vw PySem.F.slot_dict_getitem.lookup hs (Hx (ho pins s σ H _ I h) λu s1 ⟨x,H1,I1,rx,q1⟩=>Hx (hi pins s1 σ H1 _ I1 q1) λiv s2 ⟨y,H2,I2,ry,a,v,ex,g,q2⟩=>?_);subst ex;obtain rfl:u=Value.ref a:=rx;exact⟨XX I2 g,VM hu I2 g ry λw' s3 I3 rw'=>⟨v,H2,I3,rw',q2⟩⟩
theorem WB(hu:X.A.units+1<cLine)(hi:PE X i ty)(ho:PE X o td):PC X .NotIn i o (Vx ty td):=by intro pins s σ H Q I h;refine Hx (hi pins s σ H _ I h) λiv s1 ⟨y,H1,I1,ry,q1⟩=>Hx (ho pins s1 σ H1 _ I1 q1) λu s2 ⟨x,H2,I2,rx,a,ov,ex,g,q2⟩=>?_;subst ex;obtain rfl:u=Value.ref a:=rx;exact U9 hu I2 g ry λs3 I3=>⟨.bl (!ov.isSome),H2,I3,rfl,q2⟩
theorem Vg(hu:X.A.units+1<cLine)(ho:PE X o td)(hi:PE X i ty)(hv:PE X value tv)(hs:swapsWith value (some (.Subscript o i pos')) pos.line X.env=pure false):
 PS X (.Assign [.Subscript o i pos'] value pos) (Ug td ty tv):=by
 intro pins s σ H D I h;refine wpAny_Assign_Subscript (Hx (hv pins s σ H _ I h) λr s1 ⟨v,H1,I1,rv,q1⟩=>Hx (ho pins s1 σ H1 _ I1 q1) λu s2 ⟨x,H2,I2,rx,q2⟩=>Hx (hi pins s2 σ H2 _ I2 q2) λiv s3 ⟨y,H3,I3,ry,a,H4,ex,g,q3⟩=>?_) hs;subst ex;obtain rfl:u=Value.ref a:=rx;exact VN hu I3 g ry rv λs4 I4=>⟨σ,H4,I4,q3⟩
end
theorem R_(h:Heap)(hb:BU<h.objs.size):ObjOk P w H (h.push {cls:= .type "dict",data:= .dict #[]}) h.objs.size (.dK []):=
 ⟨AQ _,beq_eq_false_iff_ne.mpr (BK (Ar hb)),[],.nil,Heap.DictOf.new h⟩
structure M1(X:Cx)(o:Expr)(m:Str)(apos:Pos)(e:Expr)(cpos:Pos):Prop where
 base:attributeBase o m X.env (eval o X.env)=eval o X.env
 few:((backTo cpos (AR [e] X.env)).all (λx=>!x.1) && (backToKw cpos (keywordEach [] X.env)).all (λx=>x.1.isSome)
  && decide (([e]:List Expr).length+([]:List Keyword).length+(if([]:List Keyword).isEmpty then 0 else 1)<30))=true
 line:(apos.endLine==cpos.line)=true
 trees:backTo cpos (AR [e] X.env)=[(false,eval e X.env)]
structure M2(X:Cx)(o:Expr)(m:Str)(apos:Pos)(e f:Expr)(cpos:Pos):Prop where
 base:attributeBase o m X.env (eval o X.env)=eval o X.env
 few:((backTo cpos (AR [e,f] X.env)).all (λx=>!x.1) && (backToKw cpos (keywordEach [] X.env)).all (λx=>x.1.isSome)
  && decide (([e,f]:List Expr).length+([]:List Keyword).length+(if([]:List Keyword).isEmpty then 0 else 1)<30))=true
 line:(apos.endLine==cpos.line)=true
 trees:backTo cpos (AR [e,f] X.env)=[(false,eval e X.env),(false,eval f X.env)]
def TR(H:Hp)(a:Addr):Prop:=(∃kvs,Rd H a (.dK kvs))∨∃kvs,Rd H a (.dT kvs)
theorem UC(I:Inv X pins σ H s)(d:TR H a):
 s.TypeIs (.ref a) "dict"∧(∀b,Value.ref a= .ref b→∃ob,s.heap.get? b=some ob∧ob.dict=none)∧(a==BU)=false:=by
 rcases d with⟨kvs,e⟩ | ⟨kvs,e⟩
 · obtain⟨_,hd,vs,_,dd⟩:=LS I.hok e;refine⟨dd.typeIs,λb q=>?_,hd⟩;cases q;obtain⟨ob,_,_,h1,h2,_⟩:=dd;exact⟨ob,h1,h2.2.1⟩
 · obtain⟨_,hd,xs,_,dd⟩:=LU I.hok e;refine⟨dd.typeIs,λb q=>?_,hd⟩;cases q;obtain⟨ob,_,_,h1,h2,_⟩:=dd;exact⟨ob,h1,h2.2.1⟩
section
variable{y d:V}{r:Value}{o:Option V}
theorem UZ{Q:Value→Shared→Prop}(hu:A.units+1<cLine)(I:Inv X pins σ H s)(g:DGet H a y o)(ry:RelV y u)(rd:RelV d r)(h:∀w' s',Inv X pins σ H s'→RelV (o.getD d) w'→Q w' s'):
 wpAny (model X.prog X.w) A (call (.builtin "dict.get") [.ref a,u,r]) Q E s:=by
 rcases g with⟨kvs,k,e,ey,l⟩ | ⟨kvs,k,b,e,ey,eb,l⟩
 · subst ey;obtain⟨z,hd,vs,rel,dd⟩:=LS I.hok e;refine call_meetsIn Eg dd.typeIs F8 (Fs _ _ _) (meets_dict_get_default (IL X.prog X.w) a (Lw ry) hd r) ⟨_,dd.mapOf,h _ _ (I.tok _) ?_⟩;rw[l];exact(rel.val k).getD rd
 · subst ey;cases(show u=Value.ref b from ry);obtain⟨z,hd,xs,rel,dd⟩:=LU I.hok e;refine call_meetsIn Eg dd.typeIs F8 (Fs _ _ _) (meetsH_dict_get_default (tupleKind (IL X.prog X.w)) a b hd r) ⟨tupleKind_room_in1 hu,k,xs,Mu I.hok eb,dd,h _ _ (I.tok _) ?_⟩;rw[l];exact(rel.val k).getD rd
end
def Uv(td ty tx:TE):TE:=λσ H Q=>td σ H λx H1=>∃a,x= .ref a∧TR H1 a∧ty σ H1 λy H2=>tx σ H2 λz H3=>∃o,DGet H3 a y o∧Q (o.getD z) H3
section
variable{o f:Expr}{apos cpos:Pos}{td ty tx:TE}
theorem Wd(hu:X.A.units+1<cLine)(ho:PE X o td)(he:PE X e ty)(hf:PE X f tx)(m:M2 X o "get" apos e f cpos):PE X (.Call (.Attribute o "get" apos) [e,f] [] cpos) (Uv td ty tx):=by intro pins s σ H Q I h;refine wpAny_Call_method m.base m.few m.line PySem.F.plainAttrs_dict Eg PySem.F.type_dict_get (Hx (ho pins s σ H _ I h) λu s1 ⟨x,H1,I1,rx,a,ex,d,q1⟩=>?_);subst ex;obtain rfl:u=Value.ref a:=rx;obtain⟨t1,t2,_⟩:=UC I1 d;refine⟨t1,t2,?_⟩;rw[m.trees];refine F7 rfl (FX (DC (Hx (he pins s1 σ H1 _ I1 q1) λiv s2 ⟨y,H2,I2,ry,q2⟩=> DC (Hx (hf pins s2 σ H2 _ I2 q2) λfv s3 ⟨z,H3,I3,rz,ov,g,q3⟩=>EQ ?_))));exact UZ hu I3 g ry rz λw' s4 I4 rw'=>⟨_,H3,I4,rw',q3⟩
end
section
variable{kvs:List (HF×V)}
end
section
variable{y:V}
end
end L2
namespace Att
open PySem PySem.W PySem.Calls PyProof.Rows
theorem Zi{P:Params}:∀(ns:List Int)(vs:List Value),WellAll P h vs (ns.map WData.int)→IntsAre vs ns:=by
 intro ns
 induction ns with
 | nil=> intro vs w;rw[List.map_nil] at w;cases w;exact .nil
 | cons n ns ih=>
  intro vs w;rw[AK] at w;cases w with
  | cons a b=> cases a;exact .cons _ _ (ih _ b)
theorem WI{l:OpenLaw}(hn:l.most=some n){P:Params}{h:Heap}{args:List WData}{vals:List Value}
 (hpre:l.row.toRowW.claim.pre args=true) (hwl:WellAll P h vals args):
 ∃a vs ns,vals=[Value.ref a]∧args=[WData.list (ns.map WData.int)]∧h.get? a=some {cls:= .type "list",data:= .seq vs.toArray}∧IntsAre vs ns∧ns.length≤n:=by
 have hsh:WShape.hasAll [] args [.list .int]=true:=(pre_splitW hpre).1;have hc:l.pre.holds [] {args:=args}=true:=(pre_splitW hpre).2;obtain⟨d,r,rfl,h1,h2⟩:=hasAllW_cons hsh;obtain rfl:=hasAllW_nil h2;obtain⟨xs,rfl,h3⟩:=hasW_list h1;obtain⟨ns,rfl⟩:=items_int h3;have hlen:ns.length≤n:=by
  unfold OpenLaw.pre at hc;have h4:(WTm.not (.lt (.lit (.int (n:Int))) (.len (.arg 0)))).holds [] {args:=[.list (ns.map .int)]}=true:=by have h4:=(holds_andW hc).1;rw[hn] at h4;exact h4
  have h5:=condW_of h4 (w_not (w_lt w_lit (w_len_list (w_arg rfl))));rw[Ab] at h5;refine Nat.le_of_not_lt λq=>?_;have q':(n:Int)<((ns.length:Nat):Int):=by omega
  first
   | (rw[decide_eq_true q'] at h5;exact absurd h5 (by decide))
   | (simp at h5;omega)
 cases hwl with
 | cons w1 w2=>
  cases w2;cases w1 with
  | list ho hall=>exact⟨_,_,ns,rfl,rfl,ho,Zi ns _ hall,hlen⟩
theorem WC(l:OpenLaw)(args:List WData):l.row.toRowW.claim.post args (.bool true) args=true:=
 postW_of (r:=l.row.toRowW) (X:=(true==true))
  (show WShape.has [] (.bool true) .bool=true by first | rfl | decide | simp[WShape.has,WShape.arms,WShape.armsAll])
  (show(WTm.eq .res (.lit (.bool true))).value [] {args:=args,res:=some (.bool true),after:=args}=some (.bool (true==true)) from w_eq_bool (w_res rfl) w_lit) rfl
theorem attach_call{l:OpenLaw}{n:Nat}{q:Br}{loose:List Str}{XP:(Str→Option Value)→Heap→Prop}{YP:World→Heap→Prop}{d:DefRec}
 (hn:l.most=some n) (hdf:d.params.defaults=[])
 (call:∀(w:World)(s₀ s₁:Shared)(mg mb:Str→Option Value)(fa:Addr)(o:Obj)(pm cd doc:Value)(a:Addr)(vs:List Value)(ns:List Int),
  Ground q loose [] XP w s₀ mg mb s₁.heap→YP w s₁.heap→
  s₁.heap.get? fa=some o→o.data= .func (docDef d.name d.params d.body d.scope pm cd doc)→s₁.heap.CodeRec cd d.name→mg d.name=some (.ref fa)→
  s₁.heap.get? a=some {cls:= .type "list",data:= .seq vs.toArray}→IntsAre vs ns→ns.length≤n→s₁.gens=#[]→
  codeAny (model l.prog w) callerA (.call (.ref fa) ⟨[.ref a],[]⟩) (λr s'=>r= .ok (.ret (.bool true))∧OldK s₁.heap s'.heap∧s'.os=s₁.os∧AllBare s'.gens) s₁):
 WalkO q loose XP YP l.row.toRowW d [] (λf vs=>PySem.call f vs):=by
 intro w s₀ s₁ mg mb G Y fa o pm cd doc dV kV ho hd hcd hD hmg hg args vals as hpre hlay hrd hwl hlo;obtain rfl:dV= .none:=Dflts.none hD hdf;obtain rfl:kV= .none:=Dflts.noKw hD;obtain⟨a,vs,ns,rfl,rfl,hobj,hints,hlen⟩:=WI hn hpre hwl;refine enter_call (Cd (call w s₀ s₁ mg mb fa o pm cd doc a vs ns G Y ho (fd_plain hd) hcd hmg hobj hints hlen hg) λr s' hq=>?_);obtain⟨rfl,h2,h3,h4⟩:=hq;exact⟨.inl ⟨.bool true,.bool true,[],rfl,λ_=>rfl,.bool true,WC l _,λ_=>⟨List.Pairwise.nil,λ_ hm=>(nomatch hm)⟩⟩,h2,h3,h4⟩
section
variable{K:Frag}
end
end Att
namespace L2
theorem Pq:∀{vs:List Value}{ns:List Int},IntsAre vs ns→Vals (ns.map V.int) vs
 | _,_,.nil=> .nil
 | _,_,.cons n t h=> .cons ⟨t,rfl⟩ (Pq h)
def LP(H:Hp):Prop:=∀b,H b=none∨∃o xs,H b=some (.frz o (.lst xs))
theorem VW{P:Br}{w:World}{K:Ae}{mg mb:Str→Option Value}{CX:JN}{k:Nat}{fa a:Addr}{fd:BG}{x:Str}{sp:Sp}{s₁:Shared}{vs:List Value}{ns:List Int}
 (KX:K.In s₁.heap) (hns:s₁.heap.Ns AI mg) (hb:s₁.heap.Ns DI mb) (hbb:∀x:Str,x≠"__name__"→mb x=Bf x) (hlim:s₁.heap.NoLimit) (hg:s₁.gens=#[])
 (ha:s₁.heap.get? a=some {cls:= .type "list",data:= .seq vs.toArray}) (hi:IntsAre vs ns) (hl:ns.length≤Av) (hr:Room k callerA)
 (F:∀base:Heap,K.In base→base.Ns AI mg→FnOk P w K mg base CX k fa fd [x] sp) (hbind:∀(s:Shared)(u:Value),BindsTo s fd ⟨[u],[]⟩ [(x,u)])
 (hsp:∀H:Hp,LP H→SqL K H a (ns.map V.int)→sp [.ref a] H (λv _=>v= .bl true) λ_ _ _=>False)
 (hCX:∀H e s',CX [] H s₁ (λ_ _ _=>False) e s'→False):
 codeAny (model P w) callerA (.call (.ref fa) ⟨[.ref a],[]⟩) (λr s'=>r= .ok (.ret (.bool true))∧OldK s₁.heap s'.heap∧s'.os=s₁.os∧AllBare s'.gens) s₁:=by
 have rv:=Pq hi;have lenV:=hi.length;have core:∀H:Hp,LP H→SqL K H a (ns.map V.int)→HOk P w H s₁.heap→(∀b,H b≠none→b=a)→(H a≠none→K.lookup a=none)→
  codeAny (model P w) callerA (.call (.ref fa) ⟨[.ref a],[]⟩) (λr s'=>r= .ok (.ret (.bool true))∧OldK s₁.heap s'.heap∧s'.os=s₁.os∧AllBare s'.gens) s₁:=by
  intro H hO hS hok hA hK;have base_of:∀{b:Addr}{o:Obj},s₁.heap.get? b=some o→H b=none→(Iy s₁.heap H).get? b=some o:=λe n=>Sa e n;have noA:∀{b:Addr}{o:Obj}{es:Array DictEntry}{ep:Nat},s₁.heap.get? b=some o→o.data= .dict es ep→H b=none:=λ{b o es ep}e d=>by
   cases q:H b with
   | none=>rfl
   | some u=> have e':b=a:=hA b (by rw[q];simp);subst e';rw[ha] at e;cases e;have d':Data.seq vs.toArray _=Data.dict es ep:=d;cases d'
  have nsK:∀{b:Addr}{m:Str→Option Value},s₁.heap.Ns b m→(Iy s₁.heap H).Ns b m:=λ{b m} ⟨o,es,ep,e,d,r⟩=>⟨o,es,ep,base_of e (noA e d),d,r⟩;have hKb:K.In (Iy s₁.heap H):=λb o e=>base_of (KX b o e) (by
   cases q:H b with
   | none=>rfl
   | some u=> have e':b=a:=hA b (by rw[q];simp);subst e';rw[hK (by rw[q];simp)] at e;cases e)
  have hM:Mod K mg (Iy s₁.heap H):=⟨hKb,nsK hns,⟨mb,nsK hb,hbb⟩,let⟨mc,h1,h2⟩:=hlim;⟨mc,nsK h1,h2⟩⟩;have e0:Env0 P w K mg (Iy s₁.heap H) callerA [] s₁ H:=⟨rfl,hM,λb o e=>Rp e,Nat.le_of_eq (Sj _ _),trivial,λb hb=>absurd (show b∈([]:List Addr) from hb) (by simp),hok,.of_eq hg⟩;refine Cd ((F _ hKb (nsK hns)).run callerA [] s₁ H ⟨[.ref a],[]⟩ [.ref a] [.ref a] _ _ hr e0 (hbind s₁ (.ref a)) (.cons rfl .nil) (hsp H hO hS)) λr s' h=>?_;cases r with
  | error e=>exact(hCX H e s' h).elim
  | ok fl=>
   cases fl with
   | next=>exact C5 h
   | brk=>exact C5 h
   | cont=>exact C5 h
   | ret u=>
    obtain⟨v,H',os,bare,un,hok',r',q⟩:=h;have q':v= .bl true:=q;subst q';obtain rfl:u=Value.bool true:=r';refine⟨rfl,OldK.of_keep λb o e=>?_,os,bare⟩;cases q:H b with
    | none=>exact un.keep b o e q (by intro z;exact absurd (show b∈([]:List Addr) from z) (by simp)) (by simp)
    | some u=>
     rcases hO b with z | ⟨ob,xs,z⟩
     · rw[q] at z;cases z
     · have z2:=un.frzs b ob _ z;obtain⟨e1,_⟩:=hok b _ z;obtain⟨e2,_⟩:=hok' b _ z2;rw[e] at e1;cases e1;exact e2
 cases hk:K.lookup a with
 | some o=> have e:=KX a o hk;rw[ha] at e;cases e;refine core (λ_=>none) (λ_=> .inl rfl) (.inr ⟨_,vs.toArray,_,hk,rfl,rfl,rfl,by rw[Au,lenV];exact hl,by simpa using rv⟩) (λb u z=>by have z':(none:Option HO)=some u:=z;cases z') (λb z=>absurd rfl z) λz=>absurd rfl z
 | none=>
  refine core (λb=>if b=a then some (.frz {cls:= .type "list",data:= .seq vs.toArray} (.lst (ns.map V.int))) else none) (λb=>?_) (.inl (.inr ⟨{cls:= .type "list",data:= .seq vs.toArray},if_pos rfl⟩)) (λb u z=>?_) (λb z=>?_) λ_=>hk
  · by_cases hb:b=a
    · exact .inr ⟨_,_,if_pos hb⟩
    · exact .inl (if_neg hb)
  · by_cases hb:b=a
    · have z':=(if_pos hb).symm.trans z;cases z';subst hb;exact⟨ha,by rw[Ab];exact hl,vs,_,rv,ha⟩
    · have z':=(if_neg hb).symm.trans z;cases z'
  · by_cases hb:b=a
    · exact hb
    · exact absurd (if_neg hb) z
abbrev KOf{K:Ae}{h:Heap}(_:K.In h):Ae:=K
theorem Oi{l:Ep}{n k:Nat}{q:Br}{loose:List Str}{XP:(Str→Option Value)→Heap→Prop}{YP:World→Heap→Prop}{d:DefRec}{K:Params→Ae}{CX:World→JN}{sp:World→Sp}{x:Str}
 (hn:l.most=some n) (hn2:n≤Av) (hdf:d.params.defaults=[]) (hr:Room k callerA)
 (hY:∀(w:World)(h:Heap),YP w h→(K w.params).In h)
 (F:∀(w:World)(mg:Str→Option Value)(fa:Addr)(h:Heap),(K w.params).In h→h.Ns AI mg→mg d.name=some (.ref fa)→
  ∃fd:BG,(∀(s:Shared)(u:Value),BindsTo s fd ⟨[u],[]⟩ [(x,u)])∧
   ∀base:Heap,(K w.params).In base→base.Ns AI mg→FnOk l.prog w (K w.params) mg base (CX w) k fa fd [x] (sp w))
 (hsp:∀(w:World)(H:Hp)(a:Addr)(ns:List Int),ns.length≤n→LP H→SqL (K w.params) H a (ns.map V.int)→sp w [.ref a] H (λv _=>v= .bl true) λ_ _ _=>False)
 (hCX:∀(w:World)(H:Hp)(s:Shared)(e:Value)(s':Shared),CX w [] H s (λ_ _ _=>False) e s'→False):
 PySem.W.WalkO q loose XP YP l.row.toRowW d [] (λf vs=>PySem.call f vs):=by
 refine Att.attach_call hn hdf λw s₀ s₁ mg mb fa o pm cd doc a vs ns G Y ho hd hcd hmg hobj hints hlen hg=>?_;have KX:=hY w _ Y;obtain⟨fd,hb,hF⟩:=F w mg fa _ KX G.T.g hmg;exact VW KX G.T.g G.T.b G.T.builtins G.T.nolimit hg hobj hints (AY hlen hn2) hr hF hb (λH hO hS=>hsp w H a ns hlen hO hS) λH e s'=>hCX w H s₁ e s'
def KD(s:Stmt):Arguments:=match s with
 | .FunctionDef _ a _ _ _ _ _ _ _ _=>a
 | _=>{posonlyargs:=[],args:=[],vararg:=none,kwonlyargs:=[],kw_defaults:=[],kwarg:=none,defaults:=[]}
def Kn(s:Stmt):List Stmt:=match s with
 | .FunctionDef _ _ b _ _ _ _ _ _ _=>b
 | _=>[]
def HI(s:Stmt):Scope:=match s with
 | .FunctionDef _ _ _ _ _ _ sc _ _ _=>sc
 | _=>{kind:= .function,names:=[],isGenerator:=false,isCoroutine:=false}
abbrev HY:JN:=λ_ _ _ _ _ _=>False
abbrev E0:XK:=λ_ _ _=>False
theorem QD:Ot HY X E0:=λ_ _ _ _ _ _ _ h=>h.elim
structure Fun(K:Ae)(x qual:Str)(st:Stmt)(f:Addr)(fd:BG):Prop where
 ex:∃(oc:Value)(od:Option Addr)(kV doc pm:Value)(an:Option Addr)(cdv ct:Value)(osl:Array (Option Value)),
  fd=Ds x qual (KD st) (Kn st) (HI st) .none kV doc pm an cdv ct∧K.lookup f=some ⟨oc,od,.func fd,osl⟩∧FG K cdv qual=true
 kp:Ez K (.ref f)=true
section
variable{K:Ae}{mg:Str→Option Value}{base:Heap}
theorem Fun.ok{qual:Str}{st:Stmt}{f:Addr}{fd:BG}{N ps:List Str}{k:Nat}{sp:Sp}(F:Fun K x qual st f fd)(S:FnScope N ps (HI st))(len:∀vs H Q E,sp vs H Q E→vs.length=ps.length)
 (hbody:∀(cdv:Value)(A:Bu)(outer:List Env)(s:Shared)(H:Hp)(vs:List V)(Q:VK)(E:XK),Room k (A.deeper (envOfC qual (HI st) s.heap.objs.size f cdv))→sp vs H Q E→
  ∃t,PSs (Je HY P w K mg base N qual (HI st) f cdv A outer s H E).nox (Kn st) t∧t {nx:=λ_ H'=>Q .non H',rt:=Q} (JY N vs) H):FnOk P w K mg base HY (k+1) f fd ps sp:=by
 obtain⟨oc,od,kV,doc,pm,an,cdv,ct,osl,rfl,lk,hcd⟩:=F.ex;refine QH lk hcd S len λA outer s H vs Q E hr hsp=>?_;obtain⟨t,h,q⟩:=hbody cdv A outer s H vs Q E hr hsp;exact⟨t,h.nox,q⟩
theorem Fun.binds{qual:Str}{st:Stmt}{f:Addr}{fd:BG}{ps:List Str}(F:Fun K x qual st f fd)
 (h:∀(kV doc pm:Value)(an:Option Addr)(cdv ct:Value)(us:List Value),us.length=ps.length→bindArgs (Ds x qual (KD st) (Kn st) (HI st) .none kV doc pm an cdv ct) ⟨us,[]⟩=pure (ps.zip us)):Binds K fd ps []:=by
 obtain⟨oc,od,kV,doc,pm,an,cdv,ct,osl,rfl,lk,hcd⟩:=F.ex;exact .all (h kV doc pm an cdv ct)
theorem fun_mk{qual:Str}{st:Stmt}{f:Addr}{oc:Value}{od an:Option Addr}{osl:Array (Option Value)}{kV doc pm cdv ct:Value}(l:K.lookup f=some ⟨oc,od,.func (Ds x qual (KD st) (Kn st) (HI st) .none kV doc pm an cdv ct),osl⟩)
 (c:FG K cdv qual=true) (k:Ez K (.ref f)=true):Fun K x qual st f (Ds x qual (KD st) (Kn st) (HI st) .none kV doc pm an cdv ct):=⟨⟨oc,od,kV,doc,pm,an,cdv,ct,osl,rfl,l,c⟩,k⟩
end
theorem Lv{k:Nat}(hr:Room k A):A.units+1<cLine:=Cp (Gj (by decide:1≤64) _) hr.units
theorem II(h:n≤1000):n<Av:=Cp h (by decide)
theorem pv(i:Nat){pos:Pos}(hN:X.N[i]?=some x:=by rfl)(hv:Ol X.env.scope x:=by first | exact Or.inl rfl | exact Or.inr (Or.inl rfl) | exact Or.inr (Or.inr rfl))(hd:(x==("__debug__":Str))=false:=by decide)
 (hcd:(x==("__classdict__":Str))=false:=by decide):PE X (.Name x pos) (HW i):=US hN hv hd hcd
theorem Ht{A B:Prop}(h:B):if false=true then A else B:=by rw[if_neg AA];exact h
theorem Hw{A B:Prop}(h:A):if true=true then A else B:=by rw[if_pos rfl];exact h
theorem HS{c A B:Prop}[Decidable c](h1:c→A)(h2:¬c→B):if c then A else B:=by
 by_cases h:c
 · rw[if_pos h];exact h1 h
 · rw[if_neg h];exact h2 h
theorem QB{c A B:Prop}[Decidable c](hc:c)(h:B):if(!decide c)=true then A else B:=by rw[decide_eq_true hc];exact Ht h
def Same(H H':Hp):Prop:=∀b o,H b=some o→H' b=some o
theorem Same.refl(H:Hp):Same H H:=λ_ _ h=>h
theorem Same.trans{H1 H2:Hp}(a:Same H H1)(b:Same H1 H2):Same H H2:=λc o h=>b c o (a c o h)
theorem Same.free{H':Hp}(e:Same H H'){l:Addr}(h:H' l=Option.none):H l=Option.none:=by
 cases q:H l with
 | none=>rfl
 | some o=> rw[e l o q] at h;cases h
theorem Same.seq{K:Ae}{H':Hp}(e:Same H H')(h:SqL K H a xs):SqL K H' a xs:=by
 rcases h with(h | ⟨o,h⟩) | h
 · exact .inl (.inl (e _ _ h))
 · exact .inl (.inr ⟨o,e _ _ h⟩)
 · exact .inr h
section
variable{κ:Type}[DecidableEq κ]
theorem R6:∀{l:List κ}{k:κ},l.Nodup→¬k∈l→(l++[k]).Nodup
 | [],k,_,_=>by simp
 | a::r,k,h,hk=>by
  obtain⟨h1,h2⟩:=CC.mp h;show(a::(r++[k])).Nodup;refine List.nodup_cons.mpr ⟨λm=>?_,R6 h2 λm=>hk (List.mem_cons.mpr (Or.inr m))⟩;rcases Aq.mp m with q | q
  · exact h1 q
  · exact hk (List.mem_cons.mpr (Or.inl (Af.mp q).symm))
end
def Ib(X:Cx)(N':List Str)(scope:Scope)(cl:List (Str×Addr))(C:Addr)(s₀:Shared)(H₀:Hp)(ex:List Addr):Cx:=
 {prog:=X.prog,w:=X.w,K:=X.K,mg:=X.mg,base:=X.base,A:=X.A,N:=N',s₀:=s₀,H₀:=H₀,env:=compEnvC scope cl C X.env,outer:=X.stack,stack:=X.stack,ex:=ex,fn:=λx=>scope.names.lookup x==some .cell,calm:=X.calm,pn:=[],xe:=λ_ _=>False}
abbrev Iz:=List (Option Nat)
def inn(js:Iz)(σ:St):St:=js.map λo=>o.bind λj=>(σ[j]?).join
theorem U8{env:Env}(has:∀x,(env.kindOf x=some .cell∨env.kindOf x=some .free)→∃c,env.cells.lookup x=some c):
 ∀(names:List (Str×NameKind))(acc:List (Str×Addr)),(∀p∈names,p.2= .free→env.kindOf p.1=some .cell∨env.kindOf p.1=some .free)→(∀x c,acc.lookup x=some c→env.cells.lookup x=some c)→
  ∃cl,(forIn names acc (λ(p:Str×NameKind)(cs:List (Str×Addr))=>(do
   if p.2==NameKind.free then
    let c ←cellOf env p.1
    pure (ForInStep.yield ((p.1,c)::cs))
   else pure (ForInStep.yield cs):Sem (ForInStep (List (Str×Addr))))))=pure cl∧(∀x c,cl.lookup x=some c→env.cells.lookup x=some c)∧
   (∀x,(acc.lookup x).isSome=true→(cl.lookup x).isSome=true)∧∀p∈names,p.2= .free→(cl.lookup p.1).isSome=true:=by
 intro names
 induction names with
 | nil=>intro acc _ ha;exact⟨acc,rfl,ha,λ_ h=>h,λ_ h=>nomatch h⟩
 | cons p r ih=>
  intro acc hn ha;obtain⟨n,k⟩:=p;rw[Fy];by_cases hk:k= .free
  · subst hk;obtain⟨c,hc⟩:=has n (hn (n,.free) Az rfl);have e:cellOf env n=(pure c:Sem Addr):=by
     unfold cellOf;rw[hc]
    obtain⟨cl,h1,h2,h3,h4⟩:=ih ((n,c)::acc) (λq hq=>hn q (AE _ hq)) (λx c' hx=>by
     rw[Cq] at hx;cases hb:x==n with
     | true=> rw[hb] at hx;cases hx;rw[show x=n from eq_of_beq hb];exact hc
     | false=> rw[hb] at hx;exact ha x c' hx)
    refine⟨cl,?_,h2,λx hx=>h3 x ?_,λq hq hf=>?_⟩
    · simp only[beq_self_eq_true,if_true,e];exact h1
    · rw[Cq];cases hb:x==n with
      | true=>rfl
      | false=>exact hx
    · rcases As.mp hq with rfl | hq
      · exact h3 _ (by simp[Cq])
      · exact h4 q hq hf
  · have hb:(k==NameKind.free)=false:=by simpa using hk
    obtain⟨cl,h1,h2,h3,h4⟩:=ih acc (λq hq=>hn q (AE _ hq)) ha;refine⟨cl,?_,h2,h3,λq hq hf=>?_⟩
    · simp only[hb,By,if_false];exact h1
    · rcases As.mp hq with rfl | hq
      · exact absurd hf hk
      · exact h4 q hq hf
theorem M0{env:Env}{scope:Scope}(has:∀x,(env.kindOf x=some .cell∨env.kindOf x=some .free)→∃c,env.cells.lookup x=some c)
 (hn:∀p∈scope.names,p.2= .free→env.kindOf p.1=some .cell∨env.kindOf p.1=some .free):
 ∃cl,closureFor scope env=pure cl∧(∀x c,cl.lookup x=some c→env.cells.lookup x=some c)∧∀p∈scope.names,p.2= .free→(cl.lookup p.1).isSome=true:=by
 obtain⟨cl,h1,h2,_,h4⟩:=U8 has scope.names [] hn (λ_ _ h=>nomatch h);refine⟨cl,?_,h2,h4⟩;unfold closureFor;show(do let cs ←forIn scope.names [] _;pure cs)=_
 refine Eq.trans ?_ h1;simp only[bind_pure]
section
variable{R:Result→Shared→Prop}
theorem Yp{elt target iter:Expr}{ifs:List Expr}{scope:Scope}{pos:Pos}{it acc:Value}{env:Env}(I:Nat→Shared→Prop)
 (turn:∀n s,I n s→wpAny (model prog w) A (pyNext it) (λr s₁=>match r with
  | none=>R (.ok .next) s₁
  | some v=>wpAny (model prog w) A (BL target it v) (λ_ s₁'=>wpAny (model prog w) A (assign target env v) (λ_ s₂=>
   wpAny (model prog w) A (forIn ifs true λc r=>if r=true then do let ok ←isTrue c env (eval c env);pure (ForInStep.yield ok) else pure (ForInStep.yield r)) (λok s₃=>
    if ok=true then wpAny (model prog w) A (eval elt env) (λx s₄=> wpAny (model prog w) A (call (.builtin "list.append") [acc,x]) (λ_ s₅=>∃m,m<n∧I m s₅) (λ_ _=>False) s₄) (λ_ _=>False) s₃
    else ∃m,m<n∧I m s₃) (λ_ _=>False) s₂) (λ_ _=>False) s₁') (λ_ _=>False) s₁) (λ_ _=>False) s)
 (n:Nat) (h:I n s):
 codeAny (model prog w) A (.compLoop (.ListComp elt [⟨target,iter,ifs,0⟩] scope pos) 0 it acc env) R s:=by
 refine DE rfl I (λn s hI=>?_) n h;show wpAny _ A ((compTurn (.ListComp elt [⟨target,iter,ifs,0⟩] scope pos) 0 it acc env).onRaise (λx=>do noteFrame x env;theTreesLotGoes x)) _ _ s
 refine DT ?_;rw[compTurn_list];refine Aa (Bv (Aa (Ay (turn n s hI) (λr s₁ h₁=>?_) λ_ _ h'=>h'.elim)));cases r with
 | none=>exact Ac h₁
 | some v=>
  refine Aa (Ay h₁ (λ_ s₁' h₁'=>?_) λ_ _ h'=>h'.elim);refine Aa (Ay h₁' (λ_ s₂ h₂=>Aa (Ay h₂ (λok s₃ h₃=>?_) λ_ _ h'=>h'.elim)) λ_ _ h'=>h'.elim);cases ok with
  | false=>exact Ac ⟨rfl,h₃⟩
  | true=> exact Aa (Aa (Ay h₃ (λx s₄ h₄=>Aa (Ay h₄ (λ_ s₅ h₅=>Ac (Ac ⟨rfl,h₅⟩)) λ_ _ h'=>h'.elim)) λ_ _ h'=>h'.elim))
end
def Ic(X:Cx)(ifs:List Expr)(t:TT):Prop:=
 ∀(pins:List (Addr×Obj))(s:Shared)(σ:St)(H:Hp)(Q:Bool→Hp→Prop),Inv X pins σ H s→t σ H Q→
  wpAny (model X.prog X.w) X.A (forIn ifs true λc r=>if r=true then do let ok ←isTrue c X.env (eval c X.env);pure (ForInStep.yield ok) else pure (ForInStep.yield r)) (TP X pins σ Q) X.xe s
def Jm:TT:=λ_ H Q=>Q true H
theorem J7:Ic X [] Jm:=λ_ _ _ H _ I h=>wpAny_tests_nil ⟨H,I,h⟩
theorem L6{c:Expr}{t:TT}(h:PT X c t):Ic X [c] t:=λpins s σ H Q I hw=>wpAny_tests_one (h pins s σ H Q I hw)
def Kk(J:It)(p:Addr)(js:Iz)(g:TG)(tc:TT)(te:TE)(σ:St)(H:Hp)(Q:VK):Prop:=
 ∃W:Nat→Nat→St→List V→Hp→Prop,(∃m,W 0 m (inn js σ) [] (Hr H p (.lst [])))∧∀i m σ' ys H,W i m σ' ys H→H p=some (.lst ys)∧
  ((J.stop i H∧Q (.ref p) H)∨(J.go i H∧ys.length<Av∧∀x H',J.yld i H x H'→g x σ' H' λσ2 H2=>tc σ2 H2 λb H3=>
    if b=true then te σ2 H3 λy H4=>H4 p=some (.lst ys)∧∃m',m'<m∧W (i+1) m' σ2 (ys++[y]) (Hr H4 p (.lst (ys++[y])))
    else ∃m',m'<m∧W (i+1) m' σ2 ys H3))
def TC(wi:TI)(js:Iz)(g:TG)(tc:TT)(te:TE):TE:=λσ H Q=>wi σ H λJ H1=>∀p,H1 p=none→Kk J p js g tc te σ H1 Q
structure CapOk(X:Cx)(N':List Str)(js:Iz)(scope:Scope):Prop where
 len:js.length=N'.length
 kind:scope.kind= .function
 cells:∀p∈scope.names,p.2= .cell→scope.names.lookup p.1=some .cell
 names:∀p∈scope.names,p.2= .local→scope.names.lookup p.1=some .local
 free:∀p∈scope.names,p.2= .free→X.env.kindOf p.1=some .cell∨X.env.kindOf p.1=some .free
 cap:∀(i j:Nat),js[i]?=some (some j)→∃x,N'[i]?=some x∧X.N[j]?=some x∧scope.names.lookup x=some .free
theorem Po{names:List (Str×NameKind)}{k:NameKind}(h:names.lookup x=some k):(x,k)∈names:=by
 induction names with
 | nil=>cases h
 | cons p r ih=>
  obtain⟨n,k'⟩:=p;rw[Cq] at h;cases hb:x==n with
  | true=> rw[hb] at h;cases h;rw[show x=n from eq_of_beq hb];exact Az
  | false=> rw[hb] at h;exact AE _ (ih h)
theorem Tu{env:Env}{k:NameKind}(h:(relabel scope env).names.lookup x=some k):∃k0,scope.names.lookup x=some k0∧(k=k0∨(k0= .free∧k= .cell)):=by
 have go:∀(names:List (Str×NameKind)),(names.map λ(p:Str×NameKind)=>if(p.2==NameKind.free && env.scope.kind== .function && env.kindOf p.1==some .cell) then(p.1,NameKind.cell) else(p.1,p.2)).lookup x=some k→
  ∃k0,names.lookup x=some k0∧(k=k0∨(k0= .free∧k= .cell)):=by
  intro names
  induction names with
  | nil=>intro h;cases h
  | cons p r ih=>
   obtain⟨n,k'⟩:=p;intro h;rw[AK] at h;by_cases hc:(k'==NameKind.free && env.scope.kind== .function && env.kindOf n==some .cell)=true
   · rw[if_pos hc] at h;rw[Cq] at h ⊢;cases hb:x==n with
     | true=>
      rw[hb] at h;cases h;have:k'= .free:=by cases k'<;>first | rfl | (simp at hc)
      exact⟨k',rfl,.inr ⟨this,rfl⟩⟩
     | false=> rw[hb] at h;exact ih h
   · rw[if_neg hc] at h;rw[Cq] at h ⊢;cases hb:x==n with
     | true=> rw[hb] at h;cases h;exact⟨k',rfl,.inl rfl⟩
     | false=> rw[hb] at h;exact ih h
 exact go scope.names h
theorem YY{env:Env}(h:scope.names.lookup x=some .free):(relabel scope env).names.lookup x=some .cell∨(relabel scope env).names.lookup x=some .free:=by
 have go:∀(names:List (Str×NameKind)),names.lookup x=some .free→(names.map λ(p:Str×NameKind)=>if(p.2==NameKind.free && env.scope.kind== .function && env.kindOf p.1==some .cell) then(p.1,NameKind.cell) else(p.1,p.2)).lookup x=some .cell∨
  (names.map λ(p:Str×NameKind)=>if(p.2==NameKind.free && env.scope.kind== .function && env.kindOf p.1==some .cell) then(p.1,NameKind.cell) else(p.1,p.2)).lookup x=some .free:=by
  intro names
  induction names with
  | nil=>intro h;cases h
  | cons p r ih=>
   obtain⟨n,k'⟩:=p;intro h;rw[AK];rw[Cq] at h;by_cases hc:(k'==NameKind.free && env.scope.kind== .function && env.kindOf n==some .cell)=true
   · rw[if_pos hc,Cq];cases hb:x==n with
     | true=>exact .inl rfl
     | false=> rw[hb] at h;exact ih h
   · rw[if_neg hc,Cq];cases hb:x==n with
     | true=> rw[hb] at h;exact .inr h
     | false=> rw[hb] at h;exact ih h
 exact go scope.names h
theorem Oc:∀(names:List (Str×NameKind))(n:Nat)(acc:List (Str×Addr)),BS n names acc=BS n names []++acc
 | [],_,_=>rfl
 | (x,k)::r,n,acc=>by
  unfold BS
  split
  · rw[Oc r _ ((x,n)::acc),Oc r _ [(x,n)],CW];rfl
  · exact Oc r n acc
theorem Px{c:Addr}:∀(names:List (Str×NameKind))(n:Nat)(acc:List (Str×Addr)),(x,c)∈BS n names acc→(x,NameKind.cell)∈names∨(x,c)∈acc
 | [],_,_,h=> .inr h
 | (y,k)::r,n,acc,h=>by
  unfold BS at h
  split at h
  · rename_i hk;rcases Px r _ _ h with z | z
    · exact .inl (AE _ z)
    · rcases As.mp z with z | z
      · cases z;rw[show k= .cell from eq_of_beq hk];exact .inl Az
      · exact .inr z
  · rcases Px r _ _ h with z | z
    · exact .inl (AE _ z)
    · exact .inr z
structure OwnCells(scope:Scope)(cl0 cl:List (Str×Addr))(lo:Nat)(h₁:Heap):Prop where
 own:∀x c,cl.lookup x=some c→(scope.names.lookup x=some .cell→lo<c∧h₁.IsCell c none)∧(scope.names.lookup x≠some .cell→cl0.lookup x=some c)
 has:∀x,scope.names.lookup x=some .cell∨(cl0.lookup x).isSome=true→(cl.lookup x).isSome=true
 inj:∀x y c,scope.names.lookup x=some .cell→scope.names.lookup y=some .cell→cl.lookup x=some c→cl.lookup y=some c→x=y
theorem Og{M:Model}{A:Bu}{E:Value→Shared→Prop}{s:Shared}{globals:Addr}{cl0:List (Str×Addr)}{qual:Str}{env:Env}{Q:Env→Shared→Prop}(ok:∀p∈scope.names,p.2= .cell→scope.names.lookup p.1=some .cell)
 (hQ:∀(cl:List (Str×Addr))(h₁:Heap),(∃m,h₁.Ns s.heap.objs.size m)→(∀b u,s.heap.get? b=some u→h₁.get? b=some u)→OwnCells scope cl0 cl s.heap.objs.size h₁→
  Q (newEnv scope s.heap.objs.size globals cl qual none .none (some env) DI) {s with heap:=h₁,toks:=s.toks+([]:List (Str×Value)).length}):
 wpAny M A (newFunctionEnv scope globals cl0 [] qual none .none (some env)) Q E s:=by
 simp only[newFunctionEnv,Option.isSome_some,if_true];refine Aa (wpAny_alloc ?_);refine Aa (wpAny_layCells _ (λname kind cells=>by cases hkc:kind==NameKind.cell<;>simp[hkc]) _ _ _ _ ?_);have ck:=cellsFrom_ok scope.names (s.heap.push {cls:= .type "dict",data:= .dict #[]}) (s.heap.objs.size+1) [] ⟨λ_ _ hm=>(nomatch hm),List.Pairwise.nil⟩ (by rw[BA];exact Ah _);rw[BA] at ck;rw[show({s with heap:=s.heap.push {cls:= .type "dict",data:= .dict #[]}}:Shared).heap.objs.size=s.heap.objs.size+1 from BA ..]
 rw[FI];refine Aa (Ac (Ac ?_));rw[Oc];refine hQ _ _ ⟨_,(Heap.Ns.new s.heap (.type "dict")).keeps (pushCells_keeps _ _)⟩ (λb o e=>pushCells_keeps _ _ b o (Ad _ e)) ?_;have lk:∀x,(BS (s.heap.objs.size+1) scope.names []++cl0).lookup x=((BS (s.heap.objs.size+1) scope.names []).lookup x).or (cl0.lookup x):=λx=>List.lookup_append;have cn:∀x c,(BS (s.heap.objs.size+1) scope.names []).lookup x=some c→scope.names.lookup x=some .cell:=λx c e=>by
  rcases Px _ _ _ (mem_of_lookup e) with z | z
  · exact ok _ z rfl
  · cases z
 refine⟨λx c e=>⟨λhx=>?_,λhx=>?_⟩,λx hx=>?_,λx y c hx hy e1 e2=>?_⟩
 · rw[lk] at e;have q:=C2 scope.names (s.heap.objs.size+1) [] (.inl hx);cases z:(BS (s.heap.objs.size+1) scope.names []).lookup x with
   | none=>rw[z] at q;cases q
   | some c'=> rw[z] at e;cases e;have:=ck.empty _ _ (mem_of_lookup z);exact⟨this.2,this.1⟩
 · rw[lk] at e;cases z:(BS (s.heap.objs.size+1) scope.names []).lookup x with
   | none=>rw[z] at e;exact e
   | some c'=>exact absurd (cn x c' z) hx
 · rw[lk];rcases hx with hx | hx
   · have q:=C2 scope.names (s.heap.objs.size+1) [] (.inl hx);cases z:(BS (s.heap.objs.size+1) scope.names []).lookup x with
     | none=>rw[z] at q;cases q
     | some c'=>rfl
   · cases z:(BS (s.heap.objs.size+1) scope.names []).lookup x with
     | none=>exact hx
     | some c'=>rfl
 · rw[lk] at e1 e2;have go:∀x,scope.names.lookup x=some .cell→((BS (s.heap.objs.size+1) scope.names []).lookup x).or (cl0.lookup x)=some c→(x,c)∈BS (s.heap.objs.size+1) scope.names []:=λx hx e=>by
    have q:=C2 scope.names (s.heap.objs.size+1) [] (.inl hx);cases z:(BS (s.heap.objs.size+1) scope.names []).lookup x with
    | none=>rw[z] at q;cases q
    | some c'=>rw[z] at e;cases e;exact mem_of_lookup z
   exact name_of_addr ck.apart (go x hx e1) (go y hy e2)
theorem N8{N':List Str}{js:Iz}{cl0 cl:List (Str×Addr)}{fp:List Addr}{h₁:Heap}{t':Nat}(ok:CapOk X N' js scope)(I:Inv X pins σ H s)
 (h2':∀x c,cl0.lookup x=some c→X.env.cells.lookup x=some c) (h3':∀p∈scope.names,p.2= .free→(cl0.lookup p.1).isSome=true)
 (hf:∀b∈fp,HA X pins H b) (hlt:∀b∈fp,b<s.heap.objs.size)
 (k:∀b u,s.heap.get? b=some u→h₁.get? b=some u) (hn:∃m,h₁.Ns s.heap.objs.size m) (oc:OwnCells scope cl0 cl s.heap.objs.size h₁):
 Inv (Ib X N' scope cl s.heap.objs.size s H fp) [] (inn js σ) H {s with heap:=h₁,toks:=t'}:=by
 have fresh:H s.heap.objs.size=none:=I.hok.fresh (Ah _);have h2:∀x c,cl.lookup x=some c→(scope.names.lookup x=some .cell∧s.heap.objs.size<c∧h₁.IsCell c none)∨X.env.cells.lookup x=some c:=λx c e=>by
  by_cases hx:scope.names.lookup x=some .cell
  · exact .inl ⟨hx,(oc.own x c e).1 hx⟩
  · exact .inr (h2' x c ((oc.own x c e).2 hx))
 have h3:∀p∈scope.names,p.2= .free→(cl.lookup p.1).isSome=true:=λp hp e=>oc.has _ (.inr (h3' p hp e));have kind_of:∀x,((relabel scope X.env).names.lookup x=some .cell∨(relabel scope X.env).names.lookup x=some .free)→scope.names.lookup x=some .cell∨scope.names.lookup x=some .free:=λx hx=>by
  rcases hx with hx | hx
  · obtain⟨k0,e,z⟩:=Tu hx;rcases z with z | ⟨z,_⟩
    · subst z;exact .inl e
    · subst z;exact .inr e
  · obtain⟨k0,e,z⟩:=Tu hx;rcases z with z | ⟨z,z'⟩
    · subst z;exact .inr e
    · cases z'
 have clt:∀x c,X.env.cells.lookup x=some c→c<s.heap.objs.size:=λx c e=>let⟨v,hv⟩:=I.cell x c e;hv.lt;have okc:(Ib X N' scope cl s.heap.objs.size s H fp).Ok:=by
  refine⟨I.ok.mod,ok.kind,I.ok.glob,I.ok.blt,Ah _,λx y c e1 e2=>?_,λx hx=>?_,λx c hx e=>?_,I.ok.hd,I.ok.frames,.inl rfl,λb hb=>⟨Ar (hlt b hb),λx c e=>?_⟩,I.bs,AY I.ok.bsz I.sz,λb o e hb=>?_,λb hb hb'=>?_,I.stack,I.stkFree⟩
  · rcases h2 x c e1 with⟨k1,l1,_⟩ | l1
    · rcases h2 y c e2 with⟨k2,l2,_⟩ | l2
      · exact oc.inj x y c k1 k2 e1 e2
      · exact absurd l1 (Nat.lt_asymm (clt y c l2))
    · rcases h2 y c e2 with⟨k2,l2,_⟩ | l2
      · exact absurd l2 (Nat.lt_asymm (clt x c l1))
      · exact I.ok.inj x y c l1 l2
  · have z:(cl.lookup x).isSome=true:=by
     rcases kind_of x hx with e | e
     · exact oc.has x (.inl e)
     · exact h3 _ (Po e) rfl
    cases q:cl.lookup x with
    | none=>rw[q] at z;cases z
    | some c=>exact⟨c,q⟩
  · exact Bz ((oc.own x c e).1 (eq_of_beq hx)).1
  · rcases h2 x c e with⟨_,l,_⟩ | l
    · exact λz=>Nat.lt_asymm (hlt b hb) (z ▸ l)
    · exact(hf b hb).2.2.2.2.1 x c l
  · rcases(hf b hb).2.2.2.1 with z | z
    · exact I.ok.noex b o e z
    · exact absurd (AD (Ao e) (AY I.ok.bsz z)) (Dl _)
  · rcases As.mp (I.stkSub b hb') with z | z
    · exact(hf b hb).2.1 z
    · exact(hf b hb).2.2.1 z
 obtain⟨m,hn⟩:=hn;refine⟨okc,rfl,I.bare,Un.kept k,⟨m,hn,λi x v e1 e2 e3=>?_⟩,λx c e=>?_,fresh,λx c e=>?_,(λp hp=>nomatch hp),I.hok.kept k,by show(inn js σ).length=N'.length;unfold inn;rw[Ab];exact ok.len⟩
 · have e2:(inn js σ)[i]?=some (some v):=e2;unfold inn at e2;rw[Ai] at e2;cases q:js[i]? with
   | none=>rw[q] at e2;cases e2
   | some o=>
    rw[q] at e2;cases o with
    | none=>cases e2
    | some j=>
     obtain⟨x',n1,n2,n3⟩:=ok.cap i j q;have e1:N'[i]?=some x:=e1;rw[n1] at e1;cases e1;have e2:(σ[j]?).join=some v:=A5 e2;have e2':σ[j]?=some (some v):=by
      cases q2:σ[j]? with
      | none=>rw[q2] at e2;cases e2
      | some o2=>rw[q2] at e2;exact congrArg some e2
     obtain⟨mo,hno,hlo⟩:=I.loc;have kx:=ok.free _ (Po n3) rfl;have vis:Ol X.env.scope x:=by
      rcases kx with z | z
      · exact .inr (.inl z)
      · exact .inr (.inr z)
     obtain⟨u,r,l⟩:=hlo j x v n2 e2' vis;refine⟨u,r,.inr ⟨YY n3,?_⟩⟩;rcases l with⟨z,_⟩ | ⟨_,c,hc,hcell⟩
     · rcases kx with y | y<;>(rw[z] at y;cases y)
     · have z:=h3 _ (Po n3) rfl;cases q3:cl.lookup x with
       | none=>rw[q3] at z;cases z
       | some c'=> have:=h2' x c' ((oc.own x c' q3).2 (by rw[n3];decide));rw[hc] at this;cases this;exact⟨c,q3,hcell.keeps k⟩
 · rcases h2 x c e with⟨_,_,l⟩ | l
   · exact⟨_,l⟩
   · obtain⟨v,hv⟩:=I.cell x c l;exact⟨v,hv.keeps k⟩
 · rcases h2 x c e with⟨_,l,_⟩ | l
   · exact I.hok.fresh (Bz l)
   · exact I.freeC x c l
section
variable{tg iter elt:Expr}{ifs:List Expr}{wi:TI}{js:Iz}{g:TG}{tc:TT}{te:TE}{N':List Str}
theorem Sd{pins:List (Addr×Obj)}{σ:St}{H:Hp}{s:Shared}{E:Value→Shared→Prop}{Q:VK}{J:It}{it:Addr}{fp:List Addr}{tn:Nat→Heap→Prop}{cl:List (Str×Addr)}
 (hc:X.calm=true) (ok:CapOk X N' js scope)
 (h2:∀x c,cl.lookup x=some c→X.env.cells.lookup x=some c) (h3:∀p∈scope.names,p.2= .free→(cl.lookup p.1).isSome=true)
 (hg:∀cl C s₀ H₀ ex,PG (Ib X N' scope cl C s₀ H₀ ex) tg g) (ht:∀cl C s₀ H₀ ex,Ic (Ib X N' scope cl C s₀ H₀ ex) ifs tc) (he:∀cl C s₀ H₀ ex,PE (Ib X N' scope cl C s₀ H₀ ex) elt te)
 (I:Inv X pins σ H s) (T:Turn X.prog X.w X.K tg J fp it tn) (st:tn 0 s.heap) (hf:∀b∈fp,HA X pins H b)
 (hw:∀p,H p=none→Kk J p js g tc te σ H Q):
 wpAny (model X.prog X.w) X.A (newList []) (λacc s₃=>wpAny (model X.prog X.w) X.A (newFunctionEnv scope X.env.globals cl [] X.env.qual none .none (some X.env)) (λcenv s₄=>
  codeAny (model X.prog X.w) X.A (.compStart (.ListComp elt [⟨tg,iter,ifs,0⟩] scope pos) 0 (.ref it) acc {cenv with scope:=relabel scope X.env})
   (λr s'=>r= .ok .next∧(∃m,s'.heap.Ns cenv.locals m)∧∃v H',RelV v acc∧Inv X pins σ H' s'∧HA X pins H' cenv.locals∧Q v H') s₄) E s₃) E s:=by
 have objs:=T.obj _ _ st;refine AW ?_ (by show 0≤Av;decide);obtain⟨W,⟨m0,w0⟩,turn⟩:=hw s.heap.objs.size (I.hok.fresh (Ah _));generalize hp:s.heap.objs.size=p at*;have kp:∀b u,s.heap.get? b=some u→(s.heap.push {cls:= .type "list",dict:=none,data:= .seq ([]:List Value).toArray}).get? b=some u:=λb u e=>Ad _ e;have I3:Inv X pins σ (Hr H p (.lst [])) {s with heap:=s.heap.push {cls:= .type "list",dict:=none,data:= .seq ([]:List Value).toArray}}:=by refine I.laid (t':=s.toks) kp (by rw[hp];exact Ah _) ⟨AQ _,[],0,.nil,?_⟩;have:=An s.heap (o:={cls:= .type "list",dict:=none,data:= .seq ([]:List Value).toArray}) rfl;rw[hp] at this;exact this
 have fne:∀b∈fp,b≠p:=λb hb=>by obtain⟨o,e,_⟩:=objs b hb;have:=Ao e;rw[←hp];exact Ar this
 have hf3:∀b∈fp,HA X pins (Hr H p (.lst [])) b:=λb hb=>⟨by rw[HD (fne b hb)];exact(hf b hb).1,(hf b hb).2⟩;have st3:tn 0 (s.heap.push {cls:= .type "list",dict:=none,data:= .seq ([]:List Value).toArray}):=T.keep _ _ _ st λb _ o e=>kp b o e;have lt3:∀b∈fp,b<(s.heap.push {cls:= .type "list",dict:=none,data:= .seq ([]:List Value).toArray}).objs.size:=λb hb=>by obtain⟨o,e,_⟩:=objs b hb;exact Ao (kp b o e)
 generalize hs3:({s with heap:=s.heap.push {cls:= .type "list",dict:=none,data:= .seq ([]:List Value).toArray}}:Shared)=s3 at*
 have eh:s.heap.push {cls:= .type "list",dict:=none,data:= .seq ([]:List Value).toArray}=s3.heap:=by rw[←hs3]
 rw[eh] at st3 lt3;refine Og ok.cells λcl h₁ hns₁ k4 oc=>?_;have I4:=N8 (cl:=cl) (h₁:=h₁) (t':=s3.toks+([]:List (Str×Value)).length) ok I3 h2 h3 hf3 lt3 k4 hns₁ oc;have st4:tn 0 h₁:=T.keep _ _ _ st3 λb _ o e=>k4 b o e;generalize hX:Ib X N' scope cl s3.heap.objs.size s3 (Hr H p (.lst [])) fp=X' at I4;have hg':PG X' tg g:=by rw[←hX];exact hg _ _ _ _ _
 have ht':Ic X' ifs tc:=by rw[←hX];exact ht _ _ _ _ _
 have he':PE X' elt te:=by rw[←hX];exact he _ _ _ _ _
 have eP:X'.prog=X.prog:=by rw[←hX];rfl
 have ew:X'.w=X.w:=by rw[←hX];rfl
 have eK:X'.K=X.K:=by rw[←hX];rfl
 have ec:X'.calm=true:=by rw[←hX];exact hc
 have eA:X'.A=X.A:=by rw[←hX];rfl
 have ex:X'.xe=λ_ _=>False:=by rw[←hX];rfl
 have eE:X'.env=compEnvC scope cl s3.heap.objs.size X.env:=by rw[←hX];rfl
 have eEx:X'.ex=fp:=by rw[←hX];rfl
 have eN:X'.pn=[]:=by rw[←hX];rfl
 have stat:∀{H':Hp},(∀b∈fp,H' b=none)→∀b∈fp,HA X' [] H' b:=λ{H'}hn b hb=>by have okc:=I4.ok;refine⟨hn b hb,(okc.exf b (by rw[eEx];exact hb)).1,okc.exfs b (by rw[eEx];exact hb),.inl (by rw[eEx];exact hb),(okc.exf b (by rw[eEx];exact hb)).2,λq hq=>?_⟩;rw[eN] at hq;cases hq
 have loop:∀s₄:Shared,s₄={s3 with heap:=h₁,toks:=s3.toks+([]:List (Str×Value)).length}→
  codeAny (model X.prog X.w) X.A (.compLoop (.ListComp elt [⟨tg,iter,ifs,0⟩] scope pos) 0 (.ref it) (.ref p) (compEnvC scope cl s3.heap.objs.size X.env))
   (λr s'=>r= .ok .next∧(∃m,s'.heap.Ns s3.heap.objs.size m)∧∃v H',RelV v (.ref p)∧Inv X pins σ H' s'∧HA X pins H' s3.heap.objs.size∧Q v H') s₄:=by
  rintro s₄ rfl;refine Yp (λn s'=>∃i σ' ys H',Inv X' [] σ' H' s'∧tn i s'.heap∧(∀b∈fp,H' b=none)∧W i n σ' ys H') ?_ m0 ⟨0,_,[],_,I4,st4,λb hb=>(hf3 b hb).1,w0⟩;rintro n s5 ⟨i,σ5,ys,H5,I5,st5,fr5,w5⟩;obtain⟨hp5,tu⟩:=turn i n σ5 ys H5 w5;rcases tu with⟨stop,qn⟩ | ⟨go,hz,step⟩
  · have D:=T.done X' eP ew eK ec i [] s5 σ5 H5 (λ_ _=>False) I5 (stat fr5) st5 stop;rw[eA] at D;refine Hx D λr s6 ⟨hr,I6⟩=>?_;subst hr;refine⟨rfl,?_,.ref p,H5,rfl,?_,?_,qn⟩
    · obtain⟨m,hm,_⟩:=I6.loc;rw[eE] at hm;exact⟨m,hm⟩
    · have b6:=I6.base;have ho:=I6.os;have hk:=I6.hok;have hb:=I6.bare;subst hX;exact I3.call' (ch:=fp) ho b6 hk hb λb hb'=>⟨(hf b hb').2.2.2.1,(hf b hb').2.1,(hf b hb').2.2.2.2.1,(hf b hb').2.2.2.2.2⟩
    · have fr:=I6.free;rw[eE] at fr;exact I3.fpOk (Ah _) fr
  · have D:=T.item X' eP ew eK ec i [] s5 σ5 H5 (λ_ _=>False) I5 (stat fr5) st5 go;rw[eA] at D;refine Hx D λr s6 ⟨u,hr,h6⟩=>?_;subst hr;refine Hx h6 λ_ s7 ⟨x,H7,I7,r7,y7,st7,fr7⟩=>?_;have I7':=I7.pinned (stat fr7) (T.obj _ _ st7);have G:=hg' _ s7 σ5 H7 x u _ I7' r7 (step x H7 y7);rw[eP,ew,eA,ex,eE] at G;refine Hx G λ_ s8 ⟨σ8,H8,I8,q8⟩=>?_;have Tt:=ht' _ s8 σ8 H8 _ I8 q8;rw[eP,ew,eA,ex,eE] at Tt;refine Hx Tt λb s9 ⟨H9,I9,q9⟩=>?_;have again:∀{s':Shared}{ys':List V}{H':Hp},Inv X' ([]++Jb fp s7.heap) σ8 H' s'→(∃m',m'<n∧W (i+1) m' σ8 ys' H')→
     ∃m,m<n∧∃i σ' ys H',Inv X' [] σ' H' s'∧tn i s'.heap∧(∀b∈fp,H' b=none)∧W i m σ' ys H':=λ{s' ys' H'}I' ⟨m',hm,w'⟩=>by
     refine⟨m',hm,i+1,σ8,ys',H',I'.unpinned,T.keep _ _ _ st7 λb hb o e=>(I'.pin (b,o) (Ag _ (Ag _ (J8 hb e)))).1,λb hb=>?_,w'⟩;obtain⟨o,e,d⟩:=T.obj _ _ st7 b hb;exact(I'.pin (b,o) (Ag _ (Ag _ (J8 hb e)))).2.1
    cases b with
    | false=>exact again I9 q9
    | true=> have Ee:=he' _ s9 σ8 H9 _ I9 q9;rw[eP,ew,eA,ex,eE] at Ee;show wpAny _ _ _ _ _ _;refine Hx Ee λxv s10 ⟨y,H10,I10,r10,hp10,q10⟩=>?_;have Ap:=LF (X:=X') _ s10 σ8 H10 (.ref p) [y] (.ref p) [xv] (λ_ H'=>H'=Hr H10 p (.lst (ys++[y]))) I10 rfl (.cons r10 .nil) ⟨p,ys,y,rfl,rfl,hp10,hz,rfl⟩;rw[eP,ew,eA,ex] at Ap;refine Hx Ap λ_ s11 ⟨_,H11,I11,_,e11⟩=>?_;subst e11;exact again I11 q10
 exact F9 (loop _ rfl) (T.self _ 0 _ _ _ st4 (loop _ rfl))
theorem JO(hc:X.calm=true)(ok:CapOk X N' js scope)(hi:PI X tg iter wi)
 (hg:∀cl C s₀ H₀ ex,PG (Ib X N' scope cl C s₀ H₀ ex) tg g) (ht:∀cl C s₀ H₀ ex,Ic (Ib X N' scope cl C s₀ H₀ ex) ifs tc) (he:∀cl C s₀ H₀ ex,PE (Ib X N' scope cl C s₀ H₀ ex) elt te)
 (hs:∀x,Bj iter X.env x=pure x:=by intro _;rfl):PE X (.ListComp elt [⟨tg,iter,ifs,0⟩] scope pos) (TC wi js g tc te):=by
 intro pins s σ H Q I h;obtain⟨cl,c1,c2,c3⟩:=M0 (scope:=scope) I.ok.has ok.free;rw[eval_ListComp];refine CD (use:=none) rfl hs c1 ok.kind ok.names (Hx (hi pins s σ H _ I h) λv s1 h1=>Hx h1 λitv s2 h2=>?_);obtain⟨it,fp,tn,J,H2,e,I2,T,st2,f2,hw⟩:=h2;subst e;refine Ay (Sd (iter:=iter) (pos:=pos) hc ok c2 c3 hg ht he I2 T st2 f2 hw) (λacc s3 h3=>Ay h3 (λcenv s4 h4=>?_) λ_ _ z=>z) λ_ _ z=>z;refine Cd h4 λr s5 h5=>?_;obtain⟨rfl,⟨m,hm⟩,v,H5,rv,I5,f5,q5⟩:=h5;refine⟨m,hm,λh' sb=>?_⟩;obtain⟨f0,f1,_,f3,f4,f6⟩:=f5;exact⟨v,H5,I5.turned (t':=s5.toks) (λb o hb e=>(sb.2 b hb).trans e) f0 f1 f3 f4 f6,rv,q5⟩
theorem M6{px:Pos}{spos:Pos}(hN:X.N.Nodup)(hi':X.N[i]?=some x)(hx:Mq X.env.scope x)(hc:X.calm=true)(ok:CapOk X N' js scope)(hi:PI X tg iter wi)
 (hg:∀cl C s₀ H₀ ex,PG (Ib X N' scope cl C s₀ H₀ ex) tg g) (ht:∀cl C s₀ H₀ ex,Ic (Ib X N' scope cl C s₀ H₀ ex) ifs tc) (he:∀cl C s₀ H₀ ex,PE (Ib X N' scope cl C s₀ H₀ ex) elt te)
 (hsw:swapsWith (.ListComp elt [⟨tg,iter,ifs,0⟩] scope pos) (some (.Name x px)) spos.line X.env=pure true:=by rfl)
 (hs:∀x,Bj iter X.env x=pure x:=by intro _;rfl) (hf:X.fn x=true∨X.env.scope.names.lookup x=some .local:=by first | exact .inl rfl | exact .inr rfl | assumption):
 PS X (.Assign [.Name x px] (.ListComp elt [⟨tg,iter,ifs,0⟩] scope pos) spos) (JR (TC wi js g tc te) (JA i)):=by
 intro pins s σ H D I h;obtain⟨cl,c1,c2,c3⟩:=M0 (scope:=scope) I.ok.has ok.free;rw[exec_Assign_Name_used _ _ _ _ hsw];refine Aa (Bv (Aa ?_));show wpAny _ X.A (do let _ ←comprehension (.ListComp elt [⟨tg,iter,ifs,0⟩] scope pos) scope X.env _ (newList []) false (eval iter X.env) (some (assign (.Name x px) X.env))) _ _ s
 refine Aa (Ay (CD (use:=some (assign (.Name x px) X.env)) (Q:=λ_ s'=>SP X pins D .next s') rfl hs c1 ok.kind ok.names
  (Hx (hi pins s σ H _ I h) λv s1 h1=>Hx h1 λitv s2 h2=>?_)) (λ_ s' hq=>Ac (Ac hq)) λ_ _ e=>e)
 obtain⟨it,fp,tn,J,H2,e,I2,T,st2,f2,hw⟩:=h2;subst e;refine Ay (Sd (Q:=λx H1=>JA i x σ H1 D.nx) (iter:=iter) (pos:=pos) hc ok c2 c3 hg ht he I2 T st2 f2 hw) (λacc s3 h3=>Ay h3 (λcenv s4 h4=>?_) λ_ _ z=>z) λ_ _ z=>z;refine Cd h4 λr s5 h5=>?_;obtain⟨rfl,⟨m,hm⟩,v,H5,rv,I5,f5,q5⟩:=h5;obtain⟨f0,f1,f2',f3,f4,f6⟩:=f5;show wpAny _ X.A (assign (.Name x px) X.env acc) _ _ _;refine EO (Pp I5 hN hi' hx rv (λs6 I6 ch=>?_) hf);obtain⟨a,sb,ha⟩:=ch;have na:cenv.locals≠a:=by
  rcases ha with z | z
  · rw[z];exact f1
  · exact λy=>f4 x a z y.symm
 refine⟨m,hm.sameBut sb na,λh' sb'=>⟨_,H5,I6.turned (t':=s6.toks) (λb o hb e=>(sb'.2 b hb).trans e) f0 f1 f3 f4 f6,q5⟩⟩
end
end L2
set_option exponentiation.threshold 2000
namespace L2
def Q3(i j:Int):Prop:=0≤j∧j≤1000∧i.natAbs<2^1000
def Ur(i j:Int):Prop:=0<j∧j<2^1000
theorem L7:Iu X (binaryOp .Pow) (rI Q3 λi j=> .int (i^j.toNat)):=MR λi j _ _ _ _ _ hc q=>by
 obtain⟨h0,h1,h2⟩:=hc;refine pow_int h0 ?_ q;have hb:Eu i≤1000:=intBits_le h2;have e1:((Eu i:Nat):Int)*j≤1000*1000:=by have a1:((Eu i:Nat):Int)*j≤1000*j:=Int.mul_le_mul_of_nonneg_right (by omega) h0;have a2:1000*j≤1000*1000:=Int.mul_le_mul_of_nonneg_left h1 (by decide);exact Int.le_trans a1 a2
 exact Int.le_trans e1 (by decide)
theorem RI:Iu X (binaryOp .FloorDiv) (rI Ur λi j=> .int (i / j)):=MR λi j _ _ _ _ _ hc q=>by
 obtain⟨h0,h1⟩:=hc;refine floordiv_int (by omega) ?_ (.inl (PyProof.noPylong_of_log2 ?_))
 · rw[Int.fdiv_eq_ediv_of_nonneg _ (by omega)];exact q
 · have h2:j.natAbs<2^1000:=by
    have e:((j.natAbs:Nat):Int)=j:=by omega
    have h3:((j.natAbs:Nat):Int)<((2^1000:Nat):Int):=by rw[e,Int.natCast_pow];exact h1
    exact Int.ofNat_lt.mp h3
   have h4:j.natAbs≠0:=by omega
   have h5:=(Nat.log2_lt h4).mpr h2;omega
inductive PD where
 | non | bl (b:Bool) | int (i:Int) | str (x:Str) | lst (ds:List PD) | tup (ds:List PD)
mutual
def Rep(K:Ae)(H:Hp):PD→V→Prop
 | .non,v=>v= .non
 | .bl b,v=>v= .bl b
 | .int i,v=>v= .int i
 | .str x,v=>v= .str x
 | .lst ds,v=>∃a xs,v= .ref a∧SqL K H a xs∧Reps K H ds xs
 | .tup ds,v=>∃a xs,v= .ref a∧SqT K H a xs∧Reps K H ds xs
def Reps(K:Ae)(H:Hp):List PD→List V→Prop
 | [],xs=>xs=[]
 | d::ds,xs=>∃x r,xs=x::r∧Rep K H d x∧Reps K H ds r
end
mutual
def HX:PD→PD→Bool
 | .non,.non=>true
 | .bl a,.bl b=>a==b
 | .bl a,.int b=>(if a then 1 else 0)==b
 | .int a,.bl b=>a==(if b then 1 else 0)
 | .int a,.int b=>a==b
 | .str a,.str b=>a==b
 | .lst xs,.lst ys=>JI xs ys
 | .tup xs,.tup ys=>JI xs ys
 | _,_=>false
def JI:List PD→List PD→Bool
 | [],[]=>true
 | x::xs,y::ys=>HX x y && JI xs ys
 | _,_=>false
end
mutual
def IU:PD→Nat
 | .lst ds=>J_ ds+1
 | .tup ds=>J_ ds+1
 | _=>0
def J_:List PD→Nat
 | []=>0
 | d::ds=>max (IU d) (J_ ds)
end
mutual
theorem KH:∀d:PD,HX d d=true
 | .non=>rfl
 | .bl b=>by simp[HX]
 | .int i=>by simp[HX]
 | .str x=>by simp[HX]
 | .lst ds=>by rw[HX];exact NP ds
 | .tup ds=>by rw[HX];exact NP ds
theorem NP:∀ds:List PD,JI ds ds=true
 | []=>by rw[JI]
 | d::ds=>by rw[JI,KH d,NP ds];rfl
end
theorem Reps.length{K:Ae}:∀{ds:List PD}{xs:List V},Reps K H ds xs→xs.length=ds.length
 | [],xs,h=>by rw[Reps] at h;rw[h];rfl
 | d::ds,xs,h=>by rw[Reps] at h;obtain⟨x,r,rfl,_,h⟩:=h;rw[AF,AF,Reps.length h]
theorem Ln:∀{xs ys:List PD},xs.length≠ys.length→JI xs ys=false
 | [],[],h=>absurd rfl h
 | [],_::_,_=>by rw[JI];all_goals simp
 | _::_,[],_=>by rw[JI];all_goals simp
 | x::xs,y::ys,h=>by rw[JI,Ln (xs:=xs) (ys:=ys) (by simpa using h)];simp
def Lo(xs ys:List PD)(j:Nat):Bool:=match xs[j]?,ys[j]? with
 | some a,some b=>HX a b
 | _,_=>false
theorem LG:∀(xs ys:List PD),xs.length=ys.length→(BV xs.length).all (Lo xs ys)=JI xs ys
 | [],[],_=>by rw[JI];rfl
 | x::xs,y::ys,h=>by rw[JI,AF,FB,Dm,Fg];rw[←LG xs ys (by simpa using h)];rfl
theorem SqT.notL{K:Ae}{ys:List V}(I:Inv X pins σ H s)(h:SqT X.K H a xs)(h':SqL X.K H a ys):False:=by obtain⟨its,_,p,_⟩:=I.tuple h;obtain⟨its',_,p',_⟩:=I.list h';exact SeqAt.ne_of_list_tuple p'.isList (show s.heap.IsTuple a its.toArray from p) rfl
mutual
theorem OD(I:Inv X pins σ H s):∀(d e:PD)(v:V),Rep X.K H d v→Rep X.K H e v→d=e
 | .non,e,v,h,h'=>by rw[Rep] at h;subst h;cases e<;>rw[Rep] at h'<;>first | rfl | (obtain⟨_,_,z,_⟩:=h';cases z;done) | (cases h';done)
 | .bl b,e,v,h,h'=>by rw[Rep] at h;subst h;cases e<;>rw[Rep] at h'<;>first | (obtain⟨_,_,z,_⟩:=h';cases z;done) | (cases h';done) | (cases h';rfl)
 | .int i,e,v,h,h'=>by rw[Rep] at h;subst h;cases e<;>rw[Rep] at h'<;>first | (obtain⟨_,_,z,_⟩:=h';cases z;done) | (cases h';done) | (cases h';rfl)
 | .str x,e,v,h,h'=>by rw[Rep] at h;subst h;cases e<;>rw[Rep] at h'<;>first | (obtain⟨_,_,z,_⟩:=h';cases z;done) | (cases h';done) | (cases h';rfl)
 | .lst ds,e,v,h,h'=>by
  rw[Rep] at h;obtain⟨a,xs,rfl,q,r⟩:=h;cases e with
  | lst es=> rw[Rep] at h';obtain⟨a',ys,z,q',r'⟩:=h';cases z;have:=I.list_inj q q';subst this;rw[OR I ds es xs r r']
  | tup es=> rw[Rep] at h';obtain⟨a',ys,z,q',r'⟩:=h';cases z;exact(SqT.notL (K:=X.K) I q' q).elim
  | _=>rw[Rep] at h';cases h'
 | .tup ds,e,v,h,h'=>by
  rw[Rep] at h;obtain⟨a,xs,rfl,q,r⟩:=h;cases e with
  | tup es=> rw[Rep] at h';obtain⟨a',ys,z,q',r'⟩:=h';cases z;have:=I.tuple_inj q q';subst this;rw[OR I ds es xs r r']
  | lst es=> rw[Rep] at h';obtain⟨a',ys,z,q',r'⟩:=h';cases z;exact(SqT.notL (K:=X.K) I q q').elim
  | _=>rw[Rep] at h';cases h'
theorem OR(I:Inv X pins σ H s):∀(ds es:List PD)(vs:List V),Reps X.K H ds vs→Reps X.K H es vs→ds=es
 | [],es,vs,h,h'=>by
  rw[Reps] at h;subst h;cases es with
  | nil=>rfl
  | cons e es=>rw[Reps] at h';obtain⟨_,_,z,_⟩:=h';cases z
 | d::ds,es,vs,h,h'=>by
  rw[Reps] at h;obtain⟨x,r,rfl,h1,h2⟩:=h;cases es with
  | nil=>rw[Reps] at h';cases h'
  | cons e es=> rw[Reps] at h';obtain⟨x',r',z,h1',h2'⟩:=h';cases z;rw[OD I d e x h1 h1',OR I ds es r h2 h2']
end
mutual
theorem Md(I:Inv X pins σ H s):∀(A:Bu)(d e:PD)(v w:V)(u y:Value),Rep X.K H d v→Rep X.K H e w→RelV v u→RelV w y→A.units+IU d<cLine→DJ A s u y (HX d e)
 | A,.non,e,v,w,u,y,h,h',r,r',z=>by
  rw[Rep] at h;subst h;cases r;cases e with
  | non=>rw[Rep] at h';subst h';cases r';rw[HX];exact D8 _
  | bl b=>rw[Rep] at h';subst h';cases r';exact FU b
  | int b=>rw[Rep] at h';subst h';obtain⟨t,rfl⟩:=r';exact Gb b t
  | str b=>rw[Rep] at h';subst h';obtain⟨t,rfl⟩:=r';exact Gc b t
  | lst es=>rw[Rep] at h';obtain⟨a,xs,rfl,q,_⟩:=h';cases r';obtain⟨its,_,p,_⟩:=I.list q;exact SeqAt.EqAt.none_list p.isList (by omega)
  | tup es=>rw[Rep] at h';obtain⟨a,xs,rfl,q,_⟩:=h';cases r';obtain⟨its,_,p,_⟩:=I.tuple q;exact SeqAt.EqAt.none_tuple p (by omega)
 | A,.bl c,e,v,w,u,y,h,h',r,r',z=>by
  rw[Rep] at h;subst h;cases r;cases e with
  | non=>rw[Rep] at h';subst h';cases r';exact FV c
  | bl b=>rw[Rep] at h';subst h';cases r';exact FW c b
  | int b=>rw[Rep] at h';subst h';obtain⟨t,rfl⟩:=r';exact Gd c b t
  | str b=>rw[Rep] at h';subst h';obtain⟨t,rfl⟩:=r';exact Ge c b t
  | lst es=>rw[Rep] at h';obtain⟨a,xs,rfl,q,_⟩:=h';cases r';obtain⟨its,_,p,_⟩:=I.list q;exact SeqAt.EqAt.bool_list c p.isList (by omega)
  | tup es=>rw[Rep] at h';obtain⟨a,xs,rfl,q,_⟩:=h';cases r';obtain⟨its,_,p,_⟩:=I.tuple q;exact SeqAt.EqAt.bool_tuple c p (by omega)
 | A,.int c,e,v,w,u,y,h,h',r,r',z=>by
  rw[Rep] at h;subst h;obtain⟨tc,rfl⟩:=r;cases e with
  | non=>rw[Rep] at h';subst h';cases r';exact Gf c tc
  | bl b=>rw[Rep] at h';subst h';cases r';exact Gg c tc b
  | int b=>rw[Rep] at h';subst h';obtain⟨t,rfl⟩:=r';exact SeqAt.EqAt.int_int c tc b t
  | str b=>rw[Rep] at h';subst h';obtain⟨t,rfl⟩:=r';exact E5 c tc b t
  | lst es=>rw[Rep] at h';obtain⟨a,xs,rfl,q,_⟩:=h';cases r';obtain⟨its,_,p,_⟩:=I.list q;exact SeqAt.EqAt.int_list c tc p.isList (by omega)
  | tup es=>rw[Rep] at h';obtain⟨a,xs,rfl,q,_⟩:=h';cases r';obtain⟨its,_,p,_⟩:=I.tuple q;exact SeqAt.EqAt.int_tuple c tc p (by omega)
 | A,.str c,e,v,w,u,y,h,h',r,r',z=>by
  rw[Rep] at h;subst h;obtain⟨tc,rfl⟩:=r;cases e with
  | non=>rw[Rep] at h';subst h';cases r';exact Gh c tc
  | bl b=>rw[Rep] at h';subst h';cases r';exact Gi c tc b
  | int b=>rw[Rep] at h';subst h';obtain⟨t,rfl⟩:=r';exact E6 c tc b t
  | str b=>rw[Rep] at h';subst h';obtain⟨t,rfl⟩:=r';exact SeqAt.EqAt.str_str c tc b t
  | lst es=>rw[Rep] at h';obtain⟨a,xs,rfl,q,_⟩:=h';cases r';obtain⟨its,_,p,_⟩:=I.list q;exact SeqAt.EqAt.str_list c tc p.isList (by omega)
  | tup es=>rw[Rep] at h';obtain⟨a,xs,rfl,q,_⟩:=h';cases r';obtain⟨its,_,p,_⟩:=I.tuple q;exact SeqAt.EqAt.str_tuple c tc p (by omega)
 | A,.lst ds,e,v,w,u,y,h,h',r,r',z=>by
  have h0:=h;rw[Rep] at h;obtain⟨a,xs,rfl,q,qs⟩:=h;cases r;obtain⟨its,rv,p,_⟩:=I.list q;cases e with
  | non=>rw[Rep] at h';subst h';cases r';exact SeqAt.EqAt.list_none p.isList (by omega)
  | bl b=>rw[Rep] at h';subst h';cases r';exact SeqAt.EqAt.list_bool b p.isList (by omega)
  | int b=>rw[Rep] at h';subst h';obtain⟨t,rfl⟩:=r';exact SeqAt.EqAt.list_int b t p.isList (by omega)
  | str b=>rw[Rep] at h';subst h';obtain⟨t,rfl⟩:=r';exact SeqAt.EqAt.list_str b t p.isList (by omega)
  | tup es=>rw[Rep] at h';obtain⟨b,ys,rfl,q',_⟩:=h';cases r';obtain⟨its',_,p',_⟩:=I.tuple q';exact SeqAt.EqAt.list_tuple p.isList p' (by omega)
  | lst es=>
   have h0':=h';rw[Rep] at h';obtain⟨b,ys,rfl,q',qs'⟩:=h';cases r';obtain⟨its',rv',p',_⟩:=I.list q';by_cases hab:a=b
   · subst hab;rw[OD I _ _ _ h0 h0',KH];exact D8 _
   · refine SeqAt.EqAt.of_refs hab ?_;rw[HX];rw[IU] at z;have l1:=qs.length;have l2:=qs'.length;have l3:=rv.length;have l4:=rv'.length;by_cases hl:ds.length=es.length
     · rw[←LG ds es hl];have:=SeqAt.RcAt.lists (e:=Lo ds es) p.isList p'.isList (by simp;omega) (by omega) (λj h1 h2=>?_) (A:=A)
       · simp only[Au] at this;rw[show ds.length=its.length by omega];exact this
       · have:=LD I A.in1 ds es xs ys its its' qs qs' rv rv' (by rw[Bs];omega) j (by simpa using h1) (by simpa using h2);simpa using this
     · rw[Ln hl];exact DF p.isList p'.isList (by simp;omega) (by omega)
 | A,.tup ds,e,v,w,u,y,h,h',r,r',z=>by
  have h0:=h;rw[Rep] at h;obtain⟨a,xs,rfl,q,qs⟩:=h;cases r;obtain⟨its,rv,p,_⟩:=I.tuple q;cases e with
  | non=>rw[Rep] at h';subst h';cases r';exact SeqAt.EqAt.tuple_none p (by omega)
  | bl b=>rw[Rep] at h';subst h';cases r';exact SeqAt.EqAt.tuple_bool b p (by omega)
  | int b=>rw[Rep] at h';subst h';obtain⟨t,rfl⟩:=r';exact SeqAt.EqAt.tuple_int b t p (by omega)
  | str b=>rw[Rep] at h';subst h';obtain⟨t,rfl⟩:=r';exact SeqAt.EqAt.tuple_str b t p (by omega)
  | lst es=>rw[Rep] at h';obtain⟨b,ys,rfl,q',_⟩:=h';cases r';obtain⟨its',_,p',_⟩:=I.list q';exact SeqAt.EqAt.tuple_list p p'.isList (by omega)
  | tup es=>
   have h0':=h';rw[Rep] at h';obtain⟨b,ys,rfl,q',qs'⟩:=h';cases r';obtain⟨its',rv',p',_⟩:=I.tuple q';by_cases hab:a=b
   · subst hab;rw[OD I _ _ _ h0 h0',KH];exact D8 _
   · refine SeqAt.EqAt.of_refs hab ?_;rw[HX];rw[IU] at z;have l1:=qs.length;have l2:=qs'.length;have l3:=rv.length;have l4:=rv'.length;have:=SeqAt.RcAt.tuples (e:=Lo ds es) p p' (by omega) (λj h1 h2=>?_) (A:=A)
     · simp only[Au] at this;by_cases hl:ds.length=es.length
       · rw[←LG ds es hl];rw[show min its.length its'.length=ds.length by omega,show(its.length==its'.length)=true by simp;omega,Ec] at this;exact this
       · rw[Ln hl];rw[show(its.length==its'.length)=false by simp;omega,E1] at this;exact this
     · have:=LD I A.in1 ds es xs ys its its' qs qs' rv rv' (by rw[Bs];omega) j (by simpa using h1) (by simpa using h2);simpa using this
theorem LD(I:Inv X pins σ H s):∀(A:Bu)(ds es:List PD)(vs ws:List V)(us ys:List Value),Reps X.K H ds vs→Reps X.K H es ws→Vals vs us→Vals ws ys→A.units+J_ ds<cLine→
 ∀(j:Nat)(h1:j<us.length)(h2:j<ys.length),DJ A s us[j] ys[j] (Lo ds es j)
 | A,[],es,vs,ws,us,ys,h,h',r,r',z=>by rw[Reps] at h;subst h;cases r;intro j h1;exact absurd h1 (D9 _)
 | A,d::ds,es,vs,ws,us,ys,h,h',r,r',z=>by
  rw[Reps] at h;obtain⟨x,vr,rfl,g1,g2⟩:=h;cases es with
  | nil=> rw[Reps] at h';subst h';cases r';intro j h1 h2;exact absurd h2 (D9 _)
  | cons e es=>
   rw[Reps] at h';obtain⟨x',vr',rfl,g1',g2'⟩:=h';cases r with
   | cons ra rb=>
    cases r' with
    | cons ra' rb'=>
     rw[J_] at z;intro j h1 h2;cases j with
     | zero=>exact Md I A d e x x' _ _ g1 g1' ra ra' (by omega)
     | succ j=>exact LD I A ds es vr vr' _ _ g2 g2' rb rb' (by omega) j (by simpa using h1) (by simpa using h2)
end
section
variable{R:Result→Shared→Prop}{J:Addr}{fo wo:List Addr}{len:Nat}{At:Nat→Value→Prop}{Sx:Nat→Heap→Prop}
theorem WZ(kw:List (Str×Value))(Z:Walks prog w A.in1 J fo wo len At Sx)(bt:Nat→Nat→Bool)(cm:CmpOf prog w A.in1 .Gt At bt)(B:Addr)(nB:B ∉ fo):
 ∀(k j:Nat)(s:Shared)(best:Value)(c:Nat),len - (j+1)=k→j+1≤len→Sx (j+1) s.heap→At (argBest bt j) best→
 s.heap.get? B=some {cls:= .type "list",dict:=none,data:= .seq #[best,best] c,slots:=#[]}→
 (∀v g t',At (argBest bt (len - 1)) v→(∀b o,b ∉ wo→b≠B→s.heap.get? b=some o→g.get? b=some o)→R (.ok (.ret v)) {s with heap:=g,toks:=t'})→
 codeAny (model prog w) A (.builtin "max.loop" ⟨[.ref J,.none,.ref B],kw⟩) R s:=by
 have nW:B ∉ wo:=λz=>nB (Z.sub _ z);have nm:(toString "max"++toString ".loop":String)="max.loop":=by decide
 intro k
 induction k with
 | zero=>
  intro j s best c e0 e1 sx ab eB fin;have last:j+1=len:=by omega
  refine Be Fh ?_;rw[AO CJ _];show wpAny _ _ (seqItems? (.ref B)>>=_) _ _ _;refine Aa (Bd eB rfl ?_);show wpAny _ _ (tryCatch (pyNext (.ref J)) _>>=_) _ _ _;refine Aa (Cf (Z.done s _ _ (last ▸ sx) λg t' kp=>?_));have eB':=kp B _ nW eB;show wpAny _ _ (updateSeq B (λ_=>#[])>>=_) _ _ _;refine Aa ?_;refine BZ eB' rfl (Aa (Ce (Ac ?_)));exact fin best _ t' (by rw[←last];exact ab) λb o h1 h2 e=>(AS _ _ (BK h2)).trans (kp b o h1 e)
 | succ k ih=>
  intro j s best c e0 e1 sx ab eB fin;have more:j+1<len:=by omega
  refine Be Fh ?_;rw[AO CJ _];show wpAny _ _ (seqItems? (.ref B)>>=_) _ _ _;refine Aa (Bd eB rfl ?_);show wpAny _ _ (tryCatch (pyNext (.ref J)) _>>=_) _ _ _;refine Aa (Cf (Z.item (j+1) s _ _ more sx λv g t' av sx' kp=>?_));have eB':=kp B _ nW eB;show wpAny _ _ (tryCatch (holding [v,v] (richCompare .Gt v best>>=_)) _>>=_) _ _ _;refine Aa (Cf (AT (Aa (cm (j+1) (argBest bt j) v best _ _ _ av ab ?_))));refine Aa (AT (Bp ?_));refine Aa (Ce (Ac ?_));cases hb:bt (j+1) (argBest bt j) with
  | true=>
   simp only[if_true];refine Aa ?_;refine BZ eB' rfl (Aa (Ce ?_));rw[nm];refine Ac ⟨Bi CJ _,ih (j+1) _ v _ (by omega) more (Z.frame _ _ _ sx' λb h1 o e=>?_) (by simp only[argBest,hb,if_true];exact av) (Bh _ eB' rfl)
    λv' g' t'' av' kp'=>?_⟩
   · exact(AS _ _ (λz:B=b=>nB (by rw[z];exact h1))).trans e
   · exact fin v' g' t'' av' λb o h1 h2 e=>kp' b o h1 h2 ((AS _ _ (BK h2)).trans (kp b o h1 e))
  | false=> simp only[By,if_false];refine Aa (Ce ?_);rw[nm];refine Ac ⟨Bi CJ _,ih (j+1) _ best c (by omega) more sx' (by simp only[argBest,hb,By,if_false];exact ab) eB' λv' g' t'' av' kp'=>?_⟩;exact fin v' g' t'' av' λb o h1 h2 e=>kp' b o h1 h2 (kp b o h1 e)
theorem XH(d:Value)(Z:Walks prog w A.in1 J fo wo len At Sx)(bt:Nat→Nat→Bool)(cm:CmpOf prog w A.in1 .Gt At bt)(B:Addr)(nB:B ∉ fo){c:Nat}(sx:Sx 0 s.heap)
 (eB:s.heap.get? B=some {cls:= .type "list",dict:=none,data:= .seq #[] c,slots:=#[]})
 (fin:∀v g t',(len=0→v=d)→(0<len→At (argBest bt (len - 1)) v)→(∀b o,b ∉ wo→b≠B→s.heap.get? b=some o→g.get? b=some o)→R (.ok (.ret v)) {s with heap:=g,toks:=t'}):
 codeAny (model prog w) A (.builtin "max.loop" ⟨[.ref J,.none,.ref B],[("default",d)]⟩) R s:=by
 have nW:B ∉ wo:=λz=>nB (Z.sub _ z);have nm:(toString "max"++toString ".loop":String)="max.loop":=by decide
 refine Be Fh ?_;rw[AO CJ _];show wpAny _ _ (seqItems? (.ref B)>>=_) _ _ _;refine Aa (Bd eB rfl ?_);show wpAny _ _ (tryCatch (pyNext (.ref J)) _>>=_) _ _ _;by_cases hl:len=0
 · refine Aa (Cf (Z.done s _ _ (hl ▸ sx) λg t' kp=>?_));refine Aa (BI (Ac ?_));exact fin d g t' (λ_=>rfl) (λz=>by omega) λb o h1 _ e=>kp b o h1 e
 · refine Aa (Cf (Z.item 0 s _ _ (by omega) sx λv g t' av sx' kp=>?_));have eB':=kp B _ nW eB;show wpAny _ _ (updateSeq B (λ_=>#[v,v])>>=_) _ _ _;refine Aa ?_;refine BZ eB' rfl ?_;rw[nm];refine Ac ⟨Bi CJ _,WZ [("default",d)] Z bt cm B nB _ 0 _ v _ rfl (by omega) (Z.frame _ _ _ sx' λb h1 o e=>?_) av (Bh _ eB' rfl) λv' g' t'' av' kp'=>?_⟩
   · exact(AS _ _ (λz:B=b=>nB (by rw[z];exact h1))).trans e
   · exact fin v' g' t'' (λz=>by omega) (λ_=>av') λb o h1 h2 e=>kp' b o h1 h2 ((AS _ _ (BK h2)).trans (kp b o h1 e))
theorem XG(a d:Value):argsOk "max" ⟨[a],[("default",d)]⟩:=by unfold argsOk;kernel_rfl
theorem Yd{E:Value→Shared→Prop}{its:Array Value}{d:Value}{Q:Value→Shared→Prop}(hh:A.handled=none)(hl:s.heap.IsList a its)(bt:Nat→Nat→Bool)
 (cm:CmpOf prog w A.in1 .Gt (λi v=>its[i]?=some v) bt)
 (fin:∀v g t',(its.size=0→v=d)→(0<its.size→its[argBest bt (its.size - 1)]?=some v)→(∀b o,s.heap.get? b=some o→g.get? b=some o)→Q v {s with heap:=g,toks:=t'}):
 wpAny (model prog w) A (call (.builtin "max") [.ref a] [("default",d)]) Q E s:=by
 have nm:(toString "max"++toString ".loop":String)="max.loop":=by decide
 refine Ek (Da F.plain_max F.entry_max ?_);have body:wpAny (model prog w) A.in1 (Builtin.«max» ⟨[.ref a],[("default",d)]⟩) (λfin s'=>match fin with
  | .done f=>(match(Except.ok f:Result) with | .ok (.ret v)=>Q v s' | .ok _=>False | .error e=>E e s')
  | .again c'=>c'.quiet=true∧codeAny (model prog w) A c' (λr s'=>match r with | .ok (.ret v)=>Q v s' | .ok _=>False | .error e=>E e s') s') E s:=by
  show wpAny _ A.in1 (CP "max" ["key","default"] 0 ⟨[],[("default",d)]⟩>>=_) _ _ s;refine Aa (D3 (show CP "max" ["key","default"] 0 ⟨[],[("default",d)]⟩=pure [none,some d] from rfl) ?_);refine Aa (Ac ?_);refine Aa (DN hl ?_);refine Aa (AW ?_);rw[nm];obtain⟨o,ho,_⟩:=id hl;have lt:=Ao ho;have sz:(s.heap.push {cls:= .type "list_iterator",data:= .fields #[.ref a,.int 0 0]}).objs.size=s.heap.objs.size+1:=BA _ _;have kp:∀b o',s.heap.get? b=some o'→((s.heap.push {cls:= .type "list_iterator",data:= .fields #[.ref a,.int 0 0]}).push {cls:= .type "list",dict:=none,data:= .seq ([]:List Value).toArray}).get? b=some o':=
   λb o' e=>Ad _ (Ad _ e)
  refine Ac ⟨Bi CJ _,XH d (Walks.list (A:=A.in1) hh s.heap.objs.size a (Ar lt) its) bt cm _ ?_
   ⟨⟨_,Ad _ (An _ rfl),rfl,rfl⟩,hl.at λo' e=>kp a o' e⟩ (An _ rfl) λv g t' h1 h2 h3=>?_⟩
  · show(s.heap.push _).objs.size ∉ [s.heap.objs.size,a];rw[sz];intro z;rcases As.mp z with z | z
    · exact Nat.succ_ne_self _ z
    · have z':=Af.mp z;rw[←z'] at lt;exact absurd lt (Nat.not_lt.mpr (CN _))
  · refine fin v g t' h1 h2 λb o' e=>h3 b o' ?_ ?_ (kp b o' e)
    · intro z;exact absurd (Af.mp z) (Ar (Ao e))
    · have:=Ao e;show b≠(s.heap.push _).objs.size;rw[sz];exact Ar (CY this)
 simp only[checkBuiltinCall,F.kind_max];cases hsig:Gk "max" with
 | none=>exact Ac body
 | some sig=>
  have ha':Bind.checkArgs "max" sig ⟨[.ref a],[("default",d)]⟩=pure ():=by have:=XG (.ref a) d;simpa only[argsOk,hsig] using this
  simp only[ha'];exact Ac body
end
section
variable{R:Result→Shared→Prop}{J:Addr}{fo wo:List Addr}{len:Nat}{At:Nat→Value→Prop}{Sx:Nat→Heap→Prop}
theorem W_(kw:List (Str×Value))(Z:Walks prog w A.in1 J fo wo len At Sx)(bt:Nat→Nat→Bool)(cm:CmpOf prog w A.in1 .Lt At bt)(B:Addr)(nB:B ∉ fo):
 ∀(k j:Nat)(s:Shared)(best:Value)(c:Nat),len - (j+1)=k→j+1≤len→Sx (j+1) s.heap→At (argBest bt j) best→
 s.heap.get? B=some {cls:= .type "list",dict:=none,data:= .seq #[best,best] c,slots:=#[]}→
 (∀v g t',At (argBest bt (len - 1)) v→(∀b o,b ∉ wo→b≠B→s.heap.get? b=some o→g.get? b=some o)→R (.ok (.ret v)) {s with heap:=g,toks:=t'})→
 codeAny (model prog w) A (.builtin "min.loop" ⟨[.ref J,.none,.ref B],kw⟩) R s:=by
 have nW:B ∉ wo:=λz=>nB (Z.sub _ z);have nm:(toString "min"++toString ".loop":String)="min.loop":=by decide
 intro k
 induction k with
 | zero=>
  intro j s best c e0 e1 sx ab eB fin;have last:j+1=len:=by omega
  refine Be Fi ?_;rw[AO CK _];show wpAny _ _ (seqItems? (.ref B)>>=_) _ _ _;refine Aa (Bd eB rfl ?_);show wpAny _ _ (tryCatch (pyNext (.ref J)) _>>=_) _ _ _;refine Aa (Cf (Z.done s _ _ (last ▸ sx) λg t' kp=>?_));have eB':=kp B _ nW eB;show wpAny _ _ (updateSeq B (λ_=>#[])>>=_) _ _ _;refine Aa ?_;refine BZ eB' rfl (Aa (Ce (Ac ?_)));exact fin best _ t' (by rw[←last];exact ab) λb o h1 h2 e=>(AS _ _ (BK h2)).trans (kp b o h1 e)
 | succ k ih=>
  intro j s best c e0 e1 sx ab eB fin;have more:j+1<len:=by omega
  refine Be Fi ?_;rw[AO CK _];show wpAny _ _ (seqItems? (.ref B)>>=_) _ _ _;refine Aa (Bd eB rfl ?_);show wpAny _ _ (tryCatch (pyNext (.ref J)) _>>=_) _ _ _;refine Aa (Cf (Z.item (j+1) s _ _ more sx λv g t' av sx' kp=>?_));have eB':=kp B _ nW eB;show wpAny _ _ (tryCatch (holding [v,v] (richCompare .Lt v best>>=_)) _>>=_) _ _ _;refine Aa (Cf (AT (Aa (cm (j+1) (argBest bt j) v best _ _ _ av ab ?_))));refine Aa (AT (Bp ?_));refine Aa (Ce (Ac ?_));cases hb:bt (j+1) (argBest bt j) with
  | true=>
   simp only[if_true];refine Aa ?_;refine BZ eB' rfl (Aa (Ce ?_));rw[nm];refine Ac ⟨Bi CK _,ih (j+1) _ v _ (by omega) more (Z.frame _ _ _ sx' λb h1 o e=>?_) (by simp only[argBest,hb,if_true];exact av) (Bh _ eB' rfl)
    λv' g' t'' av' kp'=>?_⟩
   · exact(AS _ _ (λz:B=b=>nB (by rw[z];exact h1))).trans e
   · exact fin v' g' t'' av' λb o h1 h2 e=>kp' b o h1 h2 ((AS _ _ (BK h2)).trans (kp b o h1 e))
  | false=> simp only[By,if_false];refine Aa (Ce ?_);rw[nm];refine Ac ⟨Bi CK _,ih (j+1) _ best c (by omega) more sx' (by simp only[argBest,hb,By,if_false];exact ab) eB' λv' g' t'' av' kp'=>?_⟩;exact fin v' g' t'' av' λb o h1 h2 e=>kp' b o h1 h2 (kp b o h1 e)
theorem XM(d:Value)(Z:Walks prog w A.in1 J fo wo len At Sx)(bt:Nat→Nat→Bool)(cm:CmpOf prog w A.in1 .Lt At bt)(B:Addr)(nB:B ∉ fo){c:Nat}(sx:Sx 0 s.heap)
 (eB:s.heap.get? B=some {cls:= .type "list",dict:=none,data:= .seq #[] c,slots:=#[]})
 (fin:∀v g t',(len=0→v=d)→(0<len→At (argBest bt (len - 1)) v)→(∀b o,b ∉ wo→b≠B→s.heap.get? b=some o→g.get? b=some o)→R (.ok (.ret v)) {s with heap:=g,toks:=t'}):
 codeAny (model prog w) A (.builtin "min.loop" ⟨[.ref J,.none,.ref B],[("default",d)]⟩) R s:=by
 have nW:B ∉ wo:=λz=>nB (Z.sub _ z);have nm:(toString "min"++toString ".loop":String)="min.loop":=by decide
 refine Be Fi ?_;rw[AO CK _];show wpAny _ _ (seqItems? (.ref B)>>=_) _ _ _;refine Aa (Bd eB rfl ?_);show wpAny _ _ (tryCatch (pyNext (.ref J)) _>>=_) _ _ _;by_cases hl:len=0
 · refine Aa (Cf (Z.done s _ _ (hl ▸ sx) λg t' kp=>?_));refine Aa (BI (Ac ?_));exact fin d g t' (λ_=>rfl) (λz=>by omega) λb o h1 _ e=>kp b o h1 e
 · refine Aa (Cf (Z.item 0 s _ _ (by omega) sx λv g t' av sx' kp=>?_));have eB':=kp B _ nW eB;show wpAny _ _ (updateSeq B (λ_=>#[v,v])>>=_) _ _ _;refine Aa ?_;refine BZ eB' rfl ?_;rw[nm];refine Ac ⟨Bi CK _,W_ [("default",d)] Z bt cm B nB _ 0 _ v _ rfl (by omega) (Z.frame _ _ _ sx' λb h1 o e=>?_) av (Bh _ eB' rfl) λv' g' t'' av' kp'=>?_⟩
   · exact(AS _ _ (λz:B=b=>nB (by rw[z];exact h1))).trans e
   · exact fin v' g' t'' (λz=>by omega) (λ_=>av') λb o h1 h2 e=>kp' b o h1 h2 ((AS _ _ (BK h2)).trans (kp b o h1 e))
theorem XJ(a d:Value):argsOk "min" ⟨[a],[("default",d)]⟩:=by unfold argsOk;kernel_rfl
theorem Ye{E:Value→Shared→Prop}{its:Array Value}{d:Value}{Q:Value→Shared→Prop}(hh:A.handled=none)(hl:s.heap.IsList a its)(bt:Nat→Nat→Bool)
 (cm:CmpOf prog w A.in1 .Lt (λi v=>its[i]?=some v) bt)
 (fin:∀v g t',(its.size=0→v=d)→(0<its.size→its[argBest bt (its.size - 1)]?=some v)→(∀b o,s.heap.get? b=some o→g.get? b=some o)→Q v {s with heap:=g,toks:=t'}):
 wpAny (model prog w) A (call (.builtin "min") [.ref a] [("default",d)]) Q E s:=by
 have nm:(toString "min"++toString ".loop":String)="min.loop":=by decide
 refine Ek (Da F.plain_min F.entry_min ?_);have body:wpAny (model prog w) A.in1 (Builtin.«min» ⟨[.ref a],[("default",d)]⟩) (λfin s'=>match fin with
  | .done f=>(match(Except.ok f:Result) with | .ok (.ret v)=>Q v s' | .ok _=>False | .error e=>E e s')
  | .again c'=>c'.quiet=true∧codeAny (model prog w) A c' (λr s'=>match r with | .ok (.ret v)=>Q v s' | .ok _=>False | .error e=>E e s') s') E s:=by
  show wpAny _ A.in1 (CP "min" ["key","default"] 0 ⟨[],[("default",d)]⟩>>=_) _ _ s;refine Aa (D3 (show CP "min" ["key","default"] 0 ⟨[],[("default",d)]⟩=pure [none,some d] from rfl) ?_);refine Aa (Ac ?_);refine Aa (DN hl ?_);refine Aa (AW ?_);rw[nm];obtain⟨o,ho,_⟩:=id hl;have lt:=Ao ho;have sz:(s.heap.push {cls:= .type "list_iterator",data:= .fields #[.ref a,.int 0 0]}).objs.size=s.heap.objs.size+1:=BA _ _;have kp:∀b o',s.heap.get? b=some o'→((s.heap.push {cls:= .type "list_iterator",data:= .fields #[.ref a,.int 0 0]}).push {cls:= .type "list",dict:=none,data:= .seq ([]:List Value).toArray}).get? b=some o':=
   λb o' e=>Ad _ (Ad _ e)
  refine Ac ⟨Bi CK _,XM d (Walks.list (A:=A.in1) hh s.heap.objs.size a (Ar lt) its) bt cm _ ?_
   ⟨⟨_,Ad _ (An _ rfl),rfl,rfl⟩,hl.at λo' e=>kp a o' e⟩ (An _ rfl) λv g t' h1 h2 h3=>?_⟩
  · show(s.heap.push _).objs.size ∉ [s.heap.objs.size,a];rw[sz];intro z;rcases As.mp z with z | z
    · exact Nat.succ_ne_self _ z
    · have z':=Af.mp z;rw[←z'] at lt;exact absurd lt (Nat.not_lt.mpr (CN _))
  · refine fin v g t' h1 h2 λb o' e=>h3 b o' ?_ ?_ (kp b o' e)
    · intro z;exact absurd (Af.mp z) (Ar (Ao e))
    · have:=Ao e;show b≠(s.heap.push _).objs.size;rw[sz];exact Ar (CY this)
 simp only[checkBuiltinCall,F.kind_min];cases hsig:Gk "min" with
 | none=>exact Ac body
 | some sig=>
  have ha':Bind.checkArgs "min" sig ⟨[.ref a],[("default",d)]⟩=pure ():=by have:=XJ (.ref a) d;simpa only[argsOk,hsig] using this
  simp only[ha'];exact Ac body
end
def LY(lt:Int→Int→Bool):Int→List Int→Int
 | b,[]=>b
 | b,x::r=>LY lt (if lt x b then x else b) r
theorem T9(lt:Int→Int→Bool)(ns:List Int)(d0:Int):∀k,k<ns.length→
 ns.getD (argBest (λi j=>lt (ns.getD i d0) (ns.getD j d0)) k) d0=LY lt (ns.getD 0 d0) ((ns.drop 1).take k)∧argBest (λi j=>lt (ns.getD i d0) (ns.getD j d0)) k<ns.length:=by
 have snoc:∀(l:List Int)(b x:Int),LY lt b (l++[x])=if lt x (LY lt b l) then x else LY lt b l:=by
  intro l
  induction l with
  | nil=>intro b x;rfl
  | cons y r ih=>intro b x;exact ih _ x
 intro k
 induction k with
 | zero=>intro h;exact⟨rfl,h⟩
 | succ k ih=>
  intro h;obtain⟨i1,i2⟩:=ih (by omega);have e:(ns.drop 1).take (k+1)=(ns.drop 1).take k++[ns.getD (k+1) d0]:=by
   rw[List.take_succ,List.getElem?_drop,Ak (by omega)];have:(1+k)=k+1:=by omega
   simp[this,AM,Ak h]
  rw[e,snoc,←i1];show ns.getD (if lt (ns.getD (k+1) d0) (ns.getD (argBest _ k) d0)=true then k+1 else argBest _ k) d0=_∧(if lt (ns.getD (k+1) d0) (ns.getD (argBest _ k) d0)=true then k+1 else argBest _ k)<_
  by_cases hb:lt (ns.getD (k+1) d0) (ns.getD (argBest (λi j=>lt (ns.getD i d0) (ns.getD j d0)) k) d0)=true
  · rw[if_pos hb,if_pos hb];exact⟨rfl,h⟩
  · rw[if_neg hb,if_neg hb];exact⟨rfl,i2⟩
def No(lt:Int→Int→Bool)(ns:List Int)(d:V):V:=match ns with
 | []=>d
 | x::r=> .int (LY lt x r)
theorem Mh{ns:List Int}{its:List Value}(r:Vals (ns.map V.int) its){v:Value}(h:its.toArray[i]?=some v):∃t,v=Value.int (ns.getD i 0) t:=by
 have hi:its[i]?=some v:=by simpa using h
 have hl:i<its.length:=(Al.mp hi).1;have ll:=r.length;rw[Ab] at ll;have e:(ns.map V.int)[i]?=some (.int (ns.getD i 0)):=by rw[Ai,Ak (by omega),AM,Ak (by omega)];rfl
 obtain⟨u,h1,h2⟩:=Vals.get r e;rw[hi] at h1;cases h1;exact h2
def Mx(X:Cx)(f:Value)(ks:List Str)(r:List V→List V→Hp→VK→Prop):Prop:=
 ∀(pins:List (Addr×Obj))(s:Shared)(σ:St)(H:Hp)(xs zs:List V)(us ws:List Value)(Q:VK),Inv X pins σ H s→Vals xs us→Vals zs ws→r xs zs H Q→wpAny (model X.prog X.w) X.A (call f us (ks.zip ws)) (EP X pins σ Q) X.xe s
def MK(r:List V→List V→Hp→VK→Prop)(t tk:TA):TE:=λσ H Q=>t σ H λvs H1=>tk σ H1 λzs H2=>r vs zs H2 Q
theorem O_{id:String}{ks:List Str}{r:List V→List V→Hp→VK→Prop}{es:List Expr}{kws:List Keyword}{t tk:TA}{p pos:Pos}(hc:Mx X (.builtin id) ks r)(hg:Gl X x)(hm:X.mg x=none)(hv:Bf x=some (.builtin id))(ha:PA X (e::es) t)(hkw:PK X kws tk)
 (hks:(backToKw pos (keywordEach kws X.env)).filterMap (·.1)=ks:=by rfl) (hn:x≠"__name__":=by decide) (hdb:(x==("__debug__":Str))=false:=by decide)
 (he:backTo pos (AR (e::es) X.env)=(false,eval e X.env)::backTo pos (AR es X.env):=by rfl) (hpl:(backTo pos (AR (e::es) X.env)).any (·.1)=false:=by rfl)
 (hall:(backToKw pos (keywordEach kws X.env)).all (·.1.isSome)=true:=by rfl) (hkn:(backToKw pos (keywordEach kws X.env)).any (·.1.isNone)=false:=by rfl):
 PE X (.Call (.Name x p) (e::es) kws pos) (MK r t tk):=by
 intro pins s σ H Q I h;refine C9 (Lg I hg hm hv ?_ hn hdb);refine callWith_kw (Hx (ha pos pins s σ H _ I h) λus s1 ⟨vs,H1,I1,r1,q1⟩=>?_) he hpl hall hkn;refine Hx (hkw pos pins s1 σ H1 _ I1 q1) λws s2 ⟨zs,H2,I2,r2,q2⟩=>?_;rw[hks];exact hc pins s2 σ H2 vs zs us ws Q I2 r1 r2 q2
theorem VG(hc:X.calm=true):Mx X (.builtin "max") ["default"] (λxs zs H Q=>∃a ns d,xs=[.ref a]∧zs=[d]∧SqL X.K H a (ns.map V.int)∧Q (No (λi j=>decide (j<i)) ns d) H):=by
 intro pins s σ H xs zs us ws Q I r1 r2 h;obtain⟨a,ns,d,rfl,rfl,hq,q⟩:=h;obtain⟨u,rfl,ru⟩:=Jx r1;obtain⟨z,rfl,rz⟩:=Jx r2;cases ru;obtain⟨its,rv,p,_⟩:=I.list hq;have ll:=rv.length;rw[Ab] at ll;refine Yd (I.ok.hd hc) p.isList (λi j=>decide (ns.getD j 0<ns.getD i 0)) (λi j vi vj s' Q' E' hi hj q'=>?_) λv g t' h1 h2 h3=>?_
 · obtain⟨t1,rfl⟩:=Mh rv hi;obtain⟨t2,rfl⟩:=Mh rv hj;exact gt_int q'
 · refine⟨_,H,I.kept h3,?_,q⟩;cases ns with
   | nil=>
    have e:its.toArray.size=0:=by simp;simpa using ll.symm
    rw[h1 e];exact rz
   | cons x rr=>
    simp only[AF] at ll;have e:0<its.toArray.size:=by simp;omega
    have hv:=h2 e;obtain⟨t,rfl⟩:=Mh rv hv;have ee:its.toArray.size - 1=rr.length:=by simp;omega
    rw[ee];have:=(T9 (λi j=>decide (j<i)) (x::rr) 0 rr.length (by simp)).1;have e2:((x::rr).drop 1).take rr.length=rr:=by simp
    rw[e2] at this;refine⟨t,?_⟩;rw[this];rfl
theorem VI(hc:X.calm=true):Mx X (.builtin "min") ["default"] (λxs zs H Q=>∃a ns d,xs=[.ref a]∧zs=[d]∧SqL X.K H a (ns.map V.int)∧Q (No (λi j=>decide (i<j)) ns d) H):=by
 intro pins s σ H xs zs us ws Q I r1 r2 h;obtain⟨a,ns,d,rfl,rfl,hq,q⟩:=h;obtain⟨u,rfl,ru⟩:=Jx r1;obtain⟨z,rfl,rz⟩:=Jx r2;cases ru;obtain⟨its,rv,p,_⟩:=I.list hq;have ll:=rv.length;rw[Ab] at ll;refine Ye (I.ok.hd hc) p.isList (λi j=>decide (ns.getD i 0<ns.getD j 0)) (λi j vi vj s' Q' E' hi hj q'=>?_) λv g t' h1 h2 h3=>?_
 · obtain⟨t1,rfl⟩:=Mh rv hi;obtain⟨t2,rfl⟩:=Mh rv hj;exact lt_int q'
 · refine⟨_,H,I.kept h3,?_,q⟩;cases ns with
   | nil=>
    have e:its.toArray.size=0:=by simp;simpa using ll.symm
    rw[h1 e];exact rz
   | cons x rr=>
    simp only[AF] at ll;have e:0<its.toArray.size:=by simp;omega
    have hv:=h2 e;obtain⟨t,rfl⟩:=Mh rv hv;have ee:its.toArray.size - 1=rr.length:=by simp;omega
    rw[ee];have:=(T9 (λi j=>decide (i<j)) (x::rr) 0 rr.length (by simp)).1;have e2:((x::rr).drop 1).take rr.length=rr:=by simp
    rw[e2] at this;refine⟨t,?_⟩;rw[this];rfl
theorem NC(I:Inv X pins σ H s)(A:Bu)(d e:PD)(v w:V)(u y:Value)(h:Rep X.K H d v)(h':Rep X.K H e w)(r:RelV v u)(r':RelV w y)(z:A.units+IU d<cLine):SeqAt.RcAt A s u y (HX d e):=by
 cases d with
 | non=>
  rw[Rep] at h;subst h;cases r;cases e with
  | non=> rw[Rep] at h';subst h';cases r';rw[HX];exact SeqAt.RcAt.none_none
  | bl b=> rw[Rep] at h';subst h';cases r';exact SeqAt.RcAt.none_bool b
  | int b=> rw[Rep] at h';subst h';obtain⟨t,rfl⟩:=r';exact SeqAt.RcAt.none_int b t
  | str b=> rw[Rep] at h';subst h';obtain⟨t,rfl⟩:=r';exact SeqAt.RcAt.none_str b t
  | lst es=> rw[Rep] at h';obtain⟨b,ys,rfl,q',qs'⟩:=h';cases r';obtain⟨its',rv',p',_⟩:=I.list q';exact SeqAt.RcAt.none_list p'.isList (by omega)
  | tup es=> rw[Rep] at h';obtain⟨b,ys,rfl,q',qs'⟩:=h';cases r';obtain⟨its',rv',p',_⟩:=I.tuple q';exact SeqAt.RcAt.none_tuple p' (by omega)
 | bl c=>
  rw[Rep] at h;subst h;cases r;cases e with
  | non=> rw[Rep] at h';subst h';cases r';exact SeqAt.RcAt.bool_none c
  | bl b=> rw[Rep] at h';subst h';cases r';exact SeqAt.RcAt.bool_bool c b
  | int b=> rw[Rep] at h';subst h';obtain⟨t,rfl⟩:=r';exact SeqAt.RcAt.bool_int c b t
  | str b=> rw[Rep] at h';subst h';obtain⟨t,rfl⟩:=r';exact SeqAt.RcAt.bool_str c b t
  | lst es=> rw[Rep] at h';obtain⟨b,ys,rfl,q',qs'⟩:=h';cases r';obtain⟨its',rv',p',_⟩:=I.list q';exact SeqAt.RcAt.bool_list c p'.isList (by omega)
  | tup es=> rw[Rep] at h';obtain⟨b,ys,rfl,q',qs'⟩:=h';cases r';obtain⟨its',rv',p',_⟩:=I.tuple q';exact SeqAt.RcAt.bool_tuple c p' (by omega)
 | int c=>
  rw[Rep] at h;subst h;obtain⟨tc,rfl⟩:=r;cases e with
  | non=> rw[Rep] at h';subst h';cases r';exact SeqAt.RcAt.int_none c tc
  | bl b=> rw[Rep] at h';subst h';cases r';exact SeqAt.RcAt.int_bool c tc b
  | int b=> rw[Rep] at h';subst h';obtain⟨t,rfl⟩:=r';exact SeqAt.RcAt.int_int c tc b t
  | str b=> rw[Rep] at h';subst h';obtain⟨t,rfl⟩:=r';exact SeqAt.RcAt.int_str c tc b t
  | lst es=> rw[Rep] at h';obtain⟨b,ys,rfl,q',qs'⟩:=h';cases r';obtain⟨its',rv',p',_⟩:=I.list q';exact SeqAt.RcAt.int_list c tc p'.isList (by omega)
  | tup es=> rw[Rep] at h';obtain⟨b,ys,rfl,q',qs'⟩:=h';cases r';obtain⟨its',rv',p',_⟩:=I.tuple q';exact SeqAt.RcAt.int_tuple c tc p' (by omega)
 | str c=>
  rw[Rep] at h;subst h;obtain⟨tc,rfl⟩:=r;cases e with
  | non=> rw[Rep] at h';subst h';cases r';exact SeqAt.RcAt.str_none c tc
  | bl b=> rw[Rep] at h';subst h';cases r';exact SeqAt.RcAt.str_bool c tc b
  | int b=> rw[Rep] at h';subst h';obtain⟨t,rfl⟩:=r';exact SeqAt.RcAt.str_int c tc b t
  | str b=> rw[Rep] at h';subst h';obtain⟨t,rfl⟩:=r';exact SeqAt.RcAt.str_str c tc b t
  | lst es=> rw[Rep] at h';obtain⟨b,ys,rfl,q',qs'⟩:=h';cases r';obtain⟨its',rv',p',_⟩:=I.list q';exact SeqAt.RcAt.str_list c tc p'.isList (by omega)
  | tup es=> rw[Rep] at h';obtain⟨b,ys,rfl,q',qs'⟩:=h';cases r';obtain⟨its',rv',p',_⟩:=I.tuple q';exact SeqAt.RcAt.str_tuple c tc p' (by omega)
 | lst ds=>
  rw[Rep] at h;obtain⟨a,xs,rfl,q,qs⟩:=h;cases r;obtain⟨its,rv,p,_⟩:=I.list q;cases e with
  | non=> rw[Rep] at h';subst h';cases r';exact SeqAt.RcAt.list_none p.isList (by omega)
  | bl b=> rw[Rep] at h';subst h';cases r';exact SeqAt.RcAt.list_bool b p.isList (by omega)
  | int b=> rw[Rep] at h';subst h';obtain⟨t,rfl⟩:=r';exact SeqAt.RcAt.list_int b t p.isList (by omega)
  | str b=> rw[Rep] at h';subst h';obtain⟨t,rfl⟩:=r';exact SeqAt.RcAt.list_str b t p.isList (by omega)
  | lst es=>
   rw[Rep] at h';obtain⟨b,ys,rfl,q',qs'⟩:=h';cases r';obtain⟨its',rv',p',_⟩:=I.list q';rw[HX];rw[IU] at z;have l1:=qs.length;have l2:=qs'.length;have l3:=rv.length;have l4:=rv'.length;by_cases hl:ds.length=es.length
   · rw[←LG ds es hl];have:=SeqAt.RcAt.lists (e:=Lo ds es) p.isList p'.isList (by simp;omega) (by omega) (λj h1 h2=>?_) (A:=A)
     · simp only[Au] at this;rw[show ds.length=its.length by omega];exact this
     · have:=LD I A.in1 ds es xs ys its its' qs qs' rv rv' (by rw[Bs];omega) j (by simpa using h1) (by simpa using h2);simpa using this
   · rw[Ln hl];exact DF p.isList p'.isList (by simp;omega) (by omega)
  | tup es=> rw[Rep] at h';obtain⟨b,ys,rfl,q',qs'⟩:=h';cases r';obtain⟨its',rv',p',_⟩:=I.tuple q';exact SeqAt.RcAt.list_tuple p.isList p' (by omega)
 | tup ds=>
  rw[Rep] at h;obtain⟨a,xs,rfl,q,qs⟩:=h;cases r;obtain⟨its,rv,p,_⟩:=I.tuple q;cases e with
  | non=> rw[Rep] at h';subst h';cases r';exact SeqAt.RcAt.tuple_none p (by omega)
  | bl b=> rw[Rep] at h';subst h';cases r';exact SeqAt.RcAt.tuple_bool b p (by omega)
  | int b=> rw[Rep] at h';subst h';obtain⟨t,rfl⟩:=r';exact SeqAt.RcAt.tuple_int b t p (by omega)
  | str b=> rw[Rep] at h';subst h';obtain⟨t,rfl⟩:=r';exact SeqAt.RcAt.tuple_str b t p (by omega)
  | lst es=> rw[Rep] at h';obtain⟨b,ys,rfl,q',qs'⟩:=h';cases r';obtain⟨its',rv',p',_⟩:=I.list q';exact SeqAt.RcAt.tuple_list p p'.isList (by omega)
  | tup es=>
   rw[Rep] at h';obtain⟨b,ys,rfl,q',qs'⟩:=h';cases r';obtain⟨its',rv',p',_⟩:=I.tuple q';rw[HX];rw[IU] at z;have l1:=qs.length;have l2:=qs'.length;have l3:=rv.length;have l4:=rv'.length;have:=SeqAt.RcAt.tuples (e:=Lo ds es) p p' (by omega) (λj h1 h2=>?_) (A:=A)
   · simp only[Au] at this;by_cases hl:ds.length=es.length
     · rw[←LG ds es hl];rw[show min its.length its'.length=ds.length by omega,show(its.length==its'.length)=true by simp;omega,Ec] at this;exact this
     · rw[Ln hl];rw[show(its.length==its'.length)=false by simp;omega,E1] at this;exact this
   · have:=LD I A.in1 ds es xs ys its its' qs qs' rv rv' (by rw[Bs];omega) j (by simpa using h1) (by simpa using h2);simpa using this
theorem Xp(I:Inv X pins σ H s)(A:Bu)(d e:PD)(v w:V)(u y:Value)(h:Rep X.K H d v)(h':Rep X.K H e w)(r:RelV v u)(r':RelV w y)(z:A.units+IU d<cLine):SeqAt.RcNeAt A s u y (!HX d e):=by
 cases d with
 | non=>
  rw[Rep] at h;subst h;cases r;cases e with
  | non=> rw[Rep] at h';subst h';cases r';rw[HX];exact SeqAt.RcNeAt.none_none
  | bl b=> rw[Rep] at h';subst h';cases r';exact SeqAt.RcNeAt.none_bool b
  | int b=> rw[Rep] at h';subst h';obtain⟨t,rfl⟩:=r';exact SeqAt.RcNeAt.none_int b t
  | str b=> rw[Rep] at h';subst h';obtain⟨t,rfl⟩:=r';exact SeqAt.RcNeAt.none_str b t
  | lst es=> rw[Rep] at h';obtain⟨b,ys,rfl,q',qs'⟩:=h';cases r';obtain⟨its',rv',p',_⟩:=I.list q';exact SeqAt.RcNeAt.none_list p'.isList (by omega)
  | tup es=> rw[Rep] at h';obtain⟨b,ys,rfl,q',qs'⟩:=h';cases r';obtain⟨its',rv',p',_⟩:=I.tuple q';exact SeqAt.RcNeAt.none_tuple p' (by omega)
 | bl c=>
  rw[Rep] at h;subst h;cases r;cases e with
  | non=> rw[Rep] at h';subst h';cases r';exact SeqAt.RcNeAt.bool_none c
  | bl b=> rw[Rep] at h';subst h';cases r';exact SeqAt.RcNeAt.bool_bool c b
  | int b=> rw[Rep] at h';subst h';obtain⟨t,rfl⟩:=r';exact SeqAt.RcNeAt.bool_int c b t
  | str b=> rw[Rep] at h';subst h';obtain⟨t,rfl⟩:=r';exact SeqAt.RcNeAt.bool_str c b t
  | lst es=> rw[Rep] at h';obtain⟨b,ys,rfl,q',qs'⟩:=h';cases r';obtain⟨its',rv',p',_⟩:=I.list q';exact SeqAt.RcNeAt.bool_list c p'.isList (by omega)
  | tup es=> rw[Rep] at h';obtain⟨b,ys,rfl,q',qs'⟩:=h';cases r';obtain⟨its',rv',p',_⟩:=I.tuple q';exact SeqAt.RcNeAt.bool_tuple c p' (by omega)
 | int c=>
  rw[Rep] at h;subst h;obtain⟨tc,rfl⟩:=r;cases e with
  | non=> rw[Rep] at h';subst h';cases r';exact SeqAt.RcNeAt.int_none c tc
  | bl b=> rw[Rep] at h';subst h';cases r';exact SeqAt.RcNeAt.int_bool c tc b
  | int b=> rw[Rep] at h';subst h';obtain⟨t,rfl⟩:=r';exact SeqAt.RcNeAt.int_int c tc b t
  | str b=> rw[Rep] at h';subst h';obtain⟨t,rfl⟩:=r';exact SeqAt.RcNeAt.int_str c tc b t
  | lst es=> rw[Rep] at h';obtain⟨b,ys,rfl,q',qs'⟩:=h';cases r';obtain⟨its',rv',p',_⟩:=I.list q';exact SeqAt.RcNeAt.int_list c tc p'.isList (by omega)
  | tup es=> rw[Rep] at h';obtain⟨b,ys,rfl,q',qs'⟩:=h';cases r';obtain⟨its',rv',p',_⟩:=I.tuple q';exact SeqAt.RcNeAt.int_tuple c tc p' (by omega)
 | str c=>
  rw[Rep] at h;subst h;obtain⟨tc,rfl⟩:=r;cases e with
  | non=> rw[Rep] at h';subst h';cases r';exact SeqAt.RcNeAt.str_none c tc
  | bl b=> rw[Rep] at h';subst h';cases r';exact SeqAt.RcNeAt.str_bool c tc b
  | int b=> rw[Rep] at h';subst h';obtain⟨t,rfl⟩:=r';exact SeqAt.RcNeAt.str_int c tc b t
  | str b=> rw[Rep] at h';subst h';obtain⟨t,rfl⟩:=r';exact SeqAt.RcNeAt.str_str c tc b t
  | lst es=> rw[Rep] at h';obtain⟨b,ys,rfl,q',qs'⟩:=h';cases r';obtain⟨its',rv',p',_⟩:=I.list q';exact SeqAt.RcNeAt.str_list c tc p'.isList (by omega)
  | tup es=> rw[Rep] at h';obtain⟨b,ys,rfl,q',qs'⟩:=h';cases r';obtain⟨its',rv',p',_⟩:=I.tuple q';exact SeqAt.RcNeAt.str_tuple c tc p' (by omega)
 | lst ds=>
  rw[Rep] at h;obtain⟨a,xs,rfl,q,qs⟩:=h;cases r;obtain⟨its,rv,p,_⟩:=I.list q;cases e with
  | non=> rw[Rep] at h';subst h';cases r';exact SeqAt.RcNeAt.list_none p.isList (by omega)
  | bl b=> rw[Rep] at h';subst h';cases r';exact SeqAt.RcNeAt.list_bool b p.isList (by omega)
  | int b=> rw[Rep] at h';subst h';obtain⟨t,rfl⟩:=r';exact SeqAt.RcNeAt.list_int b t p.isList (by omega)
  | str b=> rw[Rep] at h';subst h';obtain⟨t,rfl⟩:=r';exact SeqAt.RcNeAt.list_str b t p.isList (by omega)
  | lst es=>
   rw[Rep] at h';obtain⟨b,ys,rfl,q',qs'⟩:=h';cases r';obtain⟨its',rv',p',_⟩:=I.list q';rw[HX];rw[IU] at z;have l1:=qs.length;have l2:=qs'.length;have l3:=rv.length;have l4:=rv'.length;by_cases hl:ds.length=es.length
   · rw[←LG ds es hl];have:=SeqAt.RcNeAt.lists (e:=Lo ds es) p.isList p'.isList (by simp;omega) (by omega) (λj h1 h2=>?_) (A:=A)
     · simp only[Au] at this;rw[show ds.length=its.length by omega];exact this
     · have:=LD I A.in1 ds es xs ys its its' qs qs' rv rv' (by rw[Bs];omega) j (by simpa using h1) (by simpa using h2);simpa using this
   · rw[Ln hl];exact EI p.isList p'.isList (by simp;omega) (by omega)
  | tup es=> rw[Rep] at h';obtain⟨b,ys,rfl,q',qs'⟩:=h';cases r';obtain⟨its',rv',p',_⟩:=I.tuple q';exact SeqAt.RcNeAt.list_tuple p.isList p' (by omega)
 | tup ds=>
  rw[Rep] at h;obtain⟨a,xs,rfl,q,qs⟩:=h;cases r;obtain⟨its,rv,p,_⟩:=I.tuple q;cases e with
  | non=> rw[Rep] at h';subst h';cases r';exact SeqAt.RcNeAt.tuple_none p (by omega)
  | bl b=> rw[Rep] at h';subst h';cases r';exact SeqAt.RcNeAt.tuple_bool b p (by omega)
  | int b=> rw[Rep] at h';subst h';obtain⟨t,rfl⟩:=r';exact SeqAt.RcNeAt.tuple_int b t p (by omega)
  | str b=> rw[Rep] at h';subst h';obtain⟨t,rfl⟩:=r';exact SeqAt.RcNeAt.tuple_str b t p (by omega)
  | lst es=> rw[Rep] at h';obtain⟨b,ys,rfl,q',qs'⟩:=h';cases r';obtain⟨its',rv',p',_⟩:=I.list q';exact SeqAt.RcNeAt.tuple_list p p'.isList (by omega)
  | tup es=>
   rw[Rep] at h';obtain⟨b,ys,rfl,q',qs'⟩:=h';cases r';obtain⟨its',rv',p',_⟩:=I.tuple q';rw[HX];rw[IU] at z;have l1:=qs.length;have l2:=qs'.length;have l3:=rv.length;have l4:=rv'.length;have:=SeqAt.RcNeAt.tuples (e:=Lo ds es) p p' (by omega) (λj h1 h2=>?_) (A:=A)
   · simp only[Au] at this;by_cases hl:ds.length=es.length
     · rw[←LG ds es hl];rw[show min its.length its'.length=ds.length by omega,show(its.length==its'.length)=true by simp;omega,Ec] at this;exact this
     · rw[Ln hl];rw[show(its.length==its'.length)=false by simp;omega,E1] at this;exact this
   · have:=LD I A.in1 ds es xs ys its its' qs qs' rv rv' (by rw[Bs];omega) j (by simpa using h1) (by simpa using h2);simpa using this
def La(X:Cx):Prop:=X.A.units+60<cLine
def MN(K:Ae):R2:=λx y H Q=>∃d e,Rep K H d x∧Rep K H e y∧IU d<60∧Q (.bl (!HX d e)) H
theorem QQ(hr:La X):Iu X (BH .NotEq) (MN X.K):=by intro pins s σ H x y v u Q I rx ry h;obtain⟨d,e,h1,h2,h3,q⟩:=h;unfold La at hr;exact Xp I X.A d e x y v u h1 h2 rx ry (by omega) X.prog X.w _ _ ⟨.bl _,H,I,rfl,q⟩
theorem Me{k:Nat}(hr:Room k A):A.units+60<cLine:=Cp (Gj (by decide:60≤64) _) hr.units
theorem Jf{n:String}:J9 X (.builtin "isinstance") (λxs H Q=>∃x t c b,xs=[x,.ty c]∧TyOf X.K H x (.type t)∧PySem.W.kitOne X.K (.type t) (.type c)=some b∧Q (.bl b) H):=by intro pins s σ H xs us Q I r h;obtain⟨x,t,c,b,rfl,ty,e,q⟩:=h;obtain⟨u,w',rfl,ru,rw'⟩:=Mt r;cases rw';exact WM I ru ty e λtk=>⟨.bl b,H,I.tok tk,rfl,q⟩
section
variable{K:Ae}{p:Addr}{g:TG}{tc:TT}{te:TE}{Q:VK}
abbrev L5(p:Addr)(g:TG)(tc:TT)(te:TE)(ys:List V)(x:V)(σ:St)(H:Hp)(N:St→List V→Hp→Prop):Prop:=
 g x σ H λσ2 H2=>tc σ2 H2 λb H3=>if b=true then te σ2 H3 λy H4=>H4 p=some (.lst ys)∧N σ2 (ys++[y]) (Hr H4 p (.lst (ys++[y]))) else N σ2 ys H3
theorem Mv{n:Nat}{J:It}{js:Iz}(Pv:Nat→St→List V→Hp→Prop)(h0:Pv 0 (inn js σ) [] (Hr H p (.lst [])))
 (hl:∀i σ ys H,i≤n→Pv i σ ys H→H p=some (.lst ys)∧ys.length<Av)
 (hgo:∀i σ ys H,i<n→Pv i σ ys H→J.go i H) (hst:∀σ ys H,Pv n σ ys H→J.stop n H)
 (hs:∀(i:Nat)x σ ys H H'(N:St→List V→Hp→Prop),i<n→J.yld i H x H'→Pv i σ ys H→(∀σ' ys' H',Pv (i+1) σ' ys' H'→N σ' ys' H')→L5 p g tc te ys x σ H' N)
 (hd:∀σ ys H,Pv n σ ys H→Q (.ref p) H):
 Kk J p js g tc te σ H Q:=by
 refine⟨λi m σ ys H=>m=n - i∧i≤n∧Pv i σ ys H,⟨n,by simp,AQ _,h0⟩,?_⟩;rintro i m σ ys H ⟨rfl,hi,pv⟩;obtain⟨q1,q2⟩:=hl i σ ys H hi pv;refine⟨q1,?_⟩;by_cases lt:i<n
 · exact .inr ⟨hgo i σ ys H lt pv,q2,λx H' y=>hs i x σ ys H H' (λσ2 ys2 H2=>∃m',m'<n - i∧m'=n - (i+1)∧i+1≤n∧Pv (i+1) σ2 ys2 H2) lt y pv λσ' ys' H' p'=>⟨n - (i+1),by omega,rfl,lt,p'⟩⟩
 · have e:i=n:=by omega
   subst e;exact .inl ⟨hst σ ys H pv,hd σ ys H pv⟩
theorem Mb{js:Iz}(Pv:Nat→St→List V→Hp→Prop)(h0:Pv 0 (inn js σ) [] (Hr H p (.lst [])))
 (hl:∀i σ ys H,i≤xs.length→Pv i σ ys H→SqL K H a xs∧H p=some (.lst ys)∧ys.length<Av)
 (hs:∀(i:Nat)x σ ys H(N:St→List V→Hp→Prop),xs[i]?=some x→Pv i σ ys H→(∀σ' ys' H',Pv (i+1) σ' ys' H'→N σ' ys' H')→L5 p g tc te ys x σ H N)
 (hd:∀σ ys H,Pv xs.length σ ys H→Q (.ref p) H):Kk (Ke K a) p js g tc te σ H Q:=
 Mv (n:=xs.length) (J:=Ke K a) (js:=js) (σ:=σ) (H:=H) (p:=p) (Q:=Q) (g:=g) (tc:=tc) (te:=te) Pv h0 (λi σ ys H hi pv=>(hl i σ ys H hi pv).2)
  (λi σ ys H hi pv=>⟨xs,xs[i],(hl i σ ys H (Bz hi) pv).1,by simp[hi]⟩) (λσ ys H pv=>⟨xs,(hl _ σ ys H (Ah _) pv).1,Ah _⟩)
  (λi x σ ys H H' N hi y pv hN=>by obtain⟨e,y⟩:=y;subst e;exact hs i x σ ys _ N (y xs (hl i σ ys _ (Bz hi) pv).1) pv hN) hd
theorem Nt{js:Iz}(Pv:Nat→St→List V→Hp→Prop)(h0:Pv 0 (inn js σ) [] (Hr H p (.lst [])))
 (hl:∀i σ ys H,i≤xs.length→Pv i σ ys H→SqT K H a xs∧H p=some (.lst ys)∧ys.length<Av)
 (hs:∀(i:Nat)x σ ys H(N:St→List V→Hp→Prop),xs[i]?=some x→Pv i σ ys H→(∀σ' ys' H',Pv (i+1) σ' ys' H'→N σ' ys' H')→L5 p g tc te ys x σ H N)
 (hd:∀σ ys H,Pv xs.length σ ys H→Q (.ref p) H):Kk (KA K a) p js g tc te σ H Q:=
 Mv (n:=xs.length) (J:=KA K a) (js:=js) (σ:=σ) (H:=H) (p:=p) (Q:=Q) (g:=g) (tc:=tc) (te:=te) Pv h0 (λi σ ys H hi pv=>(hl i σ ys H hi pv).2)
  (λi σ ys H hi pv=>⟨xs,xs[i],(hl i σ ys H (Bz hi) pv).1,by simp[hi]⟩) (λσ ys H pv=>⟨xs,(hl _ σ ys H (Ah _) pv).1,Ah _⟩)
  (λi x σ ys H H' N hi y pv hN=>by obtain⟨e,y⟩:=y;subst e;exact hs i x σ ys _ N (y xs (hl i σ ys _ (Bz hi) pv).1) pv hN) hd
theorem NF{js:Iz}{lo:Int}{n:Nat}(Pv:Nat→St→List V→Hp→Prop)(h0:Pv 0 (inn js σ) [] (Hr H p (.lst [])))
 (hl:∀i σ ys H,i≤n→Pv i σ ys H→H p=some (.lst ys)∧ys.length<Av)
 (hs:∀(i:Nat)σ ys H(N:St→List V→Hp→Prop),i<n→Pv i σ ys H→(∀σ' ys' H',Pv (i+1) σ' ys' H'→N σ' ys' H')→L5 p g tc te ys (.int (lo+i)) σ H N)
 (hd:∀σ ys H,Pv n σ ys H→Q (.ref p) H):Kk (Lq lo n) p js g tc te σ H Q:=
 Mv (n:=n) (J:=Lq lo n) (js:=js) (σ:=σ) (H:=H) (p:=p) (Q:=Q) (g:=g) (tc:=tc) (te:=te) Pv h0 hl
  (λi σ ys H hi pv=>hi) (λσ ys H pv=>Ah n)
  (λi x σ ys H H' N hi y pv hN=>by obtain⟨e,y⟩:=y;subst e y;exact hs i σ ys _ N hi pv hN) hd
end
def RA(outer:Scope)(N N':List Str)(js:Iz)(scope:Scope):Bool:=
 decide (js.length=N'.length) && (scope.kind== .function) && scope.names.all (λp=>(p.2 != .cell || scope.names.lookup p.1==some .cell) && (p.2 != .local || scope.names.lookup p.1==some .local) && (p.2 != .free || (outer.names.lookup p.1==some .cell || outer.names.lookup p.1==some .free)))
  && (BV js.length).all λi=>match js[i]? with
   | some (some j)=>(match N'[i]? with | some x=>N[j]?==some x && scope.names.lookup x==some .free | none=>false)
   | _=>true
theorem I_{N N':List Str}{js:Iz}{outer:Scope}(h:RA outer N N' js scope=true)(hN:X.N=N:=by rfl)(ho:X.env.scope=outer:=by rfl):CapOk X N' js scope:=by
 subst hN ho;unfold RA at h;rw[AB,AB,AB] at h;obtain⟨⟨⟨h1,h2⟩,h3⟩,h4⟩:=h;rw[List.all_eq_true] at h3 h4;refine⟨of_decide_eq_true h1,eq_of_beq h2,λp hp e=>?_,λp hp e=>?_,λp hp e=>?_,λi j e=>?_⟩
 · have:=h3 p hp;rw[e] at this;simp at this;exact this
 · have:=h3 p hp;rw[e] at this;simp at this;exact this
 · have:=h3 p hp;rw[e] at this;simp at this;exact this
 · have hi:i<js.length:=(Al.mp e).1;have:=h4 i (Dc.mpr hi);rw[e] at this;simp only at this;cases q:N'[i]? with
   | none=>rw[q] at this;cases this
   | some x=> rw[q] at this;simp only[AB,beq_iff_eq] at this;exact⟨x,rfl,this.1,this.2⟩
def Ip(P:Br)(w:World)(K:Ae)(mg:Str→Option Value)(base:Heap)(k:Nat)(x:Str)(ps:List Str)(sp:Sp):Prop:=
 ∃f fd,FnOk P w K mg base HY k f fd ps sp∧Binds K fd ps []∧Ez K (.ref f)=true∧mg x=some (.ref f)
section
variable{k:Nat}{ps:List Str}{sp:Sp}{es:List Expr}{t:TA}{p:Pos}
theorem HG(F:Ip X.prog X.w X.K X.mg X.base k x ps sp)(hr:Room k X.A)(hg:Gl X x)(ha:PA X (e::es) t)(hdb:(x==("__debug__":Str))=false:=by decide)
 (he:AR (e::es) X.env=(false,eval e X.env)::AR es X.env:=by rfl) (hpl:(backTo pos (AR es X.env)).any (·.1)=false:=by rfl):PE X (.Call (.Name x p) (e::es) [] pos) (Q8 sp [] E0 t):=by
 obtain⟨f,fd,h1,h2,h3,h4⟩:=F;exact V7 h1 hr hg h4 h3 h2 .nil QD ha hdb he hpl
end
structure Bl(mg:Str→Option Value):Prop where
 len_:mg "len"=none
 range_:mg "range"=none
 isinstance_:mg "isinstance"=none
 int_:mg "int"=none
 bool_:mg "bool"=none
 tuple_:mg "tuple"=none
 list_:mg "list"=none
 max_:mg "max"=none
 min_:mg "min"=none
 all_:mg "all"=none
 zip_:mg "zip"=none
 str_:mg "str"=none
 dict_:mg "dict"=none
 sorted_:mg "sorted"=none
 set_:mg "set"=none
 any_:mg "any"=none
 sum_:mg "sum"=none
 enumerate_:mg "enumerate"=none
 repr_:mg "repr"=none
 ord_:mg "ord"=none
 chr_:mg "chr"=none
 abs_:mg "abs"=none
 reversed_:mg "reversed"=none
theorem Np:Bf "int"=some (.type "int"):=by decide+kernel
theorem N2:Bf "bool"=some (.type "bool"):=by decide+kernel
theorem Km:Bf "tuple"=some (.type "tuple"):=by decide+kernel
theorem Ll:Bf "list"=some (.type "list"):=by decide+kernel
theorem Nq:Bf "str"=some (.type "str"):=by decide+kernel
theorem U6:Bf "dict"=some (.type "dict"):=by decide+kernel
theorem IX:Bf "isinstance"=some (.builtin "isinstance"):=by decide+kernel
theorem I0:Bf "len"=some (.builtin "len"):=by decide+kernel
theorem UX:Bf "max"=some (.builtin "max"):=by decide+kernel
theorem QJ:Bf "min"=some (.builtin "min"):=by decide+kernel
theorem Mz:Bf "all"=some (.builtin "all"):=by decide+kernel
theorem N4:Bf "sorted"=some (.builtin "sorted"):=by decide+kernel
theorem Jt(h:n≤1000):n≤Av:=Bz (II h)
theorem Hz{p:Addr}(h:H p=none)(o:HO):Same H (Hr H p o):=λb u q=>by rw[HD (IT q h)];exact q
def eV:Option Int→V
 | none=> .non
 | some i=> .int i
theorem Si(o:Option Int):(!decide (eV o=V.non))=o.isSome:=by
 cases o with
 | none=>rfl
 | some i=>rfl
def SameB(b g:Addr)(H H':Hp):Prop:=∀a o,H a=some o→a≠b→a≠g→H' a=some o
theorem SameB.refl(b g:Addr)(H:Hp):SameB b g H H:=λ_ _ h _ _=>h
theorem SameB.trans{g:Addr}{H1 H2:Hp}(x:SameB b g H H1)(y:SameB b g H1 H2):SameB b g H H2:=λa o h n1 n2=>y a o (x a o h n1 n2) n1 n2
theorem Same.sameB{g:Addr}{H1:Hp}(x:Same H H1):SameB b g H H1:=λa o h _ _=>x a o h
theorem RL{K:Ae}:∀ns:List Int,Reps K H (ns.map PD.int) (ns.map V.int)
 | []=>by show Reps K H [] [];rw[Reps]
 | n::ns=>by show Reps K H (.int n::ns.map PD.int) (.int n::ns.map V.int);rw[Reps];exact⟨_,_,rfl,by rw[Rep],RL ns⟩
theorem Tj:∀ns:List Int,J_ (ns.map PD.int)=0
 | []=>by show J_ []=0;rw[J_]
 | n::ns=>by
  show J_ (.int n::ns.map PD.int)=0;rw[J_,Tj ns,IU]
  all_goals simp
theorem QC{K:Ae}{p:Addr}{ns:List Int}{Q:VK}(h:SqL K H a (ns.map V.int))(hp:SqL K H p [])(q:Q (.bl (!ns.isEmpty)) H):MN K (.ref a) (.ref p) H Q:=by
 refine⟨.lst (ns.map PD.int),.lst [],by rw[Rep];exact⟨a,_,rfl,h,RL ns⟩,by rw[Rep];exact⟨p,_,rfl,hp,by rw[Reps]⟩,by rw[IU,Tj];decide,?_⟩;cases ns with
 | nil=>rw[HX,show JI (([]:List Int).map PD.int) []=true from NP []];exact q
 | cons n ns=>rw[HX,Ln (by simp)];exact q
theorem Oj{α:Type}{x:α}{r:List α}:IS (x::r) 0=some x:=J6 (j:=0) rfl
theorem TK{α:Type}{x:α}{r:List α}:KQ (x::r).length 0=some 0:=by unfold KQ;rw[if_pos (by decide),if_pos (by rw[AF];omega)];rfl
theorem Uq{ls:List Int}{i:Int}(h0:0≤i)(h1:i<(ls.length:Int)):∃v,IS (ls.map V.int) i=some (.int v)∧v∈ls:=by
 obtain⟨k,rfl⟩:=Int.eq_ofNat_of_zero_le h0;have hk:k<ls.length:=by omega
 exact⟨ls[k],J6 (by rw[Ai,Ak hk];rfl),List.getElem_mem _⟩
theorem KM:(0:Nat)≤Av:=AQ _
theorem IW{α:Type}{l:List α}{x:α}(h:l[i]?=some x):l.take (i+1)=l.take i++[x]:=by rw[List.take_succ,h];rfl
theorem R4{K:Ae}{p:Addr}{Q:VK}{js:Iz}{cap:St}{tc:TT}{te:TE}(ns:List Int)(f:Int→Int)(c:Int→Bool)(hn:ns.length≤900)(e:SqL K H a (ns.map V.int))(hp:H p=none)(hσ:inn js σ=none::cap)
 (ht:∀n H'(R:Bool→Hp→Prop),Same H H'→R (c n) H'→tc (some (.int n)::cap) H' R) (he:∀n H'(R:VK),Same H H'→R (.int (f n)) H'→te (some (.int n)::cap) H' R)
 (hq:∀H',Same H H'→H' p=some (.lst (((ns.filter c).map f).map V.int))→Q (.ref p) H'):Kk (Ke K a) p js (JA 0) tc te σ H Q:=by
 have s0:=Hz hp (.lst []);refine Mb (xs:=ns.map V.int) (λi σ' ys H'=>(∃v,σ'=v::cap)∧Same H H'∧H' p=some (.lst ys)∧ys=((((ns.take i).filter c).map f).map V.int)) ⟨⟨_,hσ⟩,s0,Hu,rfl⟩ ?_ ?_ ?_
 · rintro i σ' ys H' hi ⟨_,s,h1,h2⟩;refine⟨s.seq e,h1,?_⟩;rw[h2];simp only[Ab];have:=Cn c (ns.take i);rw[AH] at this;exact II (by omega)
 · rintro i x σ' ys H' N hx ⟨⟨v,rfl⟩,s,h1,h2⟩ hN;rw[Ai] at hx;cases hn':ns[i]? with
   | none=>rw[hn'] at hx;cases hx
   | some n=>
    rw[hn'] at hx;have hx:V.int n=x:=A5 hx;subst hx;refine ht n H' _ s ?_;have e1:=IW hn';cases hc:c n with
    | true=>
     refine Hw (he n H' _ s ⟨h1,hN _ _ _ ⟨⟨_,rfl⟩,?_,Hu,?_⟩⟩)
     · intro b o q;have:b≠p:=λz=>by rw[z,hp] at q;cases q
       rw[HD this];exact s b o q
     · rw[h2,e1,Dq,Dy,if_pos hc];simp
    | false=> refine Ht (hN _ _ _ ⟨⟨_,rfl⟩,s,h1,?_⟩);rw[h2,e1,Dq,Dy,if_neg (by rw[hc];exact AA)];simp
 · rintro σ' ys H' ⟨_,s,h1,h2⟩;refine hq H' s ?_;rw[h1,h2,Ab,C6]
theorem R3{K:Ae}{p:Addr}{Q:VK}{js:Iz}{cap:St}{tc:TT}{te:TE}(os:List (Option Int))(c:Option Int→Bool)(hn:os.length≤900)(e:SqT K H a (os.map eV))(hp:H p=none)(hσ:inn js σ=none::cap)
 (mono:∀{H'},Same H H'→SqT K H' a (os.map eV))
 (ht:∀o H'(R:Bool→Hp→Prop),Same H H'→R (c o) H'→tc (some (eV o)::cap) H' R) (he:∀o H'(R:VK),Same H H'→R (eV o) H'→te (some (eV o)::cap) H' R)
 (hq:∀H',Same H H'→H' p=some (.lst ((os.filter c).map eV))→Q (.ref p) H'):Kk (KA K a) p js (JA 0) tc te σ H Q:=by
 have s0:=Hz hp (.lst []);refine Nt (xs:=os.map eV) (λi σ' ys H'=>(∃v,σ'=v::cap)∧Same H H'∧H' p=some (.lst ys)∧ys=((os.take i).filter c).map eV) ⟨⟨_,hσ⟩,s0,Hu,rfl⟩ ?_ ?_ ?_
 · rintro i σ' ys H' hi ⟨_,s,h1,h2⟩;refine⟨mono s,h1,?_⟩;rw[h2];simp only[Ab];have:=Cn c (os.take i);rw[AH] at this;exact II (by omega)
 · rintro i x σ' ys H' N hx ⟨⟨v,rfl⟩,s,h1,h2⟩ hN;rw[Ai] at hx;cases hn':os[i]? with
   | none=>rw[hn'] at hx;cases hx
   | some n=>
    rw[hn'] at hx;have hx:eV n=x:=A5 hx;subst hx;refine ht n H' _ s ?_;have e1:=IW hn';cases hc:c n with
    | true=>
     refine Hw (he n H' _ s ⟨h1,hN _ _ _ ⟨⟨_,rfl⟩,?_,Hu,?_⟩⟩)
     · intro b o q;have:b≠p:=λz=>by rw[z,hp] at q;cases q
       rw[HD this];exact s b o q
     · rw[h2,e1,Dq,Dy,if_pos hc];simp
    | false=> refine Ht (hN _ _ _ ⟨⟨_,rfl⟩,s,h1,?_⟩);rw[h2,e1,Dq,Dy,if_neg (by rw[hc];exact AA)];simp
 · rintro σ' ys H' ⟨_,s,h1,h2⟩;refine hq H' s ?_;rw[h1,h2,Ab,C6]
theorem Same.seqT{K:Ae}{H':Hp}(e:Same H H')(h:SqT K H a xs):SqT K H' a xs:=by
 rcases h with(h | ⟨o,h⟩) | h
 · exact .inl (.inl (e _ _ h))
 · exact .inl (.inr ⟨o,e _ _ h⟩)
 · exact .inr h
def Nl(xs:List V):It:=⟨λi _=>i<xs.length,λi H x H'=>H'=H∧xs[i]?=some x,λi _=>xs.length≤i⟩
theorem Zv{K:Ae}{tg:Expr}(it:Addr)(x:Str)(t:Tok):Turn P w K tg (Nl (x.cps.toList.map λc=>V.str ⟨#[c]⟩)) [it] it (λi h=>h.IsStrIter it "str_ascii_iterator" x t i) where
 mem:=by simp
 obj:=λi h st b hb=>by
  have e:b=it:=by simpa using hb
  subst e;obtain⟨o,e,c,d⟩:=st;exact⟨o,e,λv z=>by rw[d] at z;cases z⟩
 keep:=λi h h' st k=>let⟨o,ho,r⟩:=st;⟨o,k it (by simp) o ho,r⟩
 item:=by
  intro X hP hw hK hc i pins s σ H E I hf st hg;subst hP hw hK;have hg:i<(x.cps.toList.map λc=>V.str ⟨#[c]⟩).length:=hg;rw[Ab,AC] at hg;obtain⟨f0,f1,f2,f3,f4,f5⟩:=hf it (by simp);refine wpAny_pyNext_ascii_item st (c:=x.cps[i]) (by simp[hg]) λh' st' sb=>?_;have I1:Inv X pins σ H {s with heap:=h',toks:=s.toks+1}:=I.turned (λb o hb e=>(sb.2 b hb).trans e) f0 f1 f3 f4 f5
  obtain⟨o,e,c,d⟩:=id st';exact⟨_,rfl,Ms (s:={s with heap:=h',toks:=s.toks+1}) e c d (by decide) ⟨.str ⟨#[x.cps[i]]⟩,H,I1,⟨_,rfl⟩,⟨rfl,by rw[Ai,Cm,Bq hg];rfl⟩,st',λb hb=>(hf b hb).1⟩⟩
 done:=by intro X hP hw hK hc i pins s σ H E I hf st hg;subst hP hw hK;have hg:(x.cps.toList.map λc=>V.str ⟨#[c]⟩).length≤i:=hg;rw[Ab,AC] at hg;obtain⟨f0,f1,f2,f3,f4,f5⟩:=hf it (by simp);exact wpAny_pyNext_ascii_end (I.ok.hd hc) st (by simpa using hg) λh' eb=>⟨rfl,I.turned (t':=s.toks) (λb o hb e=>eb b o hb e) f0 f1 f3 f4 f5⟩
 self:=λ_ _ _ _ _ st h=>wpAny_pyIter_striter_ascii st h
theorem Zc{K:Ae}{tg:Expr}(it:Addr)(x:Str)(t:Tok):Turn P w K tg (Nl (x.cps.toList.map λc=>V.str ⟨#[c]⟩)) [it] it (λi h=>h.IsStrIter it "str_iterator" x t i) where
 mem:=by simp
 obj:=λi h st b hb=>by
  have e:b=it:=by simpa using hb
  subst e;obtain⟨o,e,c,d⟩:=st;exact⟨o,e,λv z=>by rw[d] at z;cases z⟩
 keep:=λi h h' st k=>let⟨o,ho,r⟩:=st;⟨o,k it (by simp) o ho,r⟩
 item:=by
  intro X hP hw hK hc i pins s σ H E I hf st hg;subst hP hw hK;have hg:i<(x.cps.toList.map λc=>V.str ⟨#[c]⟩).length:=hg;rw[Ab,AC] at hg;obtain⟨f0,f1,f2,f3,f4,f5⟩:=hf it (by simp);refine wpAny_pyNext_wide_item st (c:=x.cps[i]) (by simp[hg]) λh' st' sb=>?_;have I1:Inv X pins σ H {s with heap:=h',toks:=s.toks+1}:=I.turned (λb o hb e=>(sb.2 b hb).trans e) f0 f1 f3 f4 f5
  obtain⟨o,e,c,d⟩:=id st';exact⟨_,rfl,Ms (s:={s with heap:=h',toks:=s.toks+1}) e c d (by decide) ⟨.str ⟨#[x.cps[i]]⟩,H,I1,⟨_,rfl⟩,⟨rfl,by rw[Ai,Cm,Bq hg];rfl⟩,st',λb hb=>(hf b hb).1⟩⟩
 done:=by intro X hP hw hK hc i pins s σ H E I hf st hg;subst hP hw hK;have hg:(x.cps.toList.map λc=>V.str ⟨#[c]⟩).length≤i:=hg;rw[Ab,AC] at hg;obtain⟨f0,f1,f2,f3,f4,f5⟩:=hf it (by simp);exact wpAny_pyNext_wide_end (I.ok.hd hc) st (by simpa using hg) λh' eb=>⟨rfl,I.turned (t':=s.toks) (λb o hb e=>eb b o hb e) f0 f1 f3 f4 f5⟩
 self:=λ_ _ _ _ _ st h=>wpAny_pyIter_striter_wide st h
section
variable{tg:Expr}
def signs(x:Str):List V:=x.cps.toList.map λc=>V.str ⟨#[c]⟩
def Qq(tl:TE):TI:=λσ H R=>tl σ H λv H1=>∃x,v= .str x∧R (Nl (signs x)) H1
theorem QT{l:Expr}{tl:TE}(hl:PE X l tl):PI X tg l (Qq tl):=by
 intro pins s σ H R I h;refine Hx (hl pins s σ H _ I h) λv s1 ⟨y,H1,I1,r1,q1⟩=>?_;obtain⟨x,e,q⟩:=q1;subst e;obtain⟨t,rfl⟩:=r1;cases ha:x.cps.all (· <128)
 · refine wpAny_pyIter_wide ha ?_;refine⟨s1.heap.objs.size,[s1.heap.objs.size],_,_,H1,rfl,I1.kept (t':=s1.toks) λb o e=>Ad _ e,Zc _ x t,⟨_,An _ rfl,rfl,rfl⟩,λb hb=>?_,q⟩;have e:b=s1.heap.objs.size:=by simpa using hb
   subst e;exact I1.fpOk (Ah _) (I1.hok.fresh (Ah _))
 · refine wpAny_pyIter_ascii ha ?_;refine⟨s1.heap.objs.size,[s1.heap.objs.size],_,_,H1,rfl,I1.kept (t':=s1.toks) λb o e=>Ad _ e,Zv _ x t,⟨_,An _ rfl,rfl,rfl⟩,λb hb=>?_,q⟩;have e:b=s1.heap.objs.size:=by simpa using hb
   subst e;exact I1.fpOk (Ah _) (I1.hok.fresh (Ah _))
theorem OZ:Iu X (BH .LtE) (λx y H Q=>∃i j,x= .str i∧y= .str j∧Q (.bl (!decide (j.cps.toList<i.cps.toList))) H):=by intro pins s σ H x y v u Q I rx ry h;obtain⟨i,j,rfl,rfl,q⟩:=h;obtain⟨t,rfl⟩:=rx;obtain⟨t',rfl⟩:=ry;exact PySem.P.le_str (Iw I q rfl)
theorem M3(hc:X.calm=true):J9 X (.builtin "all") (λxs H Q=>∃(a:Addr)(bs:List Bool),xs=[.ref a]∧SqL X.K H a (bs.map V.bl)∧Q (.bl (bs.all id)) H):=by
 intro pins s σ H xs us Q I r h;obtain⟨a,bs,rfl,hq,q⟩:=h;obtain⟨u,rfl,ru⟩:=Jx r;cases ru;obtain⟨its,rv,p,hzz⟩:=I.list hq;have ll:=rv.length;rw[Ab] at ll;refine call_all_walk (DN p.isList ?_);obtain⟨o,ho,_⟩:=id p.isList;have lt:=Ao ho;refine⟨s.heap.objs.size,_,_,_,_,_,λi=>bs.getD i false,rfl,Walks.list (A:=X.A.in1) (I.ok.hd hc) s.heap.objs.size a (Ar lt) its.toArray,⟨⟨_,An _ rfl,rfl,rfl⟩,p.isList.at λo' e=>Ad _ e⟩,?_,λg t' k=>?_⟩
 · intro i v s' Q' E' hv q';have hi:its[i]?=some v:=by simpa using hv
   have hl:i<its.length:=(Al.mp hi).1;have e:(bs.map V.bl)[i]?=some (.bl (bs.getD i false)):=by rw[Ai,Ak (by omega),AM,Ak (by omega)];rfl
   obtain⟨u,h1,h2⟩:=Vals.get rv e;rw[hi] at h1;cases h1;cases h2;exact Bp q'
 · refine⟨.bl (bs.all id),H,I.kept (λb o' e=>k b o' ?_ (Ad _ e)),?_,q⟩
   · intro z;exact absurd (Af.mp z) (Ar (Ao e))
   · show Value.bool _=Value.bool _;congr 1;rw[Au,←ll];clear rv ll hq q p ho lt hzz
     induction bs with
     | nil=>rfl
     | cons b r ih=> rw[AF,FB,Dm,Fg,Dm,←ih];rfl
end
theorem QO{xs:List V}{p:Addr}{g:TG}{tc:TT}{te:TE}{Q:VK}{js:Iz}(Pv:Nat→St→List V→Hp→Prop)(h0:Pv 0 (inn js σ) [] (Hr H p (.lst [])))
 (hl:∀i σ ys H,i≤xs.length→Pv i σ ys H→H p=some (.lst ys)∧ys.length<Av)
 (hs:∀(i:Nat)x σ ys H(N:St→List V→Hp→Prop),xs[i]?=some x→Pv i σ ys H→(∀σ' ys' H',Pv (i+1) σ' ys' H'→N σ' ys' H')→L5 p g tc te ys x σ H N)
 (hd:∀σ ys H,Pv xs.length σ ys H→Q (.ref p) H):Kk (Nl xs) p js g tc te σ H Q:=
 Mv (n:=xs.length) (J:=Nl xs) (js:=js) (σ:=σ) (H:=H) (p:=p) (Q:=Q) (g:=g) (tc:=tc) (te:=te) Pv h0 hl
  (λi σ ys H hi pv=>hi) (λσ ys H pv=>Ah _)
  (λi x σ ys H H' N hi y pv hN=>by obtain⟨e,y⟩:=y;subst e;exact hs i x σ ys _ N y pv hN) hd
section
variable{R:Result→Shared→Prop}
theorem Yv{kx vx target iter:Expr}{ifs:List Expr}{scope:Scope}{pos:Pos}{it:Value}{D:Addr}{env:Env}(I:Nat→Shared→Prop)
 (turn:∀n s,I n s→wpAny (model prog w) A (pyNext it) (λr s₁=>match r with
  | none=>R (.ok .next) s₁
  | some v=>wpAny (model prog w) A (BL target it v) (λ_ s₁'=>wpAny (model prog w) A (assign target env v) (λ_ s₂=>
   wpAny (model prog w) A (forIn ifs true λc r=>if r=true then do let ok ←isTrue c env (eval c env);pure (ForInStep.yield ok) else pure (ForInStep.yield r)) (λok s₃=>
    if ok=true then wpAny (model prog w) A (eval kx env) (λkv s₄=>wpAny (model prog w) A (eval vx env) (λvv s₅=> wpAny (model prog w) A (dictSet D kv vv) (λ_ s₆=>∃m,m<n∧I m s₆) (λ_ _=>False) s₅) (λ_ _=>False) s₄) (λ_ _=>False) s₃
    else ∃m,m<n∧I m s₃) (λ_ _=>False) s₂) (λ_ _=>False) s₁') (λ_ _=>False) s₁) (λ_ _=>False) s)
 (n:Nat) (h:I n s):
 codeAny (model prog w) A (.compLoop (.DictComp kx vx [⟨target,iter,ifs,0⟩] scope pos) 0 it (.ref D) env) R s:=by
 refine DE rfl I (λn s hI=>?_) n h;show wpAny _ A ((compTurn (.DictComp kx vx [⟨target,iter,ifs,0⟩] scope pos) 0 it (.ref D) env).onRaise (λx=>do noteFrame x env;theTreesLotGoes x)) _ _ s
 refine DT ?_;rw[compTurn_dict];refine Aa (Bv (Aa (Ay (turn n s hI) (λr s₁ h₁=>?_) λ_ _ z=>z.elim)));cases r with
 | none=>exact Ac h₁
 | some v=>
  refine Aa (Ay h₁ (λ_ s₁' h₁'=>?_) λ_ _ z=>z.elim);refine Aa (Ay h₁' (λ_ s₂ h₂=>Aa (Ay h₂ (λok s₃ h₃=>?_) λ_ _ z=>z.elim)) λ_ _ z=>z.elim);cases ok with
  | false=>exact Ac ⟨rfl,h₃⟩
  | true=> exact Aa (Aa (Ay h₃ (λkv s₄ h₄=>Aa (AT (Ay h₄ (λvv s₅ h₅=>Aa (Bv (AT (Ay h₅ (λ_ s₆ h₆=>Ac ⟨rfl,h₆⟩) λ_ _ z=>z.elim)))) λ_ _ z=>z.elim))) λ_ _ z=>z.elim))
end
def Os(J:It)(p:Addr)(js:Iz)(g:TG)(tc:TT)(tk tv:TE)(σ:St)(H:Hp)(Q:VK):Prop:=
 ∃W:Nat→Nat→St→List (HF×V)→Hp→Prop,(∃m,W 0 m (inn js σ) [] (Hr H p (.dK [])))∧∀i m σ' kvs H,W i m σ' kvs H→H p=some (.dK kvs)∧
  ((J.stop i H∧Q (.ref p) H)∨(J.go i H∧kvs.length<Av∧∀x H',J.yld i H x H'→g x σ' H' λσ2 H2=>tc σ2 H2 λb H3=>
    if b=true then tk σ2 H3 λk H4=>tv σ2 H4 λy H5=>∃ky,k=kV ky∧H5 p=some (.dK kvs)∧∃m',m'<m∧W (i+1) m' σ2 (HM kvs ky y) (Hr H5 p (.dK (HM kvs ky y)))
    else ∃m',m'<m∧W (i+1) m' σ2 kvs H3))
def Z5(wi:TI)(js:Iz)(g:TG)(tc:TT)(tk tv:TE):TE:=λσ H Q=>wi σ H λJ H1=>∀p,H1 p=none→Os J p js g tc tk tv σ H1 Q
section
variable{tg iter kx vx:Expr}{ifs:List Expr}{wi:TI}{js:Iz}{g:TG}{tc:TT}{tk tv:TE}{N':List Str}
theorem Wq{pins:List (Addr×Obj)}{σ:St}{H:Hp}{s:Shared}{E:Value→Shared→Prop}{Q:VK}{J:It}{it:Addr}{fp:List Addr}{tn:Nat→Heap→Prop}{cl:List (Str×Addr)}
 (hc:X.calm=true) (ok:CapOk X N' js scope)
 (h2:∀x c,cl.lookup x=some c→X.env.cells.lookup x=some c) (h3:∀p∈scope.names,p.2= .free→(cl.lookup p.1).isSome=true)
 (hg:∀cl C s₀ H₀ ex,PG (Ib X N' scope cl C s₀ H₀ ex) tg g) (ht:∀cl C s₀ H₀ ex,Ic (Ib X N' scope cl C s₀ H₀ ex) ifs tc) (he:∀cl C s₀ H₀ ex,PE (Ib X N' scope cl C s₀ H₀ ex) kx tk) (hv:∀cl C s₀ H₀ ex,PE (Ib X N' scope cl C s₀ H₀ ex) vx tv)
 (I:Inv X pins σ H s) (T:Turn X.prog X.w X.K tg J fp it tn) (st:tn 0 s.heap) (hf:∀b∈fp,HA X pins H b)
 (hw:∀p,H p=none→Os J p js g tc tk tv σ H Q):
 wpAny (model X.prog X.w) X.A newDict (λacc s₃=>wpAny (model X.prog X.w) X.A (newFunctionEnv scope X.env.globals cl [] X.env.qual none .none (some X.env)) (λcenv s₄=>
  codeAny (model X.prog X.w) X.A (.compStart (.DictComp kx vx [⟨tg,iter,ifs,0⟩] scope pos) 0 (.ref it) acc {cenv with scope:=relabel scope X.env})
   (λr s'=>r= .ok .next∧(∃m,s'.heap.Ns cenv.locals m)∧∃v H',RelV v acc∧Inv X pins σ H' s'∧HA X pins H' cenv.locals∧Q v H') s₄) E s₃) E s:=by
 have objs:=T.obj _ _ st;refine AW ?_;obtain⟨W,⟨m0,w0⟩,turn⟩:=hw s.heap.objs.size (I.hok.fresh (Ah _));generalize hp:s.heap.objs.size=p at*;have kp:∀b u,s.heap.get? b=some u→(s.heap.push {cls:= .type "dict",data:= .dict #[]}).get? b=some u:=λb u e=>Ad _ e;have I3:Inv X pins σ (Hr H p (.dK [])) {s with heap:=s.heap.push {cls:= .type "dict",data:= .dict #[]}}:=by subst hp;exact I.laid (t':=s.toks) kp (Ah _) (R_ s.heap I.big)
 have fne:∀b∈fp,b≠p:=λb hb=>by obtain⟨o,e,_⟩:=objs b hb;have:=Ao e;rw[←hp];exact Ar this
 have hf3:∀b∈fp,HA X pins (Hr H p (.dK [])) b:=λb hb=>⟨by rw[HD (fne b hb)];exact(hf b hb).1,(hf b hb).2⟩;have st3:tn 0 (s.heap.push {cls:= .type "dict",data:= .dict #[]}):=T.keep _ _ _ st λb _ o e=>kp b o e;have lt3:∀b∈fp,b<(s.heap.push {cls:= .type "dict",data:= .dict #[]}).objs.size:=λb hb=>by obtain⟨o,e,_⟩:=objs b hb;exact Ao (kp b o e)
 generalize hs3:({s with heap:=s.heap.push {cls:= .type "dict",data:= .dict #[]}}:Shared)=s3 at*
 have eh:s.heap.push {cls:= .type "dict",data:= .dict #[]}=s3.heap:=by rw[←hs3]
 rw[eh] at st3 lt3;refine Og ok.cells λcl h₁ hns₁ k4 oc=>?_;have I4:=N8 (cl:=cl) (h₁:=h₁) (t':=s3.toks+([]:List (Str×Value)).length) ok I3 h2 h3 hf3 lt3 k4 hns₁ oc;have st4:tn 0 h₁:=T.keep _ _ _ st3 λb _ o e=>k4 b o e;generalize hX:Ib X N' scope cl s3.heap.objs.size s3 (Hr H p (.dK [])) fp=X' at I4;have hg':PG X' tg g:=by rw[←hX];exact hg _ _ _ _ _
 have ht':Ic X' ifs tc:=by rw[←hX];exact ht _ _ _ _ _
 have he':PE X' kx tk:=by rw[←hX];exact he _ _ _ _ _
 have hv':PE X' vx tv:=by rw[←hX];exact hv _ _ _ _ _
 have eP:X'.prog=X.prog:=by rw[←hX];rfl
 have ew:X'.w=X.w:=by rw[←hX];rfl
 have eK:X'.K=X.K:=by rw[←hX];rfl
 have ec:X'.calm=true:=by rw[←hX];exact hc
 have eA:X'.A=X.A:=by rw[←hX];rfl
 have ex:X'.xe=λ_ _=>False:=by rw[←hX];rfl
 have eE:X'.env=compEnvC scope cl s3.heap.objs.size X.env:=by rw[←hX];rfl
 have eEx:X'.ex=fp:=by rw[←hX];rfl
 have eN:X'.pn=[]:=by rw[←hX];rfl
 have stat:∀{H':Hp},(∀b∈fp,H' b=none)→∀b∈fp,HA X' [] H' b:=λ{H'}hn b hb=>by have okc:=I4.ok;refine⟨hn b hb,(okc.exf b (by rw[eEx];exact hb)).1,okc.exfs b (by rw[eEx];exact hb),.inl (by rw[eEx];exact hb),(okc.exf b (by rw[eEx];exact hb)).2,λq hq=>?_⟩;rw[eN] at hq;cases hq
 have loop:∀s₄:Shared,s₄={s3 with heap:=h₁,toks:=s3.toks+([]:List (Str×Value)).length}→
  codeAny (model X.prog X.w) X.A (.compLoop (.DictComp kx vx [⟨tg,iter,ifs,0⟩] scope pos) 0 (.ref it) (.ref p) (compEnvC scope cl s3.heap.objs.size X.env))
   (λr s'=>r= .ok .next∧(∃m,s'.heap.Ns s3.heap.objs.size m)∧∃v H',RelV v (.ref p)∧Inv X pins σ H' s'∧HA X pins H' s3.heap.objs.size∧Q v H') s₄:=by
  rintro s₄ rfl;refine Yv (λn s'=>∃i σ' ys H',Inv X' [] σ' H' s'∧tn i s'.heap∧(∀b∈fp,H' b=none)∧W i n σ' ys H') ?_ m0 ⟨0,_,[],_,I4,st4,λb hb=>(hf3 b hb).1,w0⟩;rintro n s5 ⟨i,σ5,ys,H5,I5,st5,fr5,w5⟩;obtain⟨hp5,tu⟩:=turn i n σ5 ys H5 w5;rcases tu with⟨stop,qn⟩ | ⟨go,hz,step⟩
  · have D:=T.done X' eP ew eK ec i [] s5 σ5 H5 (λ_ _=>False) I5 (stat fr5) st5 stop;rw[eA] at D;refine Hx D λr s6 ⟨hr,I6⟩=>?_;subst hr;refine⟨rfl,?_,.ref p,H5,rfl,?_,?_,qn⟩
    · obtain⟨m,hm,_⟩:=I6.loc;rw[eE] at hm;exact⟨m,hm⟩
    · have b6:=I6.base;have ho:=I6.os;have hk:=I6.hok;have hb:=I6.bare;subst hX;exact I3.call' (ch:=fp) ho b6 hk hb λb hb'=>⟨(hf b hb').2.2.2.1,(hf b hb').2.1,(hf b hb').2.2.2.2.1,(hf b hb').2.2.2.2.2⟩
    · have fr:=I6.free;rw[eE] at fr;exact I3.fpOk (Ah _) fr
  · have D:=T.item X' eP ew eK ec i [] s5 σ5 H5 (λ_ _=>False) I5 (stat fr5) st5 go;rw[eA] at D;refine Hx D λr s6 ⟨u,hr,h6⟩=>?_;subst hr;refine Hx h6 λ_ s7 ⟨x,H7,I7,r7,y7,st7,fr7⟩=>?_;have I7':=I7.pinned (stat fr7) (T.obj _ _ st7);have G:=hg' _ s7 σ5 H7 x u _ I7' r7 (step x H7 y7);rw[eP,ew,eA,ex,eE] at G;refine Hx G λ_ s8 ⟨σ8,H8,I8,q8⟩=>?_;have Tt:=ht' _ s8 σ8 H8 _ I8 q8;rw[eP,ew,eA,ex,eE] at Tt;refine Hx Tt λb s9 ⟨H9,I9,q9⟩=>?_;have again:∀{s':Shared}{ys':List (HF×V)}{H':Hp},Inv X' ([]++Jb fp s7.heap) σ8 H' s'→(∃m',m'<n∧W (i+1) m' σ8 ys' H')→
     ∃m,m<n∧∃i σ' ys H',Inv X' [] σ' H' s'∧tn i s'.heap∧(∀b∈fp,H' b=none)∧W i m σ' ys H':=λ{s' ys' H'}I' ⟨m',hm,w'⟩=>by
     refine⟨m',hm,i+1,σ8,ys',H',I'.unpinned,T.keep _ _ _ st7 λb hb o e=>(I'.pin (b,o) (Ag _ (Ag _ (J8 hb e)))).1,λb hb=>?_,w'⟩;obtain⟨o,e,d⟩:=T.obj _ _ st7 b hb;exact(I'.pin (b,o) (Ag _ (Ag _ (J8 hb e)))).2.1
    cases b with
    | false=>exact again I9 q9
    | true=>
     have Ee:=he' _ s9 σ8 H9 _ I9 q9;rw[eP,ew,eA,ex,eE] at Ee;show wpAny _ _ _ _ _ _;refine Hx Ee λkv s10 ⟨kk,H10,I10,r10,q10⟩=>?_;have Ev:=hv' _ s10 σ8 H10 _ I10 q10;rw[eP,ew,eA,ex,eE] at Ev;refine Hx Ev λvv s11 ⟨y,H11,I11,r11,ky,ek,hp11,q11⟩=>?_;subst ek;obtain⟨z0,hd0,vs0,rel0,dd0⟩:=Kg I11.hok hp11;have hz0:vs0.length≤Av:=by rw[←rel0.length];exact z0
     have hl0:(HM ys ky y).length≤Av:=by have:=MD ys ky y;omega
     rw[eP,ew] at dd0;refine wpAny_dictSet_pairs (hsz:=hz0) (Lw r10) dd0 λh' dd' hs'=>?_;have he0:∃q,h'.get? p=some q:=let⟨q,_,_,hq,_⟩:=dd';⟨q,hq⟩;have I12:=OC (t':=s11.toks+1) I11 (by rw[hp11];exact True.intro) hs' he0 (O2 hl0 hd0 (rel0.put ky r11) (by rw[eP,ew];exact dd'));exact again I12 q11
 exact codeAny_compStart_dict (loop _ rfl) (T.self _ 0 _ _ _ st4 (loop _ rfl))
theorem Uc(hc:X.calm=true)(ok:CapOk X N' js scope)(hi:PI X tg iter wi)
 (hg:∀cl C s₀ H₀ ex,PG (Ib X N' scope cl C s₀ H₀ ex) tg g) (ht:∀cl C s₀ H₀ ex,Ic (Ib X N' scope cl C s₀ H₀ ex) ifs tc) (he:∀cl C s₀ H₀ ex,PE (Ib X N' scope cl C s₀ H₀ ex) kx tk) (hv:∀cl C s₀ H₀ ex,PE (Ib X N' scope cl C s₀ H₀ ex) vx tv)
 (hs:∀x,Bj iter X.env x=pure x:=by intro _;rfl):PE X (.DictComp kx vx [⟨tg,iter,ifs,0⟩] scope pos) (Z5 wi js g tc tk tv):=by
 intro pins s σ H Q I h;obtain⟨cl,c1,c2,c3⟩:=M0 (scope:=scope) I.ok.has ok.free;show wpAny _ X.A (comprehension (.DictComp kx vx [⟨tg,iter,ifs,0⟩] scope pos) scope X.env _ newDict false (eval iter X.env)) _ _ s;refine CD (use:=none) rfl hs c1 ok.kind ok.names (Hx (hi pins s σ H _ I h) λv s1 h1=>Hx h1 λitv s2 h2=>?_);obtain⟨it,fp,tn,J,H2,e,I2,T,st2,f2,hw⟩:=h2;subst e;refine Ay (Wq (iter:=iter) (pos:=pos) hc ok c2 c3 hg ht he hv I2 T st2 f2 hw) (λacc s3 h3=>Ay h3 (λcenv s4 h4=>?_) λ_ _ z=>z) λ_ _ z=>z;refine Cd h4 λr s5 h5=>?_;obtain⟨rfl,⟨m,hm⟩,v,H5,rv,I5,f5,q5⟩:=h5;refine⟨m,hm,λh' sb=>?_⟩;obtain⟨f0,f1,_,f3,f4,f6⟩:=f5;exact⟨v,H5,I5.turned (t':=s5.toks) (λb o hb e=>(sb.2 b hb).trans e) f0 f1 f3 f4 f6,rv,q5⟩
end
theorem O7{ti tp:Addr}{k:Nat}{vs:Array Value}{v:Value}{Q:Value→Shared→Prop}(hi:s.heap.IsTupleIter ti tp k)(ht:s.heap.IsTuple tp vs)(hv:vs[k]?=some v)
 (fin:∀g,g.IsTupleIter ti tp (k+1)→BD ti s.heap g→Q v {s with heap:=g}):wpAny (model prog w) A (A_ (.ref ti)) Q E s:=by
 obtain⟨oi,e1,c1,d1⟩:=id hi;obtain⟨ot,e2,_,nt,d2⟩:=ht;unfold A_;refine Aa (Bb (name:=BE "__next__") hi.typeIs Bn (AV Bn hi.typeIs C4 ?_ (Cy _)));show wpAny _ _ (field (.ref ti) 0>>=_) _ _ s;refine Aa (AZ e1 d1 (x:= .ref tp) rfl ?_);show wpAny _ _ (if(Value.ref tp==Value.none)=true then _ else _) _ _ s
 rw[if_neg (show ¬((Value.ref tp==Value.none)=true) from AA)];show wpAny _ _ (field (.ref ti) 1>>=_) _ _ s;refine Aa (AZ e1 d1 (x:= .int k 0) rfl ?_);show wpAny _ _ (seqItems? (.ref tp)>>=_) _ _ s;refine Aa (Bd e2 d2 ?_);simp only[Bk,hv];refine Aa (BP e1 d1 (by simp) (Ac ⟨v,rfl,Ac (fin _ ?_ (AU ..))⟩));exact⟨_,Bh _ e1 (FJ (DG d1 _)),(Obj.cls_mapFields ..).trans c1,by rw[DG d1];simp[rawInt]⟩
theorem QP{ti tp:Addr}{k:Nat}{vs:Array Value}{Q:Value→Shared→Prop}(hh:A.handled=none)(hi:s.heap.IsTupleIter ti tp k)(ht:s.heap.IsTuple tp vs)(hv:vs[k]?=none)
 (fin:∀g e,DU ti s.heap g→(∃o,g.get? e=some o∧o.cls= .type "StopIteration")→E (.ref e) {s with heap:=g}):wpAny (model prog w) A (A_ (.ref ti)) Q E s:=by
 obtain⟨oi,e1,c1,d1⟩:=id hi;obtain⟨ot,e2,_,nt,d2⟩:=ht;unfold A_;refine Aa (Bb (name:=BE "__next__") hi.typeIs Bn (AV Bn hi.typeIs C4 ?_ (Cy _)));show wpAny _ _ (field (.ref ti) 0>>=_) _ _ s;refine Aa (AZ e1 d1 (x:= .ref tp) rfl ?_);show wpAny _ _ (if(Value.ref tp==Value.none)=true then _ else _) _ _ s
 rw[if_neg (show ¬((Value.ref tp==Value.none)=true) from AA)];show wpAny _ _ (field (.ref ti) 1>>=_) _ _ s;refine Aa (AZ e1 d1 (x:= .int k 0) rfl ?_);show wpAny _ _ (seqItems? (.ref tp)>>=_) _ _ s;refine Aa (Bd e2 d2 ?_);simp only[Bk,hv];refine Aa (BI (Aa (BP e1 d1 (by simp) ?_)));show wpAny _ _ (newExc (.type "StopIteration") []>>=_) _ _ _;refine Aa ?_;simp only[newExc,newTuple];refine Aa (AW ?_ (by size_fits));refine Aa (m:=firstArgMember _ _) (D3 (a:=Value.none) (by first | rfl | (simp only[firstArgMember];rfl)) ?_)
 refine AW ?_ (by size_fits);simp only[raiseNew];refine Aa (wpAny_handled ?_)
 first | rw[show A.in1.handled=none from hh] | rw[hh]
 refine Aa (Ac (wpAny_throw ?_));exact fin _ _ (((AU ..).extBut.push _).push _) ⟨_,An _ rfl,rfl⟩
structure ZA(z a b i j:Addr):Prop where
 az:a≠z
 bz:b≠z
 iz:i≠z
 jz:j≠z
 ab:a≠b
 ai:a≠i
 aj:a≠j
 bi:b≠i
 bj:b≠j
 ij:i≠j
theorem KG{h':Heap}{t c:Addr}{vs:Array Value}(x:h.IsTuple t vs)(hs:BD c h h')(n:t≠c):h'.IsTuple t vs:=x.extBut hs.extBut n
theorem V0{z i j t1 t2:Addr}{k1 k2:Nat}{xs ys:Array Value}{x y p q:Value}{Q:Value→Shared→Prop}(D:ZA z a b i j)(n1:t1≠z∧t1≠b∧t1≠i∧t1≠j)(n2:t2≠z∧t2≠b∧t2≠i∧t2≠j)
 (hz:IsZip s.heap z a b .none) (ha:IsPair s.heap a (.ref i) (.ref j)) (hb:IsPair s.heap b p q) (h1:s.heap.IsTupleIter i t1 k1) (h2:s.heap.IsTupleIter j t2 k2) (g1:s.heap.IsTuple t1 xs) (g2:s.heap.IsTuple t2 ys) (hx:xs[k1]?=some x) (hy:ys[k2]?=some y)
 (fin:∀g,IsZip g z a b (rawInt s.heap.objs.size)→IsPair g b x y→g.IsTupleIter i t1 (k1+1)→g.IsTupleIter j t2 (k2+1)→IsPair g s.heap.objs.size x y→
  (∀c o,c≠z→c≠b→c≠i→c≠j→s.heap.get? c=some o→g.get? c=some o)→Q (.ref s.heap.objs.size) {s with heap:=g}):
 wpAny (model prog w) A (Builtin.«zip.__next__» ⟨[.ref z],[]⟩) (λr s'=>∃v,r= .done (.ret v)∧Q v s') E s:=by
 show wpAny _ _ (field (.ref z) 2>>=_) _ _ _;refine Aa (AZ hz rfl (x:= .bool false) rfl ?_);show wpAny _ _ (field (.ref z) 3>>=_) _ _ _;refine Aa (AZ hz rfl (x:= .ref a) rfl ?_);refine Aa (Bd ha rfl ?_);show wpAny _ _ (BF (.ref z)>>=_) _ _ _;refine Aa ?_;unfold BF;refine Aa (AZ hz rfl (x:= .none) rfl (Ac ?_));simp only[if_true];refine Aa (BI ?_);refine Aa (AZ hz rfl (x:= .ref b) rfl ?_);refine Aa (BJ hz (by simp) λw1 z1 m1=>?_)
 replace z1:IsZip w1 z a b .ellipsis:=z1
 refine Aa ?_;simp only[List.zipIdx_cons,List.zipIdx_nil,Fy,FI];refine Aa (Aa (EJ ?_));show wpAny _ _ (A_ (.ref i)>>=_) _ _ _;refine Aa (O7 (h1.extBut m1.extBut D.iz) (KG g1 m1 n1.1) hx λw2 i2 m2=>Ac ?_);have b2:IsPair w2 b p q:=m2.extBut _ _ D.bi (m1.extBut _ _ D.bz hb);refine Aa (Bd b2 rfl ?_);refine Aa (Er b2 λw3 b3 m3=>?_)
 replace b3:IsPair w3 b x q:=b3
 refine Aa (Ce (Ac ?_));refine Aa (Aa (EJ ?_));show wpAny _ _ (A_ (.ref j)>>=_) _ _ _;refine Aa (O7 (((h2.extBut m1.extBut D.jz).extBut m2.extBut D.ij.symm).extBut m3.extBut D.bj.symm) (KG (KG (KG g2 m1 n2.1) m2 n2.2.2.1) m3 n2.2.1) hy λw4 j4 m4=>Ac ?_);have b4:IsPair w4 b x q:=m4.extBut _ _ D.bj b3;refine Aa (Bd b4 rfl ?_);refine Aa (Er b4 λw5 b5 m5=>?_)
 replace b5:IsPair w5 b x y:=b5
 refine Aa (Ce (Ac (Ac ?_)));refine Aa (Bd b5 rfl ?_);refine Aa (E2 ?_);have sz:w5.objs.size=s.heap.objs.size:=by rw[m5.1,m4.1,m3.1,m2.1,m1.1]
 have z5:IsZip w5 z a b .ellipsis:=m5.extBut _ _ D.bz.symm (m4.extBut _ _ D.jz.symm (m3.extBut _ _ D.bz.symm (m2.extBut _ _ D.iz.symm z1)));have k5:∀c o,c≠z→c≠b→c≠i→c≠j→s.heap.get? c=some o→w5.get? c=some o:=λc o c1 c2 c3 c4 e=> m5.extBut _ _ c2 (m4.extBut _ _ c4 (m3.extBut _ _ c2 (m2.extBut _ _ c3 (m1.extBut _ _ c1 e))));have i5:w5.IsTupleIter i t1 (k1+1):=((i2.extBut m3.extBut D.bi.symm).extBut m4.extBut D.ij).extBut m5.extBut D.bi.symm;have j5:w5.IsTupleIter j t2 (k2+1):=j4.extBut m5.extBut D.bj.symm;have zlt:z<w5.objs.size:=Ao z5;show wpAny _ _ (Cs (.ref z) (.ref w5.objs.size)>>=_) _ _ _;refine Aa ?_;unfold Cs;have z6:IsZip (w5.push {cls:= .type "tuple",data:= .seq #[x,y]}) z a b .ellipsis:=Ad _ z5;refine Aa (BJ z6 (by simp) λw7 z7 m7=>?_)
 replace z7:IsZip w7 z a b (rawInt w5.objs.size):=z7
 refine BJ z7 (by simp) λw8 z8 m8=>?_
 replace z8:IsZip w8 z a b (rawInt w5.objs.size):=z8
 have up:∀c o,c≠z→w5.get? c=some o→w8.get? c=some o:=λc o c1 e=>m8.extBut _ _ c1 (m7.extBut _ _ c1 (Ad _ e));have t8:IsPair w8 w5.objs.size x y:=m8.extBut _ _ (C1 zlt) (m7.extBut _ _ (C1 zlt) (An _ rfl));rw[sz] at z8 t8;refine Ac ⟨_,rfl,?_⟩;show Q (.ref w5.objs.size) _;rw[sz];obtain⟨oi,ei,ri⟩:=i5;obtain⟨oj,ej,rj⟩:=j5;exact fin w8 z8 (up _ _ D.bz b5) ⟨oi,up _ oi D.iz ei,ri⟩ ⟨oj,up _ oj D.jz ej,rj⟩ t8 λc o c1 c2 c3 c4 e=>up c o c1 (k5 c o c1 c2 c3 c4 e)
theorem U1{z i j t1 t2:Addr}{k1 k2:Nat}{xs ys:Array Value}{p q:Value}{Q:Fin→Shared→Prop}(hh:A.handled=none)(D:ZA z a b i j)(n1:t1≠z∧t1≠b∧t1≠i∧t1≠j)(n2:t2≠z∧t2≠b∧t2≠i∧t2≠j)
 (hz:IsZip s.heap z a b .none) (ha:IsPair s.heap a (.ref i) (.ref j)) (hb:IsPair s.heap b p q) (h1:s.heap.IsTupleIter i t1 k1) (h2:s.heap.IsTupleIter j t2 k2) (g1:s.heap.IsTuple t1 xs) (g2:s.heap.IsTuple t2 ys) (hend:xs[k1]?=none∨ys[k2]?=none)
 (fin:∀g e,(∀c o,c≠z→c≠b→c≠i→c≠j→s.heap.get? c=some o→g.get? c=some o)→(∃o,g.get? e=some o∧o.cls= .type "StopIteration")→E (.ref e) {s with heap:=g}):
 wpAny (model prog w) A (Builtin.«zip.__next__» ⟨[.ref z],[]⟩) Q E s:=by
 show wpAny _ _ (field (.ref z) 2>>=_) _ _ _;refine Aa (AZ hz rfl (x:= .bool false) rfl ?_);show wpAny _ _ (field (.ref z) 3>>=_) _ _ _;refine Aa (AZ hz rfl (x:= .ref a) rfl ?_);refine Aa (Bd ha rfl ?_);show wpAny _ _ (BF (.ref z)>>=_) _ _ _;refine Aa ?_;unfold BF;refine Aa (AZ hz rfl (x:= .none) rfl (Ac ?_));simp only[if_true];refine Aa (BI ?_);refine Aa (AZ hz rfl (x:= .ref b) rfl ?_);refine Aa (BJ hz (by simp) λw1 z1 m1=>?_)
 replace z1:IsZip w1 z a b .ellipsis:=z1
 refine Aa ?_;simp only[List.zipIdx_cons,List.zipIdx_nil,Fy,FI];refine Aa (Aa (EJ ?_));show wpAny _ _ (A_ (.ref i)>>=_) _ _ _;cases hx:xs[k1]? with
 | none=>
  refine Aa (QP hh (h1.extBut m1.extBut D.iz) (KG g1 m1 n1.1) hx λw2 e m2 he=>?_);obtain⟨oe,e1,e2⟩:=he;have z2:IsZip w2 z a b .ellipsis:=m2 _ _ D.iz.symm z1;have ez:e≠z:=λu=>by subst u;rw[z2] at e1;cases e1;simp at e2
  exact BJ z2 (by simp) λw3 _ m3=>fin w3 e (λc o c1 _ c3 _ u=>m3.extBut _ _ c1 (m2 _ _ c3 (m1.extBut _ _ c1 u))) ⟨oe,m3.extBut _ _ ez e1,e2⟩
 | some x=>
  have hy:ys[k2]?=none:=by
   rcases hend with u | u
   · rw[hx] at u;cases u
   · exact u
  refine Aa (O7 (h1.extBut m1.extBut D.iz) (KG g1 m1 n1.1) hx λw2 i2 m2=>Ac ?_);have b2:IsPair w2 b p q:=m2.extBut _ _ D.bi (m1.extBut _ _ D.bz hb);refine Aa (Bd b2 rfl ?_);refine Aa (Er b2 λw3 b3 m3=>?_);refine Aa (Ce (Ac ?_));refine Aa (Aa (EJ ?_));show wpAny _ _ (A_ (.ref j)>>=_) _ _ _;refine Aa (QP hh (((h2.extBut m1.extBut D.jz).extBut m2.extBut D.ij.symm).extBut m3.extBut D.bj.symm) (KG (KG (KG g2 m1 n2.1) m2 n2.2.2.1) m3 n2.2.1) hy λw4 e m4 he=>?_);obtain⟨oe,e1,e2⟩:=he;have z4:IsZip w4 z a b .ellipsis:=m4 _ _ D.jz.symm (m3.extBut _ _ D.bz.symm (m2.extBut _ _ D.iz.symm z1));have ez:e≠z:=λu=>by subst u;rw[z4] at e1;cases e1;simp at e2
  exact BJ z4 (by simp) λw5 _ m5=>fin w5 e (λc o c1 c2 c3 c4 u=>m5.extBut _ _ c1 (m4 _ _ c4 (m3.extBut _ _ c2 (m2.extBut _ _ c3 (m1.extBut _ _ c1 u))))) ⟨oe,m5.extBut _ _ ez e1,e2⟩
section
variable{h':Heap}
theorem Inv.newTup{T:Addr}{x y:V}{t':Nat}(I:Inv X pins σ H s)(ch:List Addr)(hch:∀c∈ch,HA X pins H c)(keep:∀c o,c ∉ ch→s.heap.get? c=some o→h'.get? c=some o)(hT:s.heap.objs.size≤T)
 (tup:∃its:List Value,Vals [x,y] its∧IsTupP h' T its.toArray):Inv X pins σ (Hr H T (.tup [x,y])) {s with heap:=h',toks:=t'}:=by
 have hn:H T=none:=I.hok.fresh hT;have neT:∀c o,s.heap.get? c=some o→c≠T:=λc o e=>Ar (AD (Ao e) hT);have off:∀c u,H c=some u→c ∉ ch:=λc u e z=>by rw[(hch c z).1] at e;cases e
 refine I.step (g':=s.gens) (d':=s.drawn) (ch:=ch) (λc hc=>⟨(hch c hc).2.2.2.1,(hch c hc).2.1,(hch c hc).2.2.2.2.1,(hch c hc).2.2.2.2.2⟩) (λc o _ _ hc e _=>keep c o hc e) (λc o _ _ hc e _=>⟨o.slots,keep c o hc e⟩)
  (λc o _ e n=>by rw[HD (neT c o e)];exact n) (λc o hc e=>⟨o,keep c o hc e⟩) (λc xs e=>by rw[HD (IT e hn)];exact e) (λc o u e=>by rw[HD (IT e hn)];exact e)
  (λc ps e=>⟨#[],by rw[HD (IT e hn),e];simp⟩) (λm hm=>?_) (λc u e=>?_) I.bare
 · obtain⟨o,es,ep,ho,r⟩:=hm;exact⟨o,es,ep,keep _ o (λz=>(hch _ z).2.1 rfl) ho,r⟩
 · by_cases hc:c=T
   · subst hc;rw[Hu] at e;cases e;obtain⟨its,r,p⟩:=tup;exact⟨by show 2≤Av;decide,its,r,p⟩
   · rw[HD hc] at e;refine(I.hok c u e).stay (λd v hd q=>keep d v ?_ q) (λd q=>by rw[HD (IT q hn)];exact q) λd xs q=>by rw[HD (IT q hn)];exact q
     rcases hd with z | z
     · rw[z];exact off c u e
     · exact off d _ z
theorem Inv.turnedN{t':Nat}(I:Inv X pins σ H s)(ch:List Addr)(hch:∀c∈ch,HA X pins H c)(keep:∀c o,c ∉ ch→s.heap.get? c=some o→h'.get? c=some o):Inv X pins σ H {s with heap:=h',toks:=t'}:=by
 have off:∀c u,H c=some u→c ∉ ch:=λc u e z=>by rw[(hch c z).1] at e;cases e
 refine I.step (g':=s.gens) (d':=s.drawn) (ch:=ch) (λc hc=>⟨(hch c hc).2.2.2.1,(hch c hc).2.1,(hch c hc).2.2.2.2.1,(hch c hc).2.2.2.2.2⟩) (λc o _ _ hc e _=>keep c o hc e) (λc o _ _ hc e _=>⟨o.slots,keep c o hc e⟩)
  (λc o _ e n=>n) (λc o hc e=>⟨o,keep c o hc e⟩) (λc xs e=>e) (λc o u e=>e) (λc ps e=>⟨#[],by rw[e];simp⟩) (λm hm=>?_) (λc u e=>?_) I.bare
 · obtain⟨o,es,ep,ho,r⟩:=hm;exact⟨o,es,ep,keep _ o (λz=>(hch _ z).2.1 rfl) ho,r⟩
 · refine(I.hok c u e).stay (λd v hd q=>keep d v ?_ q) (λ_ q=>q) λ_ _ q=>q;rcases hd with z | z
   · rw[z];exact off c u e
   · exact off d _ z
theorem J0{t c:Addr}(I:Inv X pins σ H s)(h:SqT X.K H t xs)(f:HA X pins H c):t≠c:=by
 intro e;subst e;rcases h with(h | ⟨o,h⟩) | ⟨o,its,n,hk,_⟩
 · rw[f.1] at h;cases h
 · rw[f.1] at h;cases h
 · have eb:=I.ok.mod.kin t o hk;rcases f.2.2.2.1 with z | z
   · exact I.ok.noex t o eb z
   · exact absurd (AD (Ao eb) (AY I.ok.bsz z)) (Dl _)
end
def On(K:Ae)(t1 t2:Addr):It:=
 ⟨λk H=>∃(xs ys:List V)(x y:V),SqT K H t1 xs∧SqT K H t2 ys∧xs[k]?=some x∧ys[k]?=some y,
  λk H v H'=>∃p,v= .ref p∧H p=none∧∀(xs ys:List V)(x y:V),SqT K H t1 xs→SqT K H t2 ys→xs[k]?=some x→ys[k]?=some y→H'=Hr H p (.tup [x,y]),
  λk H=>∃(xs ys:List V),SqT K H t1 xs∧SqT K H t2 ys∧(xs.length≤k∨ys.length≤k)⟩
theorem VC{P:Br}{w:World}{K:Ae}{es:List Expr}{kk:Nat}{pos:Pos}(t1 t2 z a b i j:Addr)(D:ZA z a b i j):
 Turn P w K (.Tuple es kk pos) (On K t1 t2) [z,a,b,i,j] z (λk h=>IsZip h z a b .none∧IsPair h a (.ref i) (.ref j)∧(∃p q,IsPair h b p q)∧h.IsTupleIter i t1 k∧h.IsTupleIter j t2 k) where
 mem:=by simp
 obj:=λk h st c hc=>by
  obtain⟨hz,ha,⟨p,q,hb⟩,⟨oi,ei,_,di⟩,⟨oj,ej,_,dj⟩⟩:=st;simp only[As,Bo,or_false] at hc;rcases hc with rfl | rfl | rfl | rfl | rfl
  · exact⟨_,hz,λv e=>by cases e⟩
  · exact⟨_,ha,λv e=>by cases e⟩
  · exact⟨_,hb,λv e=>by cases e⟩
  · exact⟨oi,ei,λv e=>by rw[di] at e;cases e⟩
  · exact⟨oj,ej,λv e=>by rw[dj] at e;cases e⟩
 keep:=λk h h' st kp=>by obtain⟨hz,ha,⟨p,q,hb⟩,⟨oi,ei,ri⟩,⟨oj,ej,rj⟩⟩:=st;exact⟨kp z (by simp) _ hz,kp a (by simp) _ ha,⟨p,q,kp b (by simp) _ hb⟩,⟨oi,kp i (by simp) _ ei,ri⟩,⟨oj,kp j (by simp) _ ej,rj⟩⟩
 item:=by
  intro X hP hw hK hc k pins s σ H E I hf st hg;subst hP hw hK;obtain⟨xs,ys,x,y,q1,q2,hx,hy⟩:=hg;obtain⟨hz,ha,⟨p,q,hb⟩,h1,h2⟩:=st;obtain⟨its1,r1,g1,_⟩:=I.tuple q1;obtain⟨its2,r2,g2,_⟩:=I.tuple q2;obtain⟨u1,hu1,v1⟩:=r1.get hx;obtain⟨u2,hu2,v2⟩:=r2.get hy;have fz:=hf z (by simp);have fb:=hf b (by simp);have fi:=hf i (by simp);have fj:=hf j (by simp);have hT:s.TypeIs (.ref z) "zip":=⟨_,hz,rfl⟩;unfold pyNext;refine Aa (Do (Bb (name:=BE "__next__") hT Dt (AV Dt hT FC
   (V0 D ⟨J0 I q1 fz,J0 I q1 fb,J0 I q1 fi,J0 I q1 fj⟩ ⟨J0 I q2 fz,J0 I q2 fb,J0 I q2 fi,J0 I q2 fj⟩ hz ha hb h1 h2 g1 g2 (by simpa using hu1) (by simpa using hu2) λg a1 a2 a3 a4 a5 a6=>Ac ?_) (Ft _))))
  refine⟨_,rfl,wpAny_letOwnedTupleGo_zip a1 λg' z' m'=>?_⟩;have zT:z≠s.heap.objs.size:=Ar (Ao hz);have up:∀c o,c≠z→g.get? c=some o→g'.get? c=some o:=λc o hc e=>m'.extBut c o hc e;have fr:H s.heap.objs.size=none:=I.hok.fresh (Ah _);have I1:Inv X pins σ (Hr H s.heap.objs.size (.tup [x,y])) {s with heap:=g'}:=by
   refine I.newTup (t':=s.toks) [z,b,i,j] (λc hc=>?_) (λc o hc e=>?_) (Ah _) ⟨[u1,u2],.cons v1 (.cons v2 .nil),_,up _ _ zT.symm a5,rfl,rfl,_,rfl⟩
   · simp only[As,Bo,or_false] at hc;rcases hc with rfl | rfl | rfl | rfl
     · exact fz
     · exact fb
     · exact fi
     · exact fj
   · simp only[As,Bo,or_false,not_or] at hc;exact up c o hc.1 (a6 c o hc.1 hc.2.1 hc.2.2.1 hc.2.2.2 e)
  obtain⟨oi,ei,ri⟩:=a3;obtain⟨oj,ej,rj⟩:=a4;refine⟨.ref s.heap.objs.size,_,I1,rfl,⟨_,rfl,fr,λxs' ys' x' y' s1 s2 e1 e2=>?_⟩,⟨z',up _ _ D.az (a6 a _ D.az D.ab D.ai D.aj ha),⟨_,_,up _ _ D.bz a2⟩,⟨oi,up _ _ D.iz ei,ri⟩,⟨oj,up _ _ D.jz ej,rj⟩⟩,λc hc=>?_⟩
  · rw[I.tuple_inj s1 q1,hx] at e1;rw[I.tuple_inj s2 q2,hy] at e2;cases e1;cases e2;rfl
  · have fc:=hf c hc;have:c≠s.heap.objs.size:=by
     simp only[As,Bo,or_false] at hc;obtain⟨oi',ei',_⟩:=h1;obtain⟨oj',ej',_⟩:=h2;rcases hc with rfl | rfl | rfl | rfl | rfl
     · exact zT
     · exact Ar (Ao ha)
     · exact Ar (Ao hb)
     · exact Ar (Ao ei')
     · exact Ar (Ao ej')
    rw[HD this];exact fc.1
 done:=by
  intro X hP hw hK hc k pins s σ H E I hf st hg;subst hP hw hK;obtain⟨xs,ys,q1,q2,hend⟩:=hg;obtain⟨hz,ha,⟨p,q,hb⟩,h1,h2⟩:=st;obtain⟨its1,r1,g1,_⟩:=I.tuple q1;obtain⟨its2,r2,g2,_⟩:=I.tuple q2;have l1:=r1.length;have l2:=r2.length;have fz:=hf z (by simp);have fb:=hf b (by simp);have fi:=hf i (by simp);have fj:=hf j (by simp);have hT:s.TypeIs (.ref z) "zip":=⟨_,hz,rfl⟩;unfold pyNext;refine Aa (Do (Bb (name:=BE "__next__") hT Dt (AV Dt hT FC
   (U1 (I.ok.hd hc) D ⟨J0 I q1 fz,J0 I q1 fb,J0 I q1 fi,J0 I q1 fj⟩ ⟨J0 I q2 fz,J0 I q2 fb,J0 I q2 fi,J0 I q2 fj⟩ hz ha hb h1 h2 g1 g2 ?_ λg e kp he=>?_) (Ft _))))
  · rcases hend with u | u
    · exact .inl (by simp;omega)
    · exact .inr (by simp;omega)
  · obtain⟨o,ho,hcl⟩:=he;refine Aa (De (T:="StopIteration") (b:=true) ⟨o,ho,hcl⟩ isSubtype_stop ?_);refine Ac ⟨rfl,I.turnedN (t':=s.toks) [z,b,i,j] (λc hc=>?_) (λc o hc e=>?_)⟩
    · simp only[As,Bo,or_false] at hc;rcases hc with rfl | rfl | rfl | rfl
      · exact fz
      · exact fb
      · exact fi
      · exact fj
    · simp only[As,Bo,or_false,not_or] at hc;exact kp c o hc.1 hc.2.1 hc.2.2.1 hc.2.2.2 e
 self:=λ_ _ _ _ _ st h=>wpAny_pyIter_zip st.1 h
abbrev Lu(h:Heap)(t:Addr):Heap:=h.push {cls:= .type "tuple_iterator",data:= .fields #[.ref t,.int 0 0]}
abbrev Ls(h:Heap)(t u:Addr):Heap:=(Lu h t).push {cls:= .type "tuple_iterator",data:= .fields #[.ref u,.int 0 0]}
abbrev Lr(h:Heap)(t u:Addr):Heap:=(Ls h t u).push {cls:= .type "tuple",data:= .seq #[.ref h.objs.size,.ref (Lu h t).objs.size]}
abbrev LR(h:Heap)(t u:Addr):Heap:=(Lr h t u).push {cls:= .type "tuple",data:= .seq #[.none,.none]}
abbrev K_(h:Heap)(t u:Addr):Heap:=(LR h t u).push {cls:= .type "zip",data:= .fields #[.none,.bool false,.bool false,.ref (Ls h t u).objs.size,.ref (Lr h t u).objs.size]}
theorem U2(t u:Addr)(xs ys:Array Value):Meets (Builtin.«zip.__new__» ⟨[.type "zip",.ref t,.ref u],[]⟩) (λ_ R s=>s.heap.IsTuple t xs∧s.heap.IsTuple u ys∧
 R (.ok (.ret (.ref (LR s.heap t u).objs.size))) {s with heap:=K_ s.heap t u}):=
 .of_wp λprog w A R s h=>by
  obtain⟨hp,g,d,tk,os⟩:=s;obtain⟨g1,g2,h⟩:=h;have f0:=sub_zip;have f1:Heap.IsTuple (Shared.heap ⟨hp,g,d,tk,os⟩) t xs:=g1;have f2:Heap.IsTuple (Shared.heap ⟨hp.push {cls:= .type "tuple_iterator",data:= .fields #[.ref t,.int 0 0]},g,d,tk,os⟩) u ys:=EU g2 _
  wp_walk using C8 f1,C8 f2
  exact⟨_,rfl,h⟩
theorem UY:Bf "zip"=some (.type "zip"):=by decide+kernel
def Qp(K:Ae)(ta:TA):TI:=λσ H R=>ta σ H λvs H1=>∃t u,vs=[.ref t,.ref u]∧(∃xs,SqT K H1 t xs)∧(∃ys,SqT K H1 u ys)∧R (On K t u) H1
theorem UT{es:List Expr}{kk:Nat}{tpos:Pos}{a b:Expr}{ta:TA}{p pos:Pos}(hg:Gl X "zip")(hm:X.mg "zip"=none)(ha:PA X [a,b] ta)
 (he:AR [a,b] X.env=(false,eval a X.env)::AR [b] X.env:=by rfl) (hpl:(backTo pos (AR [b] X.env)).any (·.1)=false:=by rfl):
 PI X (.Tuple es kk tpos) (.Call (.Name "zip" p) [a,b] [] pos) (Qp X.K ta):=by
 intro pins s σ H R I h;refine C9 (Lg I hg hm UY ?_ (by decide) (by decide));refine CO (Hx (ha pos pins s σ H _ I h) λus s1 ⟨vs,H1,I1,r1,t,u,e,⟨xs,q1⟩,⟨ys,q2⟩,q⟩=>?_) he hpl;subst e;obtain⟨u1,u2,rfl,v1,v2⟩:=Mt r1;cases v1;cases v2;obtain⟨its1,rv1,g1,_⟩:=I1.tuple q1;obtain⟨its2,rv2,g2,_⟩:=I1.tuple q2;refine callType_new PySem.F.called_zip (by decide) (PySem.F.typeCall_zip_2 _ _) (PySem.F.newCall_zip_2 _ _) (λobj=>PySem.F.args_object_init_3 obj _ _) PySem.F.entry_zip_new (U2 t u its1.toArray its2.toArray) ⟨g1,g2,?_⟩;have y1:(Lu s1.heap t).objs.size=s1.heap.objs.size+1:=BA ..;have y2:(Ls s1.heap t u).objs.size=s1.heap.objs.size+2:=by rw[BA,y1]
 have y3:(Lr s1.heap t u).objs.size=s1.heap.objs.size+3:=by rw[BA,y2]
 have y4:(LR s1.heap t u).objs.size=s1.heap.objs.size+4:=by rw[BA,y3]
 have k5:∀c o,s1.heap.get? c=some o→(K_ s1.heap t u).get? c=some o:=λc o e=>Ad _ (Ad _ (Ad _ (Ad _ (Ad _ e))));have e5:(K_ s1.heap t u).get? (LR s1.heap t u).objs.size=some _:=An _ rfl;have e4:(K_ s1.heap t u).get? (Lr s1.heap t u).objs.size=some _:=Ad _ (An _ rfl);have e3:(K_ s1.heap t u).get? (Ls s1.heap t u).objs.size=some _:=Ad _ (Ad _ (An _ rfl));have e2:(K_ s1.heap t u).get? (Lu s1.heap t).objs.size=some _:=Ad _ (Ad _ (Ad _ (An _ rfl)));have e1:(K_ s1.heap t u).get? s1.heap.objs.size=some _:=Ad _ (Ad _ (Ad _ (Ad _ (An _ rfl))));have I2:Inv X pins σ H1 {s1 with heap:=K_ s1.heap t u}:=I1.kept (t':=s1.toks) k5
 have fp:∀c,s1.heap.objs.size≤c→HA X pins H1 c:=λc hc=>I1.fpOk hc (I1.hok.fresh hc);have D:ZA (LR s1.heap t u).objs.size (Ls s1.heap t u).objs.size (Lr s1.heap t u).objs.size s1.heap.objs.size (Lu s1.heap t).objs.size:=by
  have n4:(Lr s1.heap t u).objs.size<(LR s1.heap t u).objs.size:=by rw[y3,y4];exact C7 _
  have n3:(Ls s1.heap t u).objs.size<(Lr s1.heap t u).objs.size:=by rw[y2,y3];exact C7 _
  have n2:(Lu s1.heap t).objs.size<(Ls s1.heap t u).objs.size:=by rw[y1,y2];exact C7 _
  have n1:s1.heap.objs.size<(Lu s1.heap t).objs.size:=by rw[y1];exact C7 _
  exact⟨Ar (BX n3 n4),Ar n4,Ar (BX n1 (BX n2 (BX n3 n4))),Ar (BX n2 (BX n3 n4)),Ar n3,C1 (BX n1 n2),C1 n2,
   C1 (BX n1 (BX n2 n3)),C1 (BX n2 n3),Ar n1⟩
 refine⟨⟨_,e5,rfl⟩,wpAny_pyIter_zip e5 ?_⟩;refine⟨_,_,_,_,H1,rfl,I2,VC t u _ _ _ _ _ D,⟨e5,e3,⟨_,_,e4⟩,⟨_,e1,rfl,rfl⟩,⟨_,e2,rfl,rfl⟩⟩,λc hc=>fp c ?_,q⟩;simp only[As,Bo,or_false] at hc;rcases hc with rfl | rfl | rfl | rfl | rfl
 · rw[y4];exact Dx _ _
 · rw[y2];exact Dx _ _
 · rw[y3];exact Dx _ _
 · exact Ah _
 · rw[y1];exact Dx _ _
section
variable{tg iter kx vx:Expr}{ifs:List Expr}{wi:TI}{js:Iz}{g:TG}{tc:TT}{tk tv:TE}{N':List Str}
end
theorem VL{t sl:Addr}{items:Array Value}{vl vu:Value}{lo hi:Option Int}{Q:Value→Shared→Prop}(ht:IsTup s.heap t items)(hs:s.heap.IsSliceOf sl vl vu .none)(pl:IsPart vl lo)(pu:IsPart vu hi)
 (h0:HT.sIx items.size 0 lo=0) (h1:HT.sIx items.size items.size hi=items.size) (h:Q (.ref t) s):wpAny (model prog w) A (getItem (.ref t) (.ref sl)) Q E s:=by
 obtain⟨os,hos,hcs,hds⟩:=id hs;have hTs:s.TypeIs (.ref sl) "slice":=⟨os,hos,hcs⟩;unfold getItem
 try with_reducible refine AT ?_
 first | refine Aa (Ac ?_) | skip
 refine Aa (ER ht.typeIs (by decide) ?_);refine Aa (Bb (name:=BE "__getitem__") ht.typeIs BO
  (AV BO ht.typeIs PySem.F.entry_tuple_getitem ?_ (PySem.F.args_tuple_getitem_2 _ _)))
 show wpAny _ _ (EH (.ref t)>>=_) _ _ s;refine Aa (tupleItemsOf_ ht ?_);refine Aa (C3 hTs ?_);rw[if_pos (by decide)];refine Aa (HT.sliceApplied_gen hs pl pu ?_);have yes:((((HT.sIx items.size 0 lo:Nat):Int)==0 && (1:Int)==1 && (HT.sIx items.size items.size hi - HT.sIx items.size 0 lo)==items.size)=true):=by rw[h0,h1];simp
 show wpAny _ _ (if(((HT.sIx items.size 0 lo:Nat):Int)==0 && (1:Int)==1 && (HT.sIx items.size items.size hi - HT.sIx items.size 0 lo)==items.size)=true then _ else _) _ _ s
 rw[if_pos yes];unfold Builtin.Tuple.tupleIsExact;refine Aa (Aa (C3 ht.typeIs (Ac ?_)));rw[if_pos (by decide)];exact Aa (BI (Ac ⟨_,rfl,Ac h⟩))
def MM(K:Ae):V→Option Int→Option Int→Hp→VK→Prop:=λx lo hi H Q=>∃a xs,x= .ref a∧SqT K H a xs∧
 (HT.sIx xs.length 0 lo=0∧HT.sIx xs.length xs.length hi=xs.length→Q (.ref a) H)∧
 (¬(HT.sIx xs.length 0 lo=0∧HT.sIx xs.length xs.length hi=xs.length)→∀p,H p=none→Q (.ref p) (Hr H p (.tup (Iq xs lo hi))))
theorem Rv:Mp X (MM X.K):=by
 intro pins s σ H x v vl vu lo hi sl Q I rx hs pl pu h;obtain⟨a,xs,rfl,hx,q1,q2⟩:=h;by_cases hw:HT.sIx xs.length 0 lo=0∧HT.sIx xs.length xs.length hi=xs.length
 · cases rx;obtain⟨its,r,ht,hz⟩:=I.tuple hx;have hlen:its.toArray.size=xs.length:=by rw[Au];exact r.length.symm
   refine⟨"tuple",_,BO.lookup,ht.typeIs,?_⟩;exact VL ht hs pl pu (by rw[hlen];exact hw.1) (by rw[hlen];exact hw.2) ⟨.ref a,H,I,rfl,q1 hw⟩
 · exact Ut pins s σ H (.ref a) v vl vu lo hi sl Q I rx hs pl pu ⟨a,xs,rfl,hx,hw,q2 hw⟩
theorem Vt{K:Ae}{Q:VK}(h:SqT K H a xs)(q:∀p H',Same H H'→SqT K H' p (xs.drop 1)→Q (.ref p) H'):MM K (.ref a) (some 1) none H Q:=by
 have e0:HT.sIx xs.length 0 (some 1)=min 1 xs.length:=HT.sIx_nat _ _ 1;refine⟨a,xs,rfl,h,λhw=>?_,λhw p hp=>?_⟩
 · rw[e0] at hw;have hl:xs.length=0:=by omega
   have hx:xs=[]:=Dj.mp hl;subst hx;exact q a H (Same.refl _) h
 · refine q p _ (Hz hp _) (SqT.of ?_);rw[Hu];unfold Iq;rw[e0,show HT.sIx xs.length xs.length none=xs.length from rfl];cases xs with
   | nil=>rfl
   | cons x r=>
    have e1:min 1 (x::r).length=1:=by rw[AF];omega
    rw[e1];congr 2;rw[AF,Nat.add_sub_cancel];exact AL (by simp)
section
variable{K:Ae}
theorem Ma(K:Ae)(h:X.K=K):LQ X (Ku K):=by subst h;exact Jg
theorem Nw(K:Ae)(h:X.K=K){es:List Expr}{k:Nat}{t:Lp}{n:Nat}{pos:Pos}(hc:X.calm=true)(hg:Ni X es t)
 (hn:(assignEach es X.env).length=n:=by rfl) (hst:(assignEach es X.env).findIdx? (·.1)=none:=by rfl):PG X (.Tuple es k pos) (Ng K n t):=by subst h;exact Jz hc hg hn hst
end
theorem UJ{K:Ae}{t1 t2 p:Addr}{ys:List V}{g:TG}{tc:TT}{te:TE}{Q:VK}{js:Iz}(h1:n≤xs.length)(h2:n≤ys.length)(h3:xs.length≤n∨ys.length≤n)(Pv:Nat→St→List V→Hp→Prop)(h0:Pv 0 (inn js σ) [] (Hr H p (.lst [])))
 (hl:∀i σ zs H,i≤n→Pv i σ zs H→SqT K H t1 xs∧SqT K H t2 ys∧H p=some (.lst zs)∧zs.length<Av)
 (hs:∀(i:Nat)x y σ zs H q(N:St→List V→Hp→Prop),xs[i]?=some x→ys[i]?=some y→H q=none→Pv i σ zs H→(∀σ' ys' H',Pv (i+1) σ' ys' H'→N σ' ys' H')→L5 p g tc te zs (.ref q) σ (Hr H q (.tup [x,y])) N)
 (hd:∀σ zs H,Pv n σ zs H→Q (.ref p) H):Kk (On K t1 t2) p js g tc te σ H Q:=
 Mv (n:=n) (J:=On K t1 t2) (js:=js) (σ:=σ) (H:=H) (p:=p) (Q:=Q) (g:=g) (tc:=tc) (te:=te) Pv h0 (λi σ zs H hi pv=>(hl i σ zs H hi pv).2.2)
  (λi σ zs H hi pv=>⟨xs,ys,xs[i],ys[i],(hl i σ zs H (Bz hi) pv).1,(hl i σ zs H (Bz hi) pv).2.1,by simp,by simp⟩)
  (λσ zs H pv=>⟨xs,ys,(hl _ σ zs H (Ah _) pv).1,(hl _ σ zs H (Ah _) pv).2.1,h3⟩)
  (λi v σ zs H H' N hi y pv hN=>by
   obtain⟨q,e,hq,y⟩:=y;subst e;have ex:xs[i]?=some xs[i]:=by simp
   have ey:ys[i]?=some ys[i]:=by simp
   have e2:=y xs ys _ _ (hl i σ zs H (Bz hi) pv).1 (hl i σ zs H (Bz hi) pv).2.1 ex ey;subst e2;exact hs i _ _ σ zs H q N ex ey hq pv hN) hd
section
variable{h':Heap}
end
theorem YE:Bf "enumerate"=some (.type "enumerate"):=by decide+kernel
section
variable{te:TE}{p2 p3 p4:Pos}
end
def PL(ns:List Int):Nat:=(ns.foldl step_dedup []).length
section
variable{te:TE}{p2 p3 p4:Pos}
end
end L2
namespace WB
end WB
namespace L2
def Q2(i j:Int):Prop:=i.natAbs<2^1000∧j.natAbs<2^1000
theorem L_:Iu X (binaryOp .Mult) (rI Q2 λi j=> .int (i*j)):=MR λi j _ _ _ _ _ hc q=> mul_int q (IntMulOk.of_bits (AY (intBits_le hc.1) (by decide)) (AY (intBits_le hc.2) (by decide)))
theorem WA(K:Ae)(h:X.K=K):Iu X (BH .NotIn) (TH K true):=by subst h;exact Ts
theorem Zd(K:Ae)(h:X.K=K):J9 X (.builtin "len") (λxs H Q=>∃p ys,xs=[.ref p]∧(SqL K H p ys∨SqT K H p ys)∧Q (.int ys.length) H):=by subst h;exact IF
section
variable{K:Ae}{Q:VK}
end
theorem nb{i:Int}(h0:0≤i)(h1:i<2^400):i.natAbs<2^1000:=by
 have:i.natAbs<2^400:=by omega
 exact AD this (by decide)
theorem mn(i j:Int):(if j<i then j else i)=min i j:=by rw[Int.min_def];split<;>split<;>omega
def Tups(H H':Hp):Prop:=∀a xs,H a=some (.tup xs)→H' a=some (.tup xs)
theorem Tups.trans{H1 H2:Hp}(a:Tups H H1)(b:Tups H1 H2):Tups H H2:=λc xs h=>b c xs (a c xs h)
theorem Same.tups{H':Hp}(s:Same H H'):Tups H H':=λa xs h=>s _ _ h
theorem K6{p:Addr}{ys:List V}{o:HO}(h:H p=some (.lst ys)):Tups H (Hr H p o):=λa xs e=>by rw[HD (K1 e h (by intro z;cases z))];exact e
theorem K7{H0:Hp}{p:Addr}{o:HO}(s:Same H0 H)(n:H0 p=none):Same H0 (Hr H p o):=λa u e=>by rw[HD (IT e n)];exact s _ _ e
theorem RD:∀{ts:List Str}{us:List Value},Vals (ts.map V.str) us→∃l:List (Str×Tok),strValues l=us∧l.map (·.1)=ts
 | [],_,h=>by cases h;exact⟨[],rfl,rfl⟩
 | x::ts,_,h=>by
  rw[AK] at h;cases h with
  | cons r h=> obtain⟨t,rfl⟩:=r;obtain⟨l,h1,h2⟩:=RD h;exact⟨(x,t)::l,by rw[←h1];rfl,by rw[←h2];rfl⟩
theorem Tf:∀{ts:List Str}{us:List Value},Vals (ts.map V.str) us→StrsAre us ts
 | [],_,h=>by cases h;exact .nil
 | x::ts,_,h=>by
  rw[AK] at h;cases h with
  | cons r h=> obtain⟨t,rfl⟩:=r;exact .cons _ _ (Tf h)
theorem Oa:∀{us:List Value}{ts:List Str},StrsAre us ts→Vals (ts.map V.str) us
 | _,_,.nil=> .nil
 | _,_,.cons n t h=> .cons ⟨t,rfl⟩ (Oa h)
def Ue(K:Ae):V→List V→Hp→VK→Prop:=λx vs H Q=>∃(y:Str)(a:Addr)(ts:List Str),x= .str y∧vs=[.ref a]∧SqL K H a (ts.map V.str)∧JoinOk y ts=true∧Q (.str (Txt.join y ts)) H
theorem V5:Qx X "str.join" (Ue X.K):=by intro pins s σ H x vs v us Q I rx rv h;obtain⟨y,a,ts,rfl,rfl,hq,hok,q⟩:=h;obtain⟨t,rfl⟩:=rx;obtain⟨u,rfl,ru⟩:=rv.one;cases ru;obtain⟨its,r,ht,hz⟩:=I.list hq;obtain⟨l,rfl,rfl⟩:=RD r;unfold JoinOk at hok;rw[DQ] at hok;refine call_meets F.slot_str_join (typeIs_str _ _ _) F.entry_str_join (F.args_str_join_2 _ _) (meets_str_join_list y t a l hok) ⟨ht.isList,post_join l ⟨joinFit_length hok,λt' k=>?_⟩⟩;exact⟨.str _,H,I.kept (t':=k) λb o e=>e,⟨t',rfl⟩,q⟩
def UW(K:Ae):List V→Hp→VK→Prop:=λxs H Q=>∃(a:Addr)(ns:List Str),xs=[.ref a]∧SqL K H a (ns.map V.str)∧ns.length<64∧
 ∀(p:Addr)(ms:List Str),ms.Perm ns→sortedS ms=true→H p=none→Q (.ref p) (Hr H p (.lst (ms.map V.str)))
theorem Yr:J9 X (.builtin "sorted") (UW X.K):=by
 intro pins s σ H xs us Q I r h;obtain⟨a,ns,rfl,hq,h64,q⟩:=h;obtain⟨u,rfl,rx⟩:=Jx r;cases rx;obtain⟨its,rv,ht,hz⟩:=I.list hq;have hl:=rv.length;rw[Ab] at hl;refine sorted_strs ht.isList (Tf rv) (by omega) λout ns' a1 a2 a3=>?_;obtain⟨e,he⟩:=sortedAll_at s.heap its out;have hn:H (s.heap.objs.size+1)=none:=I.hok.fresh (CN _);have hlen:ns'.length=ns.length:=a2.length_eq;refine⟨.ref (s.heap.objs.size+1),Hr H (s.heap.objs.size+1) (.lst (ns'.map V.str)),I.laid (t':=s.toks) (λb o e=>sortedAll_old e) (CN _) ?_,rfl,q _ ns' a2 a3 hn⟩;have hz':ns.length≤Av:=by rw[Ab] at hz;exact hz
 exact⟨by rw[Ab];omega,out.toList,e,Oa a1,by simpa [Bm] using he⟩
theorem UP(t:Ct)(n:Nat):(t.orStandIn n).led=t.led:=by unfold SetTable.orStandIn;split<;>rfl
theorem Wb(t:Ct)(n:Nat)(h:t.plain=false):(t.orStandIn n).plain=false:=by
 unfold SetTable.orStandIn
 split
 · exact h
 · rfl
theorem V4(t:Ct)(es:Array (Int×Value))(h:Int)(x:Value):(layNew t es h x).2.1.led=t.led:=by
 unfold layNew
 split
 · exact(UP _ _).trans rfl
 · rfl
theorem WT(t:Ct)(es:Array (Int×Value))(h:Int)(x:Value):t.plain=false→(layNew t es h x).2.1.plain=false:=by
 intro hp;unfold layNew
 split
 · exact Wb _ _ hp
 · rfl
theorem R1{mask finger moves:Nat}{led plain:Bool}{hs:Array Int}{t:Ct}{o:Array Nat}(h:SetTable.laid mask finger moves led plain hs=some (t,o)):t.led=led∧t.plain=plain:=by
 unfold SetTable.laid at h;cases h1:SetTable.layClean mask hs with
 | none=>rw[h1] at h;cases h
 | some ow=> rw[h1] at h;simp only[Option.bind_eq_bind,Option.bind_some,Option.pure_def,Option.some.injEq,Prod.mk.injEq] at h;rw[←h.1];exact⟨rfl,rfl⟩
theorem WE(t:Ct)(es:Array (Int×Value))(n:Nat):(relayAll t es n).2.1.led=t.led:=by
 unfold relayAll
 split
 · rename_i t' o h;dsimp only
   split
   · exact(R1 h).1
   · rfl
 · rfl
theorem Y3(t:Ct)(es:Array (Int×Value))(n:Nat)(hp:t.plain=false):(relayAll t es n).2.1.plain=false:=by
 unfold relayAll
 split
 · rename_i t' o h;dsimp only
   split
   · rw[←hp];exact(R1 h).2
   · rfl
 · rfl
def Ih(w:World):Bool:=w.params.followText "set-order"
structure TxSet(prog:Br)(w:World)(h:Heap)(a:Addr)(ks:List Str):Prop where
 at':∃(es:Array (Int×Value))(ep:Nat)(t:Ct),h.get? a=some {cls:= .type "set",dict:=none,data:= .set es ep t}∧ElemsOf (strKind prog w) es.toList∧
  StrsAre (es.toList.map (·.2)) ks∧t.fits es.size=true∧t.led=!Ih w∧(es.size=0∨t.plain=false)
 nodup:ks.Nodup
 few:ks.length<scanBound
theorem NL:∀{vs:List Value}{ks:List Str},StrsAre vs ks→vs.length=ks.length
 | _,_,.nil=>rfl
 | _,_,.cons _ _ h=>by rw[AF,AF,NL h]
theorem T2:∀{vs us:List Value}{ks js:List Str},StrsAre vs ks→StrsAre us js→StrsAre (vs++us) (ks++js)
 | _,_,_,_,.nil,h=>h
 | _,_,_,_,.cons _ _ h',h=> .cons _ _ (T2 h' h)
theorem Pw{vs:List Value}(p:us.Perm vs):∀{ks:List Str},StrsAre vs ks→∃js,StrsAre us js∧js.Perm ks:=by
 induction p with
 | nil=>intro ks h;exact⟨ks,h,.refl _⟩
 | cons x p ih=>
  intro ks h;cases h with
  | cons y t h=> obtain⟨js,h1,h2⟩:=ih h;exact⟨y::js,.cons y t h1,h2.cons _⟩
 | swap x y l=>
  intro ks h;cases h with
  | cons y t h=>
   cases h with
   | cons y2 t2 h=>exact⟨y2::y::_,.cons _ _ (.cons _ _ h),.swap _ _ _⟩
 | trans p1 p2 ih1 ih2=> intro ks h;obtain⟨js,h1,h2⟩:=ih2 h;obtain⟨is,h3,h4⟩:=ih1 h1;exact⟨is,h3,h4.trans h2⟩
theorem P0:∀{vs:List Value}{ks:List Str},StrsAre vs ks→∀k,k∈ks↔∃t,Value.str k t∈vs
 | _,_,.nil,k=>by simp
 | _,_,.cons y t h,k=>by
  rw[As,P0 h k];constructor
  · rintro(rfl | ⟨u,hu⟩)
    · exact⟨t,.head _⟩
    · exact⟨u,.tail _ hu⟩
  · rintro⟨u,hu⟩;cases hu with
    | head=>exact .inl rfl
    | tail _ hu=>exact .inr ⟨u,hu⟩
theorem OH(k:Str)(t:Tok):(strKind prog w).is k (.str k t)=true:=by show EC k (.str k t)=true;simp[EC]
theorem Rr(h:Heap)(a:Addr)(es es':Array (Int×Value))(ep:Nat)(t t':Ct)(ho:h.get? a=some {cls:= .type "set",dict:=none,data:= .set es ep t}):
 (h.update a (Obj.putSet es' t')).get? a=some {cls:= .type "set",dict:=none,data:= .set es' (ep+1) t'}:=by
 have:=Bh (Obj.putSet es' t') ho (by rw[putSet_of es' t' (o:={cls:= .type "set",dict:=none,data:= .set es ep t}) rfl];rfl);rw[putSet_of es' t' (o:={cls:= .type "set",dict:=none,data:= .set es ep t}) rfl] at this;exact this
theorem VB{ks:List Str}{k:Str}{tk:Tok}{Q:Bool→Shared→Prop}(hS:TxSet prog w s.heap a ks)(hroom:ks.length+1<scanBound)
 (h:∀h' ks',BD a s.heap h'→TxSet prog w h' a ks'→ks'.length≤ks.length+1→(∀x,x∈ks'↔x∈ks∨x=k)→∀b,Q b {s with heap:=h'}):
 wpAny (model prog w) A (setAddHashed a (.str k tk) ((strKind prog w).hash k)) Q E s:=by
 obtain⟨⟨es,ep,t,ho,hel,hks,hf,hled,hpl⟩,hnd,hfew⟩:=hS;have hsz:es.size=ks.length:=by rw[←NL hks,Ab,AC]
 have hb:es.size<scanBound:=by rw[hsz];exact hfew
 have hkey:(strKind prog w).is k (.str k tk)=true:=OH k tk;unfold setAddHashed setAddHashedIn;refine AT (Aa (Cg ho rfl hf ?_));dsimp only;rw[byScan_of (knd:=strKind prog w) rfl hb hel];simp only[↓reduceIte];unfold setAddByScan;refine Aa ?_;refine Aa (BI ?_);refine Aa (wpAny_setScan_of (knd:=strKind prog w) hkey ho rfl hf hel ?_);have isk:∀e∈es.toList,(strKind prog w).is k e.2=true→k∈ks:=λe he q=>by obtain⟨t',q'⟩:=Et q;exact(P0 hks k).mpr ⟨t',by rw[←q'];exact Ax he⟩
 cases hr:List.findIdx? (λe=>(strKind prog w).is k e.2) es.toList with
 | some j=> dsimp only;obtain⟨hj,hpj,_⟩:=List.findIdx?_eq_some_iff_getElem.mp hr;have hk:k∈ks:=isk _ (List.getElem_mem hj) hpj;refine Ac (Ac ?_);exact h s.heap ks (Heap.SameBut.refl a s.heap) ⟨⟨es,ep,t,ho,hel,hks,hf,hled,hpl⟩,hnd,hfew⟩ (CN _) (λx=>⟨.inl,λq=>q.elim id λe=>e ▸ hk⟩) _
 | none=>
  dsimp only;have hk:k ∉ ks:=λhm=>by obtain⟨t',ht⟩:=(P0 hks k).mp hm;obtain⟨e,he,q⟩:=AN.mp ht;have:=List.findIdx?_eq_none_iff.mp hr e he;rw[q,OH] at this;cases this
  have hgw:∀(b:Bool){s₁:Shared}{Q':Unit→Shared→Prop},Q' () s₁→wpAny (model prog w) A (match b with | true=>rule "set.scan.the-table-gave-way" | false=>pure ()) Q' E s₁:=
   λb s₁ Q' hq=>by cases b<;>first | exact Ac hq | exact BI hq
  have hperm:=layNew_perm t es ((strKind prog w).hash k) (.str k tk);have hfits:=layNew_fits t es ((strKind prog w).hash k) (.str k tk);have hl1:=V4 t es ((strKind prog w).hash k) (.str k tk);have hp1:=WT t es ((strKind prog w).hash k) (.str k tk);generalize hL:layNew t es ((strKind prog w).hash k) (.str k tk)=L at hperm hfits hl1 hp1 ⊢;obtain⟨es1,t1,wasDummy,gave⟩:=L;dsimp only at hperm hfits hl1 hp1 ⊢;rw[EV] at hperm;have hel1:ElemsOf (strKind prog w) es1.toList:=(hel.push hkey rfl).perm hperm;have h0:StrsAre ((es.toList++[((strKind prog w).hash k,Value.str k tk)]).map (·.2)) (ks++[k]):=by rw[Aj];exact T2 hks (.cons k tk .nil)
  obtain⟨k1,hk1,hkp1⟩:=Pw (hperm.map (·.2)) h0;have hsz1:es1.size=ks.length+1:=by rw[←AC,hperm.length_eq,Aw,AC,hsz];rfl
  have nd0:(ks++[k]).Nodup:=by rw[EW];exact⟨hnd,by simp,λx hx y hy=>by rw[Af] at hy;subst hy;exact λe=>hk (e ▸ hx)⟩
  have fin:∀(h':Heap)(es2:Array (Int×Value))(ep2:Nat)(t2:Ct),BD a s.heap h'→h'.get? a=some {cls:= .type "set",dict:=none,data:= .set es2 ep2 t2}→es2.toList.Perm es1.toList→t2.fits es2.size=true→
   t2.led=t.led→t2.plain=false→∀b,Q b {s with heap:=h'}:=λh' es2 ep2 t2 sb ho2 p2 f2 l2 pl2 b=>by
   obtain⟨k2,hk2,hkp2⟩:=Pw (p2.map (·.2)) hk1;have hp:k2.Perm (ks++[k]):=hkp2.trans hkp1;have hlen:k2.length=ks.length+1:=by rw[hp.length_eq,Aw];rfl
   refine h h' k2 sb ⟨⟨es2,ep2,t2,ho2,hel1.perm p2,hk2,f2,l2.trans hled,.inr pl2⟩,hp.nodup_iff.mpr nd0,by omega⟩ (by omega) (λx=>?_) b;rw[hp.mem_iff,Aq,Af]
  refine Aa (hgw _ ?_);have tail:∀(t2:Ct),t2.fits es1.size=true→t2.led=t.led→t2.plain=false→∀{R:Option Bool→Shared→Prop},(∀h',(∀b,Q b {s with heap:=h'})→R (some true) {s with heap:=h'})→
   wpAny (model prog w) A (do
    storeSet a es1 t2
    if(!wasDummy && t2.tooFull)=true then do
        (match(relayAll t2 es1 (CL es1.size)).2.2 with | true=>rule "set.scan.the-table-gave-way" | false=>pure ())
        storeSet a (relayAll t2 es1 (CL es1.size)).1 (relayAll t2 es1 (CL es1.size)).2.1
        pure (some true)
     else pure (some true)) R E s:=by
   intro t2 f2 l2 pl2 R hR;refine Aa (wpAny_storeSet_of ho rfl ?_ (fits_of_scanBound (by omega)));have ho1:=Rr s.heap a es es1 ep t t2 ho;have sb1:=AU s.heap a (Obj.putSet es1 t2)
   split
   · have hp:=relayAll_perm t2 es1 (CL es1.size);have hfr:=relayAll_fits t2 es1 (CL es1.size);have hl2:=WE t2 es1 (CL es1.size);have hp2:=Y3 t2 es1 (CL es1.size) pl2;generalize hRl:relayAll t2 es1 (CL es1.size)=Rl at hp hfr hl2 hp2 ⊢;obtain⟨es2,t3,gave2⟩:=Rl;dsimp only at hp hfr hl2 hp2 ⊢;have hs2:es2.size=es1.size:=by rw[←AC,hp.length_eq,AC]
     refine Aa (hgw _ ?_);refine Aa (wpAny_storeSet_of ho1 rfl ?_ (fits_of_scanBound (by omega)));exact Ac (hR _ (fin _ es2 _ t3 (sb1.trans (AU _ a _)) (Rr _ a es1 es2 (ep+1) t2 t3 ho1) hp hfr (hl2.trans l2) hp2))
   · exact Ac (hR _ (fin _ es1 _ t2 sb1 ho1 (.refl _) f2 l2 pl2))
  split
  · refine Aa ?_;rw[hashByValue_scannable 8 (x:= .str k tk) rfl];refine Ac ?_;exact tail {t1 with plain:=false} (SetTable.fits_plain_off hfits) hl1 rfl λh' q=>Ac (q _)
  · rename_i hnp;refine Aa (Ac ?_);simp only[↓reduceIte];exact tail t1 hfits hl1 (by simpa using hnp) λh' q=>Ac (q _)
theorem TxSet.kept{h':Heap}{ks:List Str}(T:TxSet prog w h a ks)(k:∀o,h.get? a=some o→h'.get? a=some o):TxSet prog w h' a ks:=by obtain⟨⟨es,ep,t,ho,r⟩,b,c⟩:=T;exact⟨⟨es,ep,t,k _ ho,r⟩,b,c⟩
section
variable{R:Result→Shared→Prop}{I:Addr}{fp wr:List Addr}{G:Array GenState→Array GenState→Prop}{P:Nat→Value→Prop}{St:Nat→Shared→Prop}
end
theorem Xw(e:h.get? a=some {cls:= .type "set",dict:=none,data:= .set #[] 0 (.fresh 0 0 (!Ih w))}):TxSet prog w h a []:=
 ⟨⟨#[],0,_,e,λe he=>by simp at he,.nil,rfl,rfl,.inl rfl⟩,List.nodup_nil,by decide⟩
theorem X3{M:Model}{A:Bu}{E:Value→Shared→Prop}{src:Source}{Q:Nat→Shared→Prop}(hn:0<n)(h:∀i d',i<n→Q i {s with drawn:=d'}):
 wpAny M A (choose src n) Q E s:=λΓ p hΓ=>by
 show Sem.wp M Γ (.choose src n .pure) _ _ p s;rw[Sem.wp_choose];exact⟨by omega,h _ _ (Nat.mod_lt _ hn)⟩
theorem Pn{α:Type}:∀{l:List α}{i:Nat}{x:α},l[i]?=some x→(x::l.eraseIdx i).Perm l
 | [],i,x,h=>by simp at h
 | y::l,0,x,h=>by simp at h;subst h;exact .refl _
 | y::l,i+1,x,h=>by rw[List.getElem?_cons_succ] at h;rw[List.eraseIdx_cons_succ];exact(List.Perm.swap _ _ _).trans ((Pn h).cons _)
theorem RY{M:Model}{A:Bu}{E:Value→Shared→Prop}{α:Type}:∀(n:Nat)(xs:List α)(s:Shared){Q:List α→Shared→Prop},xs.length≤n→(∀ys d',ys.Perm xs→Q ys {s with drawn:=d'})→
 wpAny M A (drawOrder n xs) Q E s
 | 0,xs,s,Q,hn,h=>by have:xs=[]:=Dj.mp (Nat.le_zero.mp hn);subst this;exact Ac (h [] s.drawn (.refl _))
 | n+1,[],s,Q,hn,h=>Ac (h [] s.drawn (.refl _))
 | n+1,x::xs,s,Q,hn,h=>by
  show wpAny M A (choose .order (x::xs).length>>=_) Q E s;refine Aa (X3 (by simp) λi d1 hi=>?_);have hx:(x::xs)[i]?=some (x::xs)[i]:=Ak hi;rw[hx];show wpAny M A (drawOrder n ((x::xs).eraseIdx i)>>=_) Q E _;have hl:((x::xs).eraseIdx i).length≤n:=by rw[Dz,if_pos hi];simp at hn ⊢;omega
  refine Aa (RY n _ _ hl λys d2 hp=>Ac ?_);exact h _ d2 ((hp.cons _).trans (Pn hx))
theorem Rq{α:Type}(next:Nat→Nat):∀(n k:Nat)(left:List α)(out:Array α),left.length≤n→((pickOrder.go next n k left out).toList).Perm (out.toList++left)
 | 0,k,left,out,h=>by have:left=[]:=Dj.mp (Nat.le_zero.mp h);subst this;simp[pickOrder.go]
 | n+1,k,left,out,h=>by
  unfold pickOrder.go
  split
  · rename_i x hx;have hlt:next k%left.length<left.length:=(Al.mp hx).1
    refine(Rq next n (k+1) _ _ ?_).trans ?_
    · rw[Dz,if_pos hlt];omega
    · rw[EV,CW];exact List.Perm.append_left _ (Pn hx)
  · rename_i hx;cases left with
    | nil=>simp
    | cons y l=>
     have:next k%(y::l).length<(y::l).length:=Nat.mod_lt _ (by simp)
     rw[Ak this] at hx;cases hx
theorem SN{α:Type}(next:Nat→Nat)(xs:Array α):((pickOrder next xs).toList).Perm xs.toList:=by
 have:=Rq next xs.size 0 xs.toList #[] (by simp)
 simpa [pickOrder] using this
theorem Y6(a:Addr):setDrawn a=(do
 let(es,_,t) ←setState a
 let byText ←setsByText
 return !byText && (!t.plain && decide (es.size>1))):=rfl
theorem NS(a:Addr)(slot given epochThen:Nat):setNext a slot given epochThen=(do
 let(es,epoch,t) ←setState a
 if ←setsByText then
  if epoch !=epochThen then unsupported "set_iterator.__next__:elements-changed"
  return ((←setWalk a)[given]?).map λe=>(e.2,slot)
 if(!t.plain && decide (es.size>1)) then unsupported "set_iterator.__next__:the-table-is-plain-no-more"
 (do if !t.led && !es.isEmpty then unsupported "set:maker-not-led":Sem Unit)
 let i:=Du t.place slot
 return match es[i]?,t.place[i]? with
  | some (_,x),some j=>some (x,j+1)
  | _,_=>none):=rfl
namespace FS
theorem entry_set_iter:entryFor table "set.__iter__"=some Builtin.«frozenset.__iter__»:=entryFor_alias (id':="frozenset.__iter__") (by kernel_rfl) rfl (by decide+kernel) (by kernel_rfl)
theorem slot_si_next:Slot "set_iterator" "__next__" "set_iterator.__next__":=
 .of (owner:="set_iterator") (n:="__next__") (by rw[typeLookup_type,builtinLookup_eq_fast];kernel_rfl) (by decide+kernel) (by decide+kernel) (by decide+kernel)
  (by first | exact .inl (by decide+kernel) | exact .inr (by decide+kernel)) (by rw[isSubtype_type];kernel_rfl)
theorem entry_si_next:entryFor table "set_iterator.__next__"=some Builtin.«set_iterator.__next__»:=Fj (by kernel_rfl)
theorem args_si_next(a:Value):argsOk "set_iterator.__next__" ⟨[a],[]⟩:=by unfold argsOk;kernel_rfl
theorem slot_si_iter:Slot "set_iterator" "__iter__" "set_iterator.__iter__":=
 .of (owner:="set_iterator") (n:="__iter__") (by rw[typeLookup_type,builtinLookup_eq_fast];kernel_rfl) (by decide+kernel) (by decide+kernel) (by decide+kernel)
  (by first | exact .inl (by decide+kernel) | exact .inr (by decide+kernel)) (by rw[isSubtype_type];kernel_rfl)
theorem entry_si_iter:entryFor table "set_iterator.__iter__"=some Builtin.«dict_keyiterator.__iter__»:=
 entryFor_alias (id':="dict_keyiterator.__iter__") (by kernel_rfl) rfl (by decide+kernel) (by kernel_rfl)
theorem args_si_iter(a:Value):argsOk "set_iterator.__iter__" ⟨[a],[]⟩:=by unfold argsOk;kernel_rfl
end FS
abbrev M9(h:Heap)(I a:Addr)(first:Value)(i n ep:Nat):Prop:=
 h.get? I=some {cls:= .type "set_iterator",dict:=none,data:= .fields #[first,.int i 0,.ref a,.int n 0,.int ep 0]}
inductive SOrd(w:World)(a:Addr)(es:Array (Int×Value))(ep:Nat)(t:Ct):(Nat→Value)→List Value→List (Addr×Obj)→Prop
 | drawn (T:Addr) (places:List Nat) (h0:Ih w=false) (hp:places.Perm (BV es.size)) (h2:1<es.size):
  SOrd w a es ep t (λ_=> .ref T) (places.filterMap λp=>(es[p]?).map (·.2)) [(T,{cls:= .type "tuple",data:= .seq (places.map λ(i:Nat)=>rawInt i).toArray})]
 | text (h0:Ih w=true):SOrd w a es ep t (λ_=>rawInt 0) ((pickOrder (w.params.setOrder a ep) es).toList.map (·.2)) []
 | few (h0:Ih w=false) (h2:es.size≤1):SOrd w a es ep t (λi=>rawInt (if i=0 then 0 else t.place.getD 0 0+1)) (es.toList.map (·.2)) []
theorem Wx(es:Array (Int×Value)):((BV es.size).filterMap λp=>(es[p]?).map (·.2))=es.toList.map (·.2):=by have:=filterMap_getElem?_range es;rw[←this,List.map_filterMap]
theorem SOrd.perm{es:Array (Int×Value)}{ep:Nat}{t:Ct}{f:Nat→Value}{vs:List Value}{ob:List (Addr×Obj)}(h:SOrd w a es ep t f vs ob):vs.Perm (es.toList.map (·.2)):=by
 cases h with
 | drawn T places h0 hp h2=>rw[←Wx];exact hp.filterMap _
 | text h0=>exact(SN _ _).map _
 | few h0 h2=>exact .refl _
theorem LA{Q:Bool→Shared→Prop}(h:Q (Ih w) s):wpAny (model prog w) A setsByText Q E s:=by unfold setsByText;exact Aa (Df (Ac h))
theorem WN{es:Array (Int×Value)}{ep:Nat}{t:Ct}{Q:Value→Shared→Prop}(ho:s.heap.get? a=some {cls:= .type "set",dict:=none,data:= .set es ep t})
 (hf:t.fits es.size=true) (hp:es.size=0∨t.plain=false) (hz:es.size≤Av)
 (hQ:∀h' d' I f vs ob,SOrd w a es ep t f vs ob→s.heap.objs.size≤I→M9 h' I a (f 0) 0 es.size ep→(∀p∈ob,h'.get? p.1=some p.2∧s.heap.objs.size≤p.1∧p.1≠I)→(∀b o,s.heap.get? b=some o→h'.get? b=some o)→
  I<h'.objs.size→(∀p∈ob,p.1<h'.objs.size)→Q (.ref I) {s with heap:=h',drawn:=d'}):
 wpAny (model prog w) A (pyIter (.ref a)) Q E s:=by
 have hT:s.TypeIs (.ref a) "set":=⟨_,ho,rfl⟩;refine wpAny_pyIter_slot hT FK (AV FK hT FS.entry_set_iter ?_ (PySem.F.args_set_iter_1 _));unfold Builtin.«frozenset.__iter__» Builtin.Frozenset.slot0 Builtin.Frozenset.sizeOf;refine Aa (Aa (m:=slotArgs _ _ _) (Ac (Ac ?_)));refine Aa (Aa (Ew ho rfl hf (Ac ?_)));dsimp only;rw[Y6];refine Aa (Aa (Cg ho rfl hf (Aa (LA (Ac ?_)))));by_cases hd:(!Ih w && (!t.plain && decide (es.size>1)))=true
 · rw[if_pos hd];have hd':Ih w=false∧1<es.size:=by
    simp only[AB,DQ,decide_eq_true_eq] at hd;exact⟨hd.1,hd.2.2⟩
   refine Aa (RY _ _ _ (by simp) λys d' hy=>?_);refine Aa (E2 ?_ (by rw[Ab,hy.length_eq,CZ];exact hz));have ho2:(s.heap.push {cls:= .type "tuple",data:= .seq (ys.map λ(i:Nat)=>rawInt i).toArray}).get? a=some {cls:= .type "set",dict:=none,data:= .set es ep t}:=Ad _ ho;refine Aa (wpAny_setEpoch_of (s:={s with drawn:=d',heap:=s.heap.push {cls:= .type "tuple",data:= .seq (ys.map λ(i:Nat)=>rawInt i).toArray}}) ho2 rfl hf ?_)
   refine Aa (AW (Ac ⟨_,rfl,"set_iterator",_,⟨_,An _ rfl,rfl⟩,FS.slot_si_next.lookup,?_⟩));refine hQ _ d' _ _ _ _ (.drawn s.heap.objs.size ys hd'.1 hy hd'.2) ?_ (An _ rfl) (λp hp=>?_) (λb o e=>Ad _ (Ad _ e)) ?_ (λp hp=>?_)
   · rw[BA];exact CN _
   · rw[Af] at hp;subst hp;exact⟨Ad _ (An _ rfl),Ah _,by rw[BA];exact Ar (C7 _)⟩
   · simp only[BA];omega
   · rw[Af] at hp;subst hp;show s.heap.objs.size<_;simp only[BA];omega
 · rw[if_neg hd];refine Aa (Ac ?_);refine Aa (wpAny_setEpoch_of ho rfl hf ?_);refine Aa (AW (Ac ⟨_,rfl,"set_iterator",_,⟨_,An _ rfl,rfl⟩,FS.slot_si_next.lookup,?_⟩));cases hb:Ih w with
   | true=> exact hQ _ s.drawn _ _ _ _ (.text hb) (Ah _) (An _ rfl) (λp hp=>nomatch hp) (λb o e=>Ad _ e) (by rw[BA];exact C7 _) (λp hp=>nomatch hp)
   | false=>
    refine hQ _ s.drawn _ _ _ _ (.few hb ?_) (Ah _) (An _ rfl) (λp hp=>nomatch hp) (λb o e=>Ad _ e) (by rw[BA];exact C7 _) (λp hp=>nomatch hp);rcases hp with h | h
    · omega
    · simp[hb,h] at hd;exact hd
def Om(w:World)(I a:Addr)(es:Array (Int×Value))(ep:Nat)(t:Ct)(f:Nat→Value)(ob:List (Addr×Obj))(i:Nat)(h:Heap):Prop:=
 M9 h I a (f i) i es.size ep∧h.get? a=some {cls:= .type "set",dict:=none,data:= .set es ep t}∧∀p∈ob,h.get? p.1=some p.2
theorem Ss(p:Nat):Du #[p] 0=0∧Du #[p] (p+1)=1:=by
 constructor
 · simp[Du,SetTable.below.go]
 · simp[Du,SetTable.below.go]
theorem Mk{I:Addr}{first x:Value}{ep k:Nat}(hi:M9 h I a first i n ep)(f:Array Value→Array Value):
 (h.update I (Ed f)).get? I=some {cls:= .type "set_iterator",dict:=none,data:= .fields (f #[first,.int i 0,.ref a,.int n 0,.int ep 0])}:=by
 have:=Bh (Ed f) hi rfl;exact this
set_option maxHeartbeats 1000000 in
theorem Wy{I a:Addr}{es:Array (Int×Value)}{ep:Nat}{t:Ct}{f:Nat→Value}{vs:List Value}{ob:List (Addr×Obj)}{i:Nat}{v:Value}{Q:Option Value→Shared→Prop}
 (hO:SOrd w a es ep t f vs ob) (hf:t.fits es.size=true) (hl:t.led=!Ih w) (hne:a≠I) (hob:∀p∈ob,p.1≠I) (hS:Om w I a es ep t f ob i s.heap) (hv:vs[i]?=some v)
 (hQ:∀h',Om w I a es ep t f ob (i+1) h'→BD I s.heap h'→Q (some v) {s with heap:=h'}):
 wpAny (model prog w) A (pyNext (.ref I)) Q E s:=by
 obtain⟨hi,ha,hbs⟩:=hS;have hT:s.TypeIs (.ref I) "set_iterator":=⟨_,hi,rfl⟩;unfold pyNext;refine Aa (Do (Bb (name:=BE "__next__") hT FS.slot_si_next
  (AV FS.slot_si_next hT FS.entry_si_next ?_ (FS.args_si_next _))))
 unfold Builtin.«set_iterator.__next__»;refine Aa (m:=slotArgs _ _ _) (Ac ?_);dsimp only;refine Aa (wpAny_fieldsOf hi rfl ?_);dsimp only;refine Aa (Ew ha rfl hf ?_);rw[if_neg (by simp)];have hil:i<vs.length:=(Al.mp hv).1;have fin:∀(first:Value)(h':Heap),BD I s.heap h'→M9 h' I a (f (i+1)) (i+1) es.size ep→Q (some v) {s with heap:=h'}:=λfirst h' sb hi'=> hQ h' ⟨hi',by rw[sb.2 a hne];exact ha,λp hp=>by rw[sb.2 p.1 (hob p hp)];exact hbs p hp⟩ sb
 cases hO with
 | drawn T places h0 hp h2=>
  dsimp only;have hTt:=hbs _ (Af.mpr rfl);refine Aa (Bd hTt rfl ?_);have hpl:places.length=es.size:=by rw[hp.length_eq,CZ]
  have hall:∀p∈places,p<es.size:=λp hm=>by simpa using hp.mem_iff.mp hm
  have hfm:∀(l:List Nat),(∀p∈l,p<es.size)→(l.filterMap λp=>(es[p]?).map (·.2))=l.map λp=>(es.getD p (0,.none)).2:=by
   intro l
   induction l with
   | nil=>intro _;rfl
   | cons q l ih=> intro hq;have hq0:q<es.size:=hq q (by simp);have h1:es[q]?=some es[q]:=Bq hq0;rw[D5,h1,AK,←ih λp hm=>hq p (by simp[hm])];simp[Array.getD,hq0]
  rw[hfm places hall,Ai] at hv;cases hpi:places[i]? with
  | none=>rw[hpi] at hv;cases hv
  | some pl=>
   rw[hpi] at hv;have hlt:pl<es.size:=hall pl (Am hpi);have hvv:v=es[pl].2:=by have:(es.getD pl (0,.none)).2=v:=A5 hv;rw[←this];simp[Array.getD,hlt]
   have hpi':(places.map λ(i:Nat)=>rawInt i).toArray[i]?=some (.int pl 0):=by rw[FL,Ai,hpi];rfl
   show wpAny _ _ (match(places.map λ(i:Nat)=>rawInt i).toArray[(i:Int).toNat]? with | some (.int place _)=>_ | some _=>_ | none=>_) _ _ _
   rw[Bk,hpi'];dsimp only;unfold setNextDrawn;refine Aa (Aa (Cg ha rfl hf ?_));dsimp only;rw[if_neg (by simp)];rw[Bk,Bq hlt];dsimp only;refine Ac ?_;refine Aa (BP hi rfl (by simp) ?_);refine Ac ⟨_,rfl,Ac ?_⟩;rw[←hvv];exact fin v _ (AU ..) (Mk (x:=v) (k:=0) hi _)
 | text h0=>
  show wpAny _ _ (setNext a 0 (i:Int).toNat (ep:Int).toNat>>=_) _ _ _;rw[NS,Bk,Bk];refine Aa (Aa (Cg ha rfl hf (Aa (LA ?_))));rw[if_pos h0];dsimp only;rw[if_neg (by simp)];unfold setWalk;refine Aa (Aa (Cg ha rfl hf (Aa (LA ?_))));rw[if_pos h0];refine Aa (Df (Ac (Ac ?_)));rw[Ai,Cm] at hv;cases hpk:(pickOrder (w.params.setOrder a ep) es)[i]? with
  | none=>rw[hpk] at hv;cases hv
  | some e=>
   rw[hpk] at hv;show wpAny _ _ (match((pickOrder (w.params.setOrder a ep) es)[i]?).map λe=>(e.2,0) with | some (x,next)=>_ | none=>_) _ _ _
   rw[hpk];have hvv:e.2=v:=A5 hv;dsimp only[Option.map];refine Aa (BP hi rfl (by simp) ?_);have hi1:=Mk (x:=v) (k:=0) hi (·.setIfInBounds 0 (rawInt (0:Nat)));refine Aa (BP (s:={s with heap:=s.heap.update I (Ed (·.setIfInBounds 0 (rawInt (0:Nat))))}) hi1 rfl (by simp) ?_)
   refine Ac ⟨_,rfl,Ac ?_⟩;rw[hvv];refine fin v _ ((AU ..).trans (AU ..)) ?_;exact Mk (x:=v) (k:=0) (i:=i) (first:=rawInt 0) (n:=es.size) (ep:=ep) (a:=a) (by exact hi1) _
 | few h0 h2=>
  have hi0:i=0:=by rw[Ab,AC] at hil;omega
  subst hi0;have hsz:es.size=1:=by rw[Ab,AC] at hil;omega
  show wpAny _ _ (setNext a 0 (0:Int).toNat (ep:Int).toNat>>=_) _ _ _;rw[NS,Bk];refine Aa (Aa (Cg ha rfl hf (Aa (LA ?_))));rw[if_neg (by rw[h0];simp)];dsimp only;rw[if_neg (by simp[hsz])];rw[hl,h0];refine Aa (m:=ite _ _ _) ?_;rw[if_neg (by simp)];refine Ac ?_;obtain⟨p,hpp⟩:∃p,t.place=#[p]:=by
   have h1:t.place.size=1:=by simp only[SetTable.fits,AB,beq_iff_eq] at hf;rw[hf.1,hsz]
   generalize t.place=tp at h1;obtain⟨pl⟩:=tp;cases pl with
   | nil=>simp at h1
   | cons p r=>cases r with
    | nil=>exact⟨p,rfl⟩
    | cons q r=>simp at h1
  obtain⟨⟨eh,ev⟩,hes⟩:∃e,es=#[e]:=by
   obtain⟨el⟩:=es;cases el with
   | nil=>simp at hsz
   | cons p r=>cases r with
    | nil=>exact⟨p,rfl⟩
    | cons q r=>simp at hsz
  subst hes;have hvv:ev=v:=by simpa using hv
  subst hvv;rw[hpp,(Ss p).1];refine Ac ?_;show wpAny _ _ (setField (.ref I) 0 (rawInt ((p+1:Nat):Int))>>=_) _ _ _;refine Aa (BP hi rfl (by simp) ?_);have hi1:=Mk (x:=ev) (k:=0) hi (·.setIfInBounds 0 (rawInt ((p+1:Nat):Int)));refine Aa (BP (s:={s with heap:=s.heap.update I (Ed (·.setIfInBounds 0 (rawInt ((p+1:Nat):Int))))}) hi1 rfl (by simp) ?_)
  refine Ac ⟨_,rfl,Ac ?_⟩;refine fin ev _ ((AU ..).trans (AU ..)) ?_;have:=Mk (x:=ev) (k:=0) (i:=0) (first:=rawInt ((p+1:Nat):Int)) (n:=1) (ep:=ep) (a:=a) (by exact hi1) (·.setIfInBounds 1 (rawInt ((0:Nat)+1:Int)))
  rw[hpp];exact this
theorem Pe{h1:Heap}{I:Addr}{P:Fin→Shared→Prop}{Q:Option Value→Shared→Prop}(hh:A.handled=none)(sb:BD I s.heap h1)(hQ:∀h',DU I s.heap h'→Q none {s with heap:=h'}):
 wpAny (model prog w) A.in1 (newExc (.type "StopIteration") []>>=λx=>raiseNew x) P
  (λe s'=>wpAny (model prog w) A (do if ←isInstance e (.type "StopIteration") then pure none else throw e) Q E s') {s with heap:=h1}:=by
 refine Aa ?_;simp only[newExc,newTuple];refine Aa (AW ?_ (by size_fits));refine Aa (m:=firstArgMember _ _) (D3 (a:=Value.none) (by first | rfl | (simp only[firstArgMember];rfl)) ?_)
 refine AW ?_ (by size_fits);simp only[raiseNew];refine Aa (wpAny_handled ?_);rw[show A.in1.handled=none from hh];refine Aa (Ac (wpAny_throw ?_));refine Aa (De (T:="StopIteration") (b:=true) ⟨_,An _ rfl,rfl⟩ isSubtype_stop ?_);exact Ac (hQ _ ((sb.extBut.push _).push _))
set_option maxHeartbeats 1000000 in
theorem Wu{I a:Addr}{es:Array (Int×Value)}{ep:Nat}{t:Ct}{f:Nat→Value}{vs:List Value}{ob:List (Addr×Obj)}{Q:Option Value→Shared→Prop}(hh:A.handled=none)
 (hO:SOrd w a es ep t f vs ob) (hf:t.fits es.size=true) (hl:t.led=!Ih w) (hne:a≠I) (hob:∀p∈ob,p.1≠I) (hS:Om w I a es ep t f ob es.size s.heap)
 (hQ:∀h',DU I s.heap h'→Q none {s with heap:=h'}):
 wpAny (model prog w) A (pyNext (.ref I)) Q E s:=by
 obtain⟨hi,ha,hbs⟩:=hS;have hT:s.TypeIs (.ref I) "set_iterator":=⟨_,hi,rfl⟩;unfold pyNext;refine Aa (Do (Bb (name:=BE "__next__") hT FS.slot_si_next
  (AV FS.slot_si_next hT FS.entry_si_next ?_ (FS.args_si_next _))))
 unfold Builtin.«set_iterator.__next__»;refine Aa (m:=slotArgs _ _ _) (Ac ?_);dsimp only;refine Aa (wpAny_fieldsOf hi rfl ?_);dsimp only;refine Aa (Ew ha rfl hf ?_);rw[if_neg (by simp)];cases hO with
 | drawn T places h0 hp h2=>
  dsimp only;have hTt:=hbs _ (Af.mpr rfl);refine Aa (Bd hTt rfl ?_);have hpl:places.length=es.size:=by rw[hp.length_eq,CZ]
  have hpi':(places.map λ(i:Nat)=>rawInt i).toArray[es.size]?=none:=by rw[FL,Ai,CA (by omega)];rfl
  show wpAny _ _ (match(places.map λ(i:Nat)=>rawInt i).toArray[(es.size:Int).toNat]? with | some (.int place _)=>_ | some _=>_ | none=>_) _ _ _
  rw[Bk,hpi'];dsimp only;refine Aa (BP hi rfl (by simp) ?_);have hi1:=Mk (x:= .none) (k:=0) hi (·.setIfInBounds 0 (rawInt 0));refine Aa (BP (s:={s with heap:=s.heap.update I (Ed (·.setIfInBounds 0 (rawInt 0)))}) hi1 rfl (by simp) ?_)
  exact Pe (s:=s) (I:=I) hh ((AU ..).trans (AU ..)) hQ
 | text h0=>
  show wpAny _ _ (setNext a 0 (es.size:Int).toNat (ep:Int).toNat>>=_) _ _ _;rw[NS,Bk,Bk];refine Aa (Aa (Cg ha rfl hf (Aa (LA ?_))));rw[if_pos h0];dsimp only;rw[if_neg (by simp)];unfold setWalk;refine Aa (Aa (Cg ha rfl hf (Aa (LA ?_))));rw[if_pos h0];refine Aa (Df (Ac (Ac ?_)));have hpk:(pickOrder (w.params.setOrder a ep) es)[es.size]?=none:=by have h1:=(SN (w.params.setOrder a ep) es).length_eq;rw[AC,AC] at h1;exact DV (by omega)
  show wpAny _ _ (match((pickOrder (w.params.setOrder a ep) es)[es.size]?).map λe=>(e.2,0) with | some (x,next)=>_ | none=>_) _ _ _
  rw[hpk];dsimp only[Option.map];refine Aa (BP hi rfl (by simp) ?_);exact Pe (s:=s) (I:=I) hh (AU ..) hQ
 | few h0 h2=>
  show wpAny _ _ (setNext a (if es.size=0 then(0:Int) else(t.place.getD 0 0:Int)+1).toNat (es.size:Int).toNat (ep:Int).toNat>>=_) _ _ _
  rw[NS,Bk];refine Aa (Aa (Cg ha rfl hf (Aa (LA ?_))));rw[if_neg (by rw[h0];simp)];dsimp only;rw[if_neg (by simp;intro _;omega)];rw[hl,h0];refine Aa (m:=ite _ _ _) ?_;rw[if_neg (by simp)];refine Ac ?_;have hps:t.place.size=es.size:=by simp only[SetTable.fits,AB,beq_iff_eq] at hf;exact hf.1
  have hnone:es[Du t.place (if es.size=0 then(0:Int) else(t.place.getD 0 0:Int)+1).toNat]?=none:=by
   generalize t.place=tp at hps;obtain⟨pl⟩:=tp;cases pl with
   | nil=>
    have:es.size=0:=by simpa using hps.symm
    exact DV (by omega)
   | cons p r=>
    cases r with
    | nil=>
     have h1:es.size=1:=by simpa using hps.symm
     rw[if_neg (by omega)];have:((([p].toArray).getD 0 0:Nat):Int)+1=((p+1:Nat):Int):=rfl;rw[this,Bk,(Ss p).2];exact DV (by omega)
    | cons q r=>
     have:es.size=r.length+2:=by simpa using hps.symm
     omega
  rw[hnone];refine Ac ?_;show wpAny _ _ (setField (.ref I) 2 .none>>=_) _ _ _;refine Aa (BP hi rfl (by simp) ?_);exact Pe (s:=s) (I:=I) hh (AU ..) hQ
theorem WJ{I:Addr}{first:Value}{ep:Nat}{Q:Value→Shared→Prop}(hi:M9 s.heap I a first i n ep)(h:Q (.ref I) s):wpAny (model prog w) A (pyIter (.ref I)) Q E s:=by have hT:s.TypeIs (.ref I) "set_iterator":=⟨_,hi,rfl⟩;refine wpAny_pyIter_slot hT FS.slot_si_iter (AV FS.slot_si_iter hT FS.entry_si_iter ?_ (FS.args_si_iter _));show wpAny _ _ (ret (.ref I)) _ _ s;exact Ac ⟨_,rfl,"set_iterator",_,hT,FS.slot_si_next.lookup,h⟩
theorem X0{prog:Br}{w:World}{I a:Addr}{es:Array (Int×Value)}{ep:Nat}{t:Ct}{f:Nat→Value}{vs:List Value}{ob:List (Addr×Obj)}(hh:A.handled=none)
 (hO:SOrd w a es ep t f vs ob) (hf:t.fits es.size=true) (hl:t.led=!Ih w) (hne:a≠I) (hob:∀p∈ob,p.1≠I):
 Walks prog w A I (I::a::ob.map (·.1)) [I] es.size (λi v=>vs[i]?=some v) (Om w I a es ep t f ob) where
 sub:=λb hb=>by simp at hb;simp[hb]
 frame:=λi h h' st hk=>⟨hk I (by simp) _ st.1,hk a (by simp) _ st.2.1,λp hp=>hk p.1 (by simp;exact .inr (.inr ⟨p.2,hp⟩)) _ (st.2.2 p hp)⟩
 item:=λi s Q E hi st hQ=>by
  have hlen:vs.length=es.size:=by rw[hO.perm.length_eq,Ab,AC]
  refine Wy hO hf hl hne hob st (v:=vs[i]'(by omega)) (Ak (by omega)) λh' st' sb=>?_;exact hQ _ h' s.toks (Ak (by omega)) st' λb o hb e=>sb.extBut b o (λh=>hb (by simp[h])) e
 done:=λs Q E st hQ=>Wu hh hO hf hl hne hob st λh' he'=>hQ h' s.toks λb o hb e=>he' b o (λh=>hb (by simp[h])) e
 self:=λ_ _ _ _ st hQ=>WJ st.1 hQ
namespace FS
theorem set_len:typeLookup (.type "set") "__len__"=pure (some (.builtin "set.__len__")):=by rw[typeLookup_type,builtinLookup_eq_fast];kernel_rfl
theorem split_set_len:splitId "set.__len__"=some ("set","__len__"):=by decide+kernel
end FS
theorem Xh{Q:Bool→Shared→Prop}(hT:s.TypeIs (.ref a) "set")(h:Q false s):wpAny (model prog w) A (CQ (.ref a)) Q E s:=by
 unfold CQ;refine Aa (En hT FS.set_len ?_);dsimp only;generalize Mn:("set.__len__":String)=id0;rw[show splitId id0=some ("set","__len__") from by subst Mn;exact FS.split_set_len]
 subst Mn;dsimp only;refine Aa (De (b:=true) hT sub_set_self ?_);simp only[Bool.not_true,By,if_false];refine Aa (C3 hT (Ac h))
set_option maxHeartbeats 1000000 in
theorem Yu{ks:List Str}{Q:List Value→Shared→Prop}(hh:A.handled=none)(T:TxSet prog w s.heap a ks)
 (hQ:∀h' d' tk vs js,StrsAre vs js→js.Perm ks→s.heap.objs.size<h'.objs.size→(∀b o,s.heap.get? b=some o→h'.get? b=some o)→Q vs {s with heap:=h',drawn:=d',toks:=tk}):
 wpAny (model prog w) A (collect (.ref a)) Q E s:=by
 obtain⟨⟨es,ep,t,ho,hel,hks,hf,hled,hpl⟩,hnd,hfew⟩:=T;have hsz:es.size=ks.length:=by rw[←NL hks,Ab,AC]
 have haS:a<s.heap.objs.size:=Ao ho;unfold collect;refine Aa (wpAny_runValue (Be E9 ?_));rw[AO EA _];show wpAny _ A.in1 (newList []>>=λl=>again (.builtin "list.__iadd__" ⟨[l,.ref a],[]⟩)) _ _ s;refine Aa (AW ?_);refine Ac ⟨Bi Dk _,Be Fu ?_⟩;rw[AO Dk _];generalize hh1:s.heap.push {cls:= .type "list",data:= .seq ([]:List Value).toArray}=h1;have hk1:∀b o,s.heap.get? b=some o→h1.get? b=some o:=λb o e=>by rw[←hh1];exact Ad _ e
 have hS1:h1.get? s.heap.objs.size=some {cls:= .type "list",data:= .seq ([]:List Value).toArray}:=by rw[←hh1];exact An _ rfl
 have hz1:s.heap.objs.size<h1.objs.size:=Ao hS1;show wpAny _ A.in1 (CS (.ref s.heap.objs.size) (.ref a) (.ref s.heap.objs.size)) _ _ {s with heap:=h1}
 unfold CS;have hT1:Shared.TypeIs {s with heap:=h1} (.ref a) "set":=⟨_,hk1 _ _ ho,rfl⟩
 refine Aa (C3 hT1 ?_);have e1:Co (.ref s.heap.objs.size) (.ref a)=false:=by unfold Co;exact beq_eq_false_iff_ne.mpr (BK (Ar haS))
 rw[if_neg (by rw[e1];decide)];refine Aa (WN (s:={s with heap:=h1}) (hk1 _ _ ho) hf hpl (by rw[hsz];exact fits_of_scanBound hfew) λh2 d2 I f vs ob hO hI hi hob hk2 hI2 hob2=>?_)
 refine Aa (AT (Xh (s:={s with heap:=h2,drawn:=d2}) ⟨_,hk2 _ _ (hk1 _ _ ho),rfl⟩ ?_))
 rw[if_pos (by decide)];refine Aa (BI ?_);have hS2:h2.get? s.heap.objs.size=some {cls:= .type "list",data:= .seq ([]:List Value).toArray}:=hk2 _ _ hS1;refine Aa ?_;show wpAny _ A.in1 (updateSeq s.heap.objs.size (·.push .none)>>=λ_=>updateSeq s.heap.objs.size (·.pop)) _ _ {s with heap:=h2,drawn:=d2}
 refine Aa (BZ hS2 rfl ?_);have hS3:=Bh (AJ (·.push Value.none)) hS2 rfl;refine BZ hS3 rfl ?_;have hS4:=Bh (AJ (·.pop)) hS3 rfl;have oth:∀b o,b≠s.heap.objs.size→h2.get? b=some o→((h2.update s.heap.objs.size (AJ (·.push Value.none))).update s.heap.objs.size (AJ (·.pop))).get? b=some o:=
  λb o hb e=>(AS _ _ (BK hb)).trans ((AS _ _ (BK hb)).trans e)
 have hIne:I≠s.heap.objs.size:=BK (Ar (AD hz1 hI));have hane:a≠I:=Ar (AD haS (AY (Bz hz1) hI));have hobne:∀p∈ob,p.1≠s.heap.objs.size:=λp hp=>BK (Ar (AD hz1 (hob p hp).2.1));have W:=(X0 (prog:=prog) (A:=A.in1) (by simpa using hh) hO hf hled hane (λp hp=>(hob p hp).2.2)).toS;have hlen:vs.length=es.size:=by rw[hO.perm.length_eq,Ab,AC]
 obtain⟨js,hjs,hjp⟩:=Pw hO.perm hks;refine Ac ⟨Bi E_ _,codeAny_extend_loopS W (by rw[hsz];exact fits_of_scanBound hfew) s.heap.objs.size ?_ _ es.size 0 _ _ _ rfl (AQ _)
  ⟨oth _ _ hIne hi,oth _ _ (Ar haS) (hk2 _ _ (hk1 _ _ ho)),λp hp=>oth _ _ (hobne p hp) (hob p hp).1⟩ hS4 (ItemsOf.nil _) λs' acc' c' hm hS' hacc=>?_⟩
 · intro hmem;rw[As,As,AN] at hmem;rcases hmem with h | h | ⟨p,hp,h⟩
   · exact hIne h.symm
   · exact Ar haS h.symm
   · exact hobne p hp h
 · show wpAny _ A (load s.heap.objs.size>>=_) _ _ s';refine Aa (wpAny_load hS' ?_);have hav:acc'.toList=vs:=by
    apply List.ext_getElem?;intro j;by_cases hj:j<es.size
    · have hj':j<acc'.size:=by rw[hacc.1];exact hj
      have h1:acc'.toList[j]?=some acc'[j]:=by rw[Cm];exact Bq hj'
      rw[h1];exact(hacc.2 j _ (Bq hj')).symm
    · rw[CA (by rw[AC,hacc.1];omega),CA (by omega)]
   obtain⟨h',g',d',tk',os'⟩:=s';have eg:g'=s.gens:=hm.gens;have ed:d'=d2:=hm.drawn;have eo:os'=s.os:=hm.os;subst eg;subst ed;subst eo;refine Ac ?_;rw[hav];refine hQ h' d' tk' vs js hjs hjp (Ao hS') λb o e=>?_;have hb:b<s.heap.objs.size:=Ao e;refine hm.heap b o ?_ (oth b o (Ar hb) (hk2 _ _ (hk1 _ _ e)));have h0:h1.objs.size≤I:=hI;simp only[As,Bo,or_false,not_or];exact⟨Ar hb,Ar (AD hb (AY (Bz hz1) hI))⟩
theorem Y9{ks:List Str}{Q:Value→Shared→Prop}(hh:A.handled=none)(T:TxSet prog w s.heap a ks)(h64:ks.length<64)
 (h:∀(p:Addr)(h':Heap)(d':Drawn)(tk:Nat)(out:Array Value)(ms:List Str)(e:Nat),StrsAre out.toList ms→ms.Perm ks→sortedS ms=true→s.heap.objs.size≤p→h'.get? p=some (Bm "list" out e)→
  (∀b o,s.heap.get? b=some o→h'.get? b=some o)→Q (.ref p) {s with heap:=h',drawn:=d',toks:=tk}):
 wpAny (model prog w) A (call (.builtin "sorted") [.ref a]) Q E s:=by
 refine Fb kind_sorted plain_sorted entry_sorted (args_sorted1 _) ?_;unfold Fl;refine Aa (m:=checkCount "sorted" 1 1 _) (Ac ?_);refine Aa (Yu (by simpa using hh) T λh1 d1 tk1 vs js hv hp hz hk=>?_);have hvl:vs.length=ks.length:=by rw[NL hv,hp.length_eq]
 refine Aa (EK ?_ (by rw[sizeLine_eq];omega));have hoL:(h1.push (Bm "list" vs.toArray 0)).get? h1.objs.size=some (Bm "list" vs.toArray 0):=An _ rfl;show wpAny _ _ (holding _ _>>=_) _ _ {s with heap:=h1.push (Bm "list" vs.toArray 0),drawn:=d1,toks:=tk1}
 refine Aa (AT (AV FM ⟨_,hoL,rfl⟩ Fz (list_sort_treeK strKind_oneLt hoL hv.keysOf (λv₁ v₂ rest e=>keyKind_strs (by rw[←e];exact hv)) (by omega) λst' a1 a2=>⟨_,rfl,?_⟩) (args_list_sort _)));obtain⟨ms,m1,m2,m3⟩:=sorted_out_str hv a1 a2;obtain⟨e,he⟩:=sortedHeap_at (out:=(arrOf st').map (·.2)) hoL;refine Ac ⟨_,rfl,h h1.objs.size _ d1 tk1 _ ms e m1 (m2.trans hp) m3 (Bz hz) he λb o eb=>?_⟩
 · have hb:b<h1.objs.size:=Ao (hk b o eb);rw[sortedHeap_old (Ar hb) (by rw[size_push'];exact CY hb)];exact Ad _ (hk b o eb)
section
variable{te:TE}{p2 p3 p4:Pos}
end
theorem YO:typeLookup (.type "tuple") "keys"=pure none:=by rw[typeLookup_type,builtinLookup_eq_fast];kernel_rfl
set_option maxHeartbeats 4000000 in
theorem YC{prog:Br}{w:World}{A:Bu}{E:Value→Shared→Prop}{a:Addr}{its:Array Value}{n:Nat}{sl:Array (Option Value)}{h:Heap}{g d t os}{Q:Option Value→Shared→Prop}
 (hh:A.handled=none) (hx:h.get? a=some {cls:= .type "tuple",dict:=none,data:= .seq its n,slots:=sl})
 (q:∀h' tk,(∀b o,h.get? b=some o→h'.get? b=some o)→Q none ⟨h',g,d,tk,os⟩):wpAny (model prog w) A (getAttr? (.ref a) "keys") Q E ⟨h,g,d,t,os⟩:=by
 have y0:∀tk',(⟨h,g,d,tk',os⟩:Shared).TypeIs (.ref a) "tuple":=λ_=>⟨_,hx,rfl⟩;have y1:=sub_AttributeError;have y2:=F.slot_tuple_getattribute.lookup;have y3:=F.slot_tuple_getattribute.bind (.ref a);have y4:=am_tuple_getattr_none;unfold getAttr? getAttrBy? getAttrBy
 repeat (any_goals (first
  | assumption
  | exact y0 _
  | ((with_reducible show wpAny _ _ (call (Value.builtin "tuple.__getattribute__") _ _) _ _ _)
     refine call_meets F.slot_tuple_getattribute (y0 _) am_entry_tuple_getattribute (F.args_tuple_getattribute_2 _ _) (meets_getattribute_miss_tuple a its n sl "keys" _ YO (by decide+kernel)) ⟨hx,hh,λh' tk' e hx'=>?_⟩)
  | wp_step))
 obtain⟨t',u',he⟩:=hx'.there;show wpAny _ _ (getattributeRaised _ _ _ _ _ _ _) _ _ _;unfold getattributeRaised
 repeat (any_goals (first | assumption | wp_step))
 exact q _ _ hx'.keeps
theorem OX:mroOf (.type "dict")=pure [.type "dict",.type "object"]:=by rw[mroOf_type];kernel_rfl
theorem Yb:typeLookup (.type "dict") "__new__"=pure (some (.builtin "dict.__new__")):=by rw[typeLookup_type,builtinLookup_eq_fast];kernel_rfl
theorem SI:isSubtype (.type "dict") (.type "dict")=pure true:=by rw[isSubtype_type];kernel_rfl
theorem Ys:TypeCalled "dict" "dict.__new__" "dict.__init__":=
 ⟨by decide+kernel,by decide+kernel,⟨_,_,OX⟩,madeBy_type OX Yb (by decide+kernel),by decide+kernel,by rw[isSubtype_type];kernel_rfl,PySem.F.slot_dict_init⟩
theorem YB(a:Value):checkTypeCall "dict" ⟨[a],[]⟩=pure ():=by kernel_rfl
theorem Yh(a:Value):checkBuiltinCall "dict.__new__" ⟨[.type "dict",a],[]⟩=pure ():=by kernel_rfl
theorem Yw:entryFor table "dict.__new__"=some Builtin.«dict.__new__»:=Fj (by kernel_rfl)
theorem SS:plainId "dict.__new__"=true:=by decide+kernel
theorem Tn:entryFor table "dict.update.loop"=some Builtin.«dict.update.loop»:=Fj (by kernel_rfl)
theorem NY:plainId "dict.update.loop"=true:=by decide+kernel
theorem VJ(a:Value){Q₁:Value→Shared→Prop}(h:Q₁ (.ref s.heap.objs.size) {s with heap:=s.heap.push {cls:= .type "dict",data:= .dict #[]}}):
 codeAny (model prog w) A (.call (.builtin "dict.__new__") ⟨[.type "dict",a],[]⟩) (wants Q₁ E) s:=by
 refine F0 ?_;show wpAny _ A.in1 (checkBuiltinCall "dict.__new__" ⟨[.type "dict",a],[]⟩>>=λ_=>again (.builtin "dict.__new__" ⟨[.type "dict",a],[]⟩)) _ _ s;refine Aa (D3 (Yh a) (Ac ⟨Bi SS _,Be Yw ?_⟩));rw[AO SS _];have y1:=SI;have y2:=OX;obtain⟨hp,g,d,tk,os⟩:=s
 wp_walk
 exact h
structure Pr(P:Br)(w:World)where
 k:HF
 key:Value
 v:Value
 p:Addr
 is:(IL P w).is k key=true
theorem QG{d it t:Addr}{vs:Array Value}{R:Result→Shared→Prop}(hh:A.handled=none)(dt:d≠t)(di:d≠it)(ti:t≠it):∀(rest:List (Pr prog w))(i:Nat)(kvs:List (HF×Value))(s:Shared),
 s.heap.IsTupleIter it t i→s.heap.IsTuple t vs→vs.toList.drop i=rest.map (λr=> .ref r.p)→(∀r∈rest,s.heap.IsTuple r.p #[r.key,r.v]∧r.p≠d∧r.p≠it)→s.heap.DictOf (IL prog w) d kvs→kvs.length+rest.length≤Av→
 (∀h' tk,h'.DictOf (IL prog w) d (rest.foldl (λacc r=>stored acc r.k r.v) kvs)→(∀b o,b≠d→b≠it→s.heap.get? b=some o→h'.get? b=some o)→R (.ok (.ret .none)) {s with heap:=h',toks:=tk})→
 codeAny (model prog w) A (.builtin "dict.update.loop" ⟨[.ref d,.ref it,rawInt i,.none],[]⟩) R s
 | [],i,kvs,s,h1,h2,h3,h4,h5,h6,q=>by
  refine Be Tn ?_;rw[AO NY _];show wpAny _ _ (pyNext (.ref it)>>=_) _ _ _;have hv:vs[i]?=none:=by have:vs.toList.length≤i:=List.drop_eq_nil_iff.mp h3;rw[Array.getElem?_eq_none_iff];simpa using this
  refine Aa (F5 (A:=A.in1) hh h1 h2 hv λh' eb=>?_);show wpAny _ _ (Builtin.Dict.addKeywords d []>>=λ_=>ret .none) _ _ _;refine Aa (Ac (Ac ?_));exact q h' _ (h5.extBut eb di) (λb o hb hb2 e=>eb b o hb2 e)
 | r::rest,i,kvs,s,h1,h2,h3,h4,h5,h6,q=>by
  refine Be Tn ?_;rw[AO NY _];show wpAny _ _ (pyNext (.ref it)>>=_) _ _ _;have hl:i<vs.toList.length:=by
   rcases CT i vs.toList.length with z | z
   · exact z
   · rw[FD z] at h3;cases h3
  have hv:vs[i]?=some (.ref r.p):=by
   rw[Ba hl,AK] at h3;injection h3 with e1 e2
   rw[←e1];simp at hl ⊢
  have h3':vs.toList.drop (i+1)=rest.map (λr=> .ref r.p):=by rw[Ba hl,AK] at h3;injection h3
  obtain⟨hp,pd,pi⟩:=h4 r (Az ..);refine Aa (Fq h1 h2 hv λh' st' sb=>?_);have hp':h'.IsTuple r.p #[r.key,r.v]:=hp.extBut sb.extBut pi;show wpAny _ _ (holding [.ref r.p] _>>=_) _ _ _;refine Aa (AT (Aa (Cf ?_)));obtain⟨ob,e1,e2,nn,e3⟩:=hp';unfold Builtin.Dict.pairItems;refine Aa (C3 (s:={s with heap:=h'}) ⟨ob,e1,e2⟩ ?_);rw[if_pos (by decide)];refine Aa (Bd (s:={s with heap:=h'}) e1 e3 (Ac ?_));show wpAny _ _ (holding [r.key,r.v] (dictSet d r.key r.v)) _ _ _;refine AT (wpAny_dictSet_pairs (s:={s with heap:=h'}) (knd:=IL prog w) r.is (h5.extBut sb.extBut di) (λh2' hd2 sb2=>?_) (by rw[AF] at h6;omega));refine Ac ⟨Bi NY _,?_⟩;have ks:(stored kvs r.k r.v).length≤kvs.length+1:=by
   unfold stored
   split
   · rw[Ab];omega
   · rw[Aw,Ef];omega
  have:=QG (R:=R) hh dt di ti rest (i+1) (stored kvs r.k r.v) {s with heap:=h2',toks:=s.toks+1} (st'.extBut sb2.extBut di.symm) ((h2.extBut sb.extBut ti).extBut sb2.extBut dt.symm) h3'
   (λr' hr'=>by obtain⟨a1,a2,a3⟩:=h4 r' (AE _ hr');exact⟨(a1.extBut sb.extBut a3).extBut sb2.extBut a2,a2,a3⟩) hd2 (by rw[AF] at h6;omega)
   (λh3 tk a1 a2=>q h3 tk a1 (λb o hb hb2 e=>a2 b o hb hb2 (sb2.extBut b o hb (sb.extBut b o hb2 e))))
  exact this
def UU:List V→Hp→VK→Prop:=λxs H Q=>∃(a:Addr)(prs:List (Addr×HF×V)),xs=[.ref a]∧H a=some (.tup (prs.map λp=>V.ref p.1))∧(∀p∈prs,H p.1=some (.tup [kV p.2.1,p.2.2]))∧
 ∀d,H d=none→Q (.ref d) (Hr H d (.dK (prs.foldl (λacc p=>HM acc p.2.1 p.2.2) [])))
theorem QE(ok:HOk P w H h):∀prs:List (Addr×HF×V),(∀p∈prs,H p.1=some (.tup [kV p.2.1,p.2.2]))→
 ∃rs:List (Pr P w),rs.map (λr=>r.p)=prs.map (·.1)∧(∀r∈rs,h.IsTuple r.p #[r.key,r.v])∧∀(kvs:List (HF×V))(vs:List (HF×Value)),KV kvs vs→KV (prs.foldl (λacc p=>HM acc p.2.1 p.2.2) kvs) (rs.foldl (λacc r=>stored acc r.k r.v) vs)
 | [],_=>⟨[],rfl,λr hr=>by simp at hr,λkvs vs r=>r⟩
 | p::prs,hp=>by
  obtain⟨rs,e1,e2,e3⟩:=QE ok prs (λq hq=>hp q (AE _ hq));obtain⟨_,its,r,tp⟩:=(show ObjOk P w H h p.1 (.tup [kV p.2.1,p.2.2]) from ok p.1 _ (hp p (Az ..)));obtain⟨u1,u2,rfl,r1,r2⟩:=Mt r;refine⟨⟨p.2.1,u1,u2,p.1,Lw r1⟩::rs,by rw[AK,AK,e1],λq hq=>?_,λkvs vs rv=>?_⟩
  · rcases As.mp hq with rfl | hq
    · exact tp.tup
    · exact e2 q hq
  · rw[F2,F2];exact e3 _ _ (rv.put p.2.1 r2)
theorem X5(hc:X.calm=true):J9 X (.type "dict") UU:=by
 intro pins s σ H xs us Q I r h;obtain⟨a,prs,rfl,ha,hp,q⟩:=h;obtain⟨u,rfl,rx⟩:=Jx r;cases rx;obtain⟨zl,its,rv,o,e1,e2,e3,n,e4⟩:=(show ObjOk X.prog X.w H s.heap a (.tup (prs.map λp=>V.ref p.1)) from I.hok a _ ha);obtain⟨oc,od,odat,osl⟩:=o;cases e2;cases e3;cases e4;have hh:=I.ok.hd hc;have sz:s.heap.objs.size≠a:=C1 (Ao e1);refine callType_codes (Q₁:=λobj s₁=>obj= .ref s.heap.objs.size∧s₁={s with heap:=s.heap.push {cls:= .type "dict",data:= .dict #[]}}) Ys (YB _) PySem.F.entry_dict_init (VJ _ ⟨rfl,rfl⟩) λobj s₁ h₁=>?_
 obtain⟨rfl,rfl⟩:=h₁;have I1:=I.laid (a:=s.heap.objs.size) (o:= .dK []) (h':=s.heap.push {cls:= .type "dict",data:= .dict #[]}) (t':=s.toks) (λ_ _ q=>Ad _ q) (Ah _) (R_ s.heap I.big);have hD:(s.heap.push {cls:= .type "dict",data:= .dict #[]}).get? s.heap.objs.size=some {cls:= .type "dict",data:= .dict #[]}:=An _ rfl;refine⟨⟨_,hD,rfl⟩,PySem.F.args_dict_init_2 _ _,?_⟩;have hT:Shared.TypeIs {s with heap:=s.heap.push {cls:= .type "dict",data:= .dict #[]}} (.ref s.heap.objs.size) "dict":=⟨_,hD,rfl⟩;have hA:(s.heap.push {cls:= .type "dict",data:= .dict #[]}).get? a=some {cls:= .type "tuple",dict:=none,data:= .seq its.toArray n,slots:=osl}:=Ad _ e1;unfold Builtin.«dict.__init__» Builtin.Dict.selfAndRest;refine Aa (Aa (wpAny_notOrdered_dict hT (Ac ?_)));show wpAny _ _ (Fv "dict.__init__" s.heap.objs.size (.ref a) [] .none) _ _ _;unfold Fv;refine Aa (C3 (s:={s with heap:=s.heap.push {cls:= .type "dict",data:= .dict #[]}}) ⟨_,hA,rfl⟩ ?_);rw[if_pos (by decide)];obtain⟨rs,r1,r2,r3⟩:=QE I.hok prs hp;have hits:its=rs.map (λr=>Value.ref r.p):=by
  have e:∀(l:List (Addr×HF×V))(m:List Value),Vals (l.map λp=>V.ref p.1) m→m=(l.map (·.1)).map Value.ref:=by
   intro l
   induction l with
   | nil=>intro m q;cases q;rfl
   | cons p l ih=>
    intro m q;cases q with
    | cons q1 q2=>cases q1;rw[ih _ q2];rfl
  rw[e prs its rv,←r1,BN];rfl
 have hlen:rs.length=prs.length:=by have:=congrArg AX r1;simpa using this
 rw[Ab] at zl;have hsys:=I.big;obtain⟨hp0,g,dr,tk0,os⟩:=s;refine Aa (YC (A:=X.A.in1.in1) hh hA λh' tk kp=>?_);simp only[Option.isNone_none,if_true];have kp0:∀b o,hp0.get? b=some o→h'.get? b=some o:=λb o e=>kp b o (Ad _ e);have I2:Inv X pins σ (Hr H hp0.objs.size (.dK [])) ⟨h',g,dr,tk,os⟩:=I1.kept (t':=tk) kp;have hA':h'.IsTuple a its.toArray:=⟨_,kp _ _ hA,rfl,_,rfl⟩;have dlt:hp0.objs.size<h'.objs.size:=Ao (kp _ _ hD);have alt:a<h'.objs.size:=Ao (kp _ _ hA);refine Aa (BI (Aa (C8 (s:=⟨h',g,dr,tk,os⟩) hA' (Ac ⟨Bi NY _,?_⟩))));obtain⟨zd,hd,vs0,rk0,dd⟩:=Kg I2.hok (show(Hr H hp0.objs.size (.dK [])) hp0.objs.size=some (.dK []) from Hu);cases rk0;refine QG (A:=X.A.in1) hh sz (Ar dlt) (Ar alt) rs 0 [] _ ⟨_,An _ rfl,rfl,rfl⟩ (EU hA' _) ?_ ?_ (dd.push _) ?_ ?_
 · rw[E3,←hits]
 · intro r hr;have t0:=r2 r hr;have plt:r.p<hp0.objs.size:=by
    obtain⟨o,e,_⟩:=t0;exact Ao e
   exact⟨EU (t0.at λo e=>kp0 _ o e) _,Ar plt,Ar (BX plt dlt)⟩
 · rw[hlen];simpa using zl
 · intro h2 tk2 hd2 k2;have k3:∀b u,b≠hp0.objs.size→h'.get? b=some u→h2.get? b=some u:=λb u hb e=>k2 b u hb (Ar (Ao e)) (Ad _ e);have he:∃q,h2.get? hp0.objs.size=some q:=let⟨q,_,_,hq,_⟩:=hd2;⟨q,hq⟩;have hz:(prs.foldl (λacc p=>HM acc p.2.1 p.2.2) []).length≤Av:=by
    have len:∀(l:List (Addr×HF×V))(acc:List (HF×V)),(l.foldl (λacc p=>HM acc p.2.1 p.2.2) acc).length≤acc.length+l.length:=by
     intro l
     induction l with
     | nil=>intro acc;exact Ah _
     | cons p l ih=> intro acc;rw[F2,AF];have h1:=ih (HM acc p.2.1 p.2.2);have h2:=MD acc p.2.1 p.2.2;omega
    have:=len prs [];simp at this;omega
   have I3:=I2.write (x:=hp0.objs.size) (e:=hp0.objs.size) (o:= .dK (prs.foldl (λacc p=>HM acc p.2.1 p.2.2) [])) (t':=tk2) (by rw[Hu];exact True.intro) (.inl rfl) k3 he (O2 hz hd (r3 [] [] .nil) hd2);rw[Vz] at I3;exact⟨rfl,.ref hp0.objs.size,_,I3,rfl,q _ (I.hok.fresh (Ah _))⟩
namespace FS
theorem dict_len:typeLookup (.type "dict") "__len__"=pure (some (.builtin "dict.__len__")):=by rw[typeLookup_type,builtinLookup_eq_fast];kernel_rfl
theorem split_dict_len:splitId "dict.__len__"=some ("dict","__len__"):=by decide+kernel
end FS
section
theorem Xg{Q:Bool→Shared→Prop}(hT:s.TypeIs (.ref a) "dict")(h:Q false s):wpAny (model prog w) A (CQ (.ref a)) Q E s:=by
 unfold CQ;refine Aa (En hT FS.dict_len ?_);dsimp only;generalize Mn:("dict.__len__":String)=id0;rw[show splitId id0=some ("dict","__len__") from by subst Mn;exact FS.split_dict_len]
 subst Mn;dsimp only;refine Aa (De (b:=true) hT SI ?_);simp only[Bool.not_true,By,if_false];refine Aa (C3 hT (Ac h))
variable{κ:Type}[DecidableEq κ]{knd:PySem.KeyKind prog w κ}
set_option maxHeartbeats 1000000 in
theorem Yt{kvs:List (κ×Value)}{ep:Nat}{Q:List Value→Shared→Prop}(hh:A.handled=none)(hs:(a==BU)=false)(D:s.heap.DictAt knd a kvs ep)(hz:kvs.length≤Av)
 (hQ:∀(h':Heap)(tk:Nat)(vs:List Value),vs.length=kvs.length→(∀(i:Nat)(v:Value),vs[i]?=some v→∃k u,kvs[i]?=some (k,u)∧knd.is k v=true)→s.heap.objs.size<h'.objs.size→(∀b o,s.heap.get? b=some o→h'.get? b=some o)→Q vs {s with heap:=h',toks:=tk}):
 wpAny (model prog w) A (collect (.ref a)) Q E s:=by
 have haS:a<s.heap.objs.size:=D.lt_size;unfold collect;refine Aa (wpAny_runValue (Be E9 ?_));rw[AO EA _];show wpAny _ A.in1 (newList []>>=λl=>again (.builtin "list.__iadd__" ⟨[l,.ref a],[]⟩)) _ _ s;refine Aa (AW ?_);refine Ac ⟨Bi Dk _,Be Fu ?_⟩;rw[AO Dk _];generalize hh1:s.heap.push {cls:= .type "list",data:= .seq ([]:List Value).toArray}=h1;have hk1:∀b o,s.heap.get? b=some o→h1.get? b=some o:=λb o e=>by rw[←hh1];exact Ad _ e
 have hS1:h1.get? s.heap.objs.size=some {cls:= .type "list",data:= .seq ([]:List Value).toArray}:=by rw[←hh1];exact An _ rfl
 have hz1:s.heap.objs.size<h1.objs.size:=Ao hS1;have D1:h1.DictAt knd a kvs ep:=D.keep hk1;show wpAny _ A.in1 (CS (.ref s.heap.objs.size) (.ref a) (.ref s.heap.objs.size)) _ _ {s with heap:=h1}
 unfold CS;have hT1:Shared.TypeIs {s with heap:=h1} (.ref a) "dict":=D1.dictOf.typeIs
 refine Aa (C3 hT1 ?_);have e1:Co (.ref s.heap.objs.size) (.ref a)=false:=by unfold Co;exact beq_eq_false_iff_ne.mpr (BK (Ar haS))
 rw[if_neg (by rw[e1];decide)];refine Aa (wpAny_pyIter_dict (s:={s with heap:=h1}) (knd:=knd) hs D1 ?_)
 generalize hh2:h1.push {cls:= .type "dict_keyiterator",data:= .fields #[.ref a,.int 0 0,.int kvs.length 0,.int ep 0]}=h2;have hk2:∀b o,h1.get? b=some o→h2.get? b=some o:=λb o e=>by rw[←hh2];exact Ad _ e
 have hi:h2.IsKeyIter h1.objs.size a 0 kvs.length ep:=by rw[←hh2];exact⟨_,An _ rfl,rfl,rfl⟩
 have D2:h2.DictAt knd a kvs ep:=D1.keep hk2;show wpAny _ A.in1 _ _ _ {s with heap:=h2}
 refine Aa (AT (Xg (s:={s with heap:=h2}) D2.dictOf.typeIs ?_))
 rw[if_pos (by decide)];refine Aa (BI ?_);have hS2:h2.get? s.heap.objs.size=some {cls:= .type "list",data:= .seq ([]:List Value).toArray}:=hk2 _ _ hS1;refine Aa ?_;show wpAny _ A.in1 (updateSeq s.heap.objs.size (·.push .none)>>=λ_=>updateSeq s.heap.objs.size (·.pop)) _ _ {s with heap:=h2}
 refine Aa (BZ hS2 rfl ?_);have hS3:=Bh (AJ (·.push Value.none)) hS2 rfl;refine BZ hS3 rfl ?_;have hS4:=Bh (AJ (·.pop)) hS3 rfl;have oth:∀b o,b≠s.heap.objs.size→h2.get? b=some o→((h2.update s.heap.objs.size (AJ (·.push Value.none))).update s.heap.objs.size (AJ (·.pop))).get? b=some o:=
  λb o hb e=>(AS _ _ (BK hb)).trans ((AS _ _ (BK hb)).trans e)
 have hIne:h1.objs.size≠s.heap.objs.size:=BK (Ar hz1);have hane:a≠h1.objs.size:=Ar (BX haS hz1);have ext:DU s.heap.objs.size h2 ((h2.update s.heap.objs.size (AJ (·.push Value.none))).update s.heap.objs.size (AJ (·.pop))):=λb o hb e=>oth b o hb e;have W:=(Walks.dictKeys (knd:=knd) (A:=A.in1) (by simpa using hh) h1.objs.size a hane kvs ep).toS;refine Ac ⟨Bi E_ _,codeAny_extend_loopS W hz s.heap.objs.size ?_ _ kvs.length 0 _ _ _ rfl (AQ _)
  ⟨hi.extBut ext hIne,D2.extBut ext (Ar haS)⟩ hS4 (ItemsOf.nil _) λs' acc' c' hm hS' hacc=>?_⟩
 · intro hmem;rw[As,Af] at hmem;rcases hmem with h | h
   · exact hIne h.symm
   · exact Ar haS h.symm
 · show wpAny _ A (load s.heap.objs.size>>=_) _ _ s';refine Aa (wpAny_load hS' ?_);obtain⟨h',g',d',tk',os'⟩:=s';have eg:g'=s.gens:=hm.gens;have ed:d'=s.drawn:=hm.drawn;have eo:os'=s.os:=hm.os;subst eg;subst ed;subst eo;refine Ac ?_;refine hQ h' tk' acc'.toList (by rw[AC];exact hacc.1) (λi v hv=>?_) (Ao hS') λb o e=>?_
   · exact hacc.2 i v (by rw[←Cm];exact hv)
   · have hb:b<s.heap.objs.size:=Ao e;refine hm.heap b o ?_ (oth b o (Ar hb) (hk2 _ _ (hk1 _ _ e)));simp only[As,Bo,or_false,not_or];exact⟨Ar hb,Ar (BX hb hz1)⟩
theorem Tz:∀(fs:List Str)(vs:List Value),vs.length=fs.length→(∀(i:Nat)(v:Value)(f:Str),vs[i]?=some v→fs[i]?=some f→(IL prog w).is (.inr f) v=true)→StrsAre vs fs
 | [],[],_,_=> .nil
 | [],_::_,h,_=>by simp at h
 | _::_,[],h,_=>by simp at h
 | f::fs,v::vs,h,q=>by have h0:=q 0 v f rfl rfl;rw[XN] at h0;obtain⟨t,rfl⟩:∃t,v= .str f t:=Et h0;exact .cons f t (Tz fs vs (by simpa using h) λi v f' hv hf=>q (i+1) v f' (by simpa using hv) (by simpa using hf))
end
open PySem.W PyProof.Rows
namespace KS
def IZ{α:Type}(lt:Nat→Nat→Bool)(n:Nat):KasT α→(α→Prop)→Prop
 | .ret a,Q=>Q a
 | .ask i j k,Q=>i<n∧j<n∧IZ lt n (k (lt i j)) Q
variable{lt:Nat→Nat→Bool}{N:Nat}
theorem Mf{α β:Type}{f:α→KasT β}{Q:β→Prop}:∀(t:KasT α),IZ lt N t (λa=>IZ lt N (f a) Q)→IZ lt N (t.bind f) Q
 | .ret _,h=>h
 | .ask _ _ k,⟨h1,h2,h⟩=>⟨h1,h2,Mf (k _) h⟩
theorem Kq{α:Type}{Q Q':α→Prop}(hq:∀a,Q a→Q' a):∀(t:KasT α),IZ lt N t Q→IZ lt N t Q'
 | .ret a,h=>hq a h
 | .ask _ _ k,⟨h1,h2,h⟩=>⟨h1,h2,Kq hq (k _) h⟩
structure Ord(lt:Nat→Nat→Bool):Prop where
 as:∀a b,lt a b=true→lt b a=false
 tr:∀a b c,lt b a=false→lt c b=false→lt c a=false
theorem Ord.rfl'(O:Ord lt)(a:Nat):lt a a=false:=by
 cases h:lt a a with
 | false=>rfl
 | true=>exact(O.as a a h).symm.trans h ▸ rfl
abbrev K(p:Array Nat)(i:Nat):Nat:=p.getD i 0
structure Ok(N:Nat)(p:Array Nat):Prop where
 perm:p.toList.Perm (BV N)
theorem Ok.size{p:Array Nat}(h:Ok N p):p.size=N:=by have:=h.perm.length_eq;simpa using this
theorem Ok.below{p:Array Nat}(h:Ok N p)(hi:i<N):K p i<N:=by
 have hs:i<p.size:=by rw[h.size];exact hi
 have:p.getD i 0=p[i]:=by simp[Array.getD,hs]
 show p.getD i 0<N;rw[this];have m:p[i]∈p.toList:=by simp
 exact Dc.mp (h.perm.mem_iff.mp m)
theorem Ok.of_perm{p q:Array Nat}(h:Ok N p)(e:q.Perm p):Ok N q:=⟨(Array.perm_iff_toList_perm.mp e).trans h.perm⟩
theorem Ok.rev{p:Array Nat}(h:Ok N p)(i j:Nat):Ok N (kas_rev p i j):=h.of_perm (mirror_perm _ _ _ _)
theorem Ok.bub{p:Array Nat}(h:Ok N p)(i j:Nat):Ok N (bubble p i j):=h.of_perm (bubble_perm _ _ _)
theorem Kx{p q:Array Nat}{j:Nat}(h:p[i]?=q[j]?):K p i=K q j:=by show p.getD i 0=q.getD j 0;rw[EB,EB,h]
theorem Oo{p:Array Nat}(h:Ok N p){j:Nat}(hj:j≤N)(k:Nat):K (kas_rev p i j) k=if i≤k∧k<j then K p (i+j - 1 - k) else K p k:=by
 have e:=getElem?_mirror_all (xs:=p) (i:=i) (j:=j) (by rw[h.size];exact hj) k
 split
 · rename_i c;rw[if_pos c] at e;exact Kx e
 · rename_i c;rw[if_neg c] at e;exact Kx e
theorem Q4{p:Array Nat}(h:Ok N p){k l:Nat}(hk:k<N)(hl:l≤k)(i:Nat):K (bubble p k (k - l)) i=if i=l then K p k else if l<i∧i≤k then K p (i - 1) else K p i:=by
 have e:=getElem?_bubble (xs:=p) (src:=k) (by rw[h.size];exact hk) (k - l) (by omega) i;have e1:k - (k - l)=l:=by omega
 rw[e1] at e
 split
 · rename_i c;rw[if_pos c] at e;exact Kx e
 · rename_i c;rw[if_neg c] at e
   split
   · rename_i d;rw[if_pos d] at e;exact Kx e
   · rename_i d;rw[if_neg d] at e;exact Kx e
def Srt(lt:Nat→Nat→Bool)(p:Array Nat)(m:Nat):Prop:=∀i j,i<j→j<m→lt (K p j) (K p i)=false
def Dsc(lt:Nat→Nat→Bool)(p:Array Nat)(m:Nat):Prop:=∀i j,i<j→j<m→lt (K p i) (K p j)=false
def Eqv(lt:Nat→Nat→Bool)(a b:Nat):Prop:=lt a b=false∧lt b a=false
theorem Eqv.symm{a b:Nat}(h:Eqv lt a b):Eqv lt b a:=⟨h.2,h.1⟩
theorem Ord.refl(O:Ord lt)(a:Nat):Eqv lt a a:=⟨O.rfl' a,O.rfl' a⟩
theorem Ord.eqv_trans(O:Ord lt){a b c:Nat}(h:Eqv lt a b)(h':Eqv lt b c):Eqv lt a c:=⟨O.tr c b a h'.1 h.1,O.tr a b c h.2 h'.2⟩
theorem Ord.via(O:Ord lt){a b a' b':Nat}(h1:Eqv lt a a')(h2:Eqv lt b b')(h:lt a' b'=false):lt a b=false:=
 O.tr b b' a h2.symm.1 (O.tr b' a' a h h1.1)
theorem Ov(O:Ord lt){p:Array Nat}(h:Ok N p):∀(f n:Nat),1≤n→n+f≤N→Srt lt p n→
 IZ lt N (kas_asc p f n) (λm=>n≤m∧m≤n+f∧Srt lt p m∧(m<n+f→lt (K p m) (K p (m - 1))=true))
 | 0,n,_,_,s=>⟨Ah _,Ah _,s,λz=>absurd z (by omega)⟩
 | f+1,n,h1,h2,s=>by
  refine⟨h.below (by omega),h.below (by omega),?_⟩;cases c:lt (p.getD n 0) (p.getD (n - 1) 0) with
  | true=>exact⟨Ah _,by omega,s,λ_=>c⟩
  | false=>
   show IZ lt N (kas_asc p f (n+1)) _;refine Kq (λm hm=>?_) _ (Ov O h f (n+1) (by omega) (by omega) ?_)
   · obtain⟨a1,a2,a3,a4⟩:=hm;exact⟨by omega,by omega,a3,λz=>a4 (by omega)⟩
   · intro i j hij hj;by_cases hjn:j<n
     · exact s i j hij hjn
     · obtain rfl:j=n:=by omega
       by_cases hi:i=j - 1
       · subst hi;exact c
       · exact O.tr _ (K p (j - 1)) _ (s i (j - 1) (by omega) (by omega)) c
theorem OE(O:Ord lt){p:Array Nat}(h:Ok N p){j:Nat}(hj:j≤N)(he:∀k,i≤k→k<j→Eqv lt (K p k) (K p (j - 1)))(k:Nat):Eqv lt (K (kas_rev p i j) k) (K p k):=by
 rw[Oo h hj]
 split
 · rename_i c;exact O.eqv_trans (he _ (by omega) (by omega)) (he k c.1 c.2).symm
 · exact O.refl _
theorem Dsc.eqv(O:Ord lt){p q:Array Nat}{m:Nat}(h:Dsc lt p m)(e:∀k,Eqv lt (K q k) (K p k)):Dsc lt q m:=λi j hij hj=>O.via (e i) (e j) (h i j hij hj)
def Qz(lt:Nat→Nat→Bool)(p:Array Nat)(m q:Nat):Prop:=∀i,m - (q+1)≤i→i<m→Eqv lt (K p i) (K p (m - 1))
theorem Dsc.snoc(O:Ord lt){p:Array Nat}(h1:1≤n)(s:Dsc lt p n)(c:lt (K p (n - 1)) (K p n)=false):Dsc lt p (n+1):=by
 intro i j hij hj;by_cases hjn:j<n
 · exact s i j hij hjn
 · obtain rfl:j=n:=by omega
   by_cases hi:i=j - 1
   · subst hi;exact c
   · exact O.tr _ (K p (j - 1)) _ c (s i (j - 1) (by omega) (by omega))
theorem Nu(O:Ord lt):∀(f:Nat)(p:Array Nat)(n q:Nat),Ok N p→q+1≤n→n+f≤N→Dsc lt p n→Qz lt p n q→
 IZ lt N (kas_desc f p n q) (λr=>Ok N r.1∧n≤r.2.1∧r.2.1≤n+f∧Dsc lt r.1 r.2.1∧Qz lt r.1 r.2.1 r.2.2∧r.2.2+1≤r.2.1)
 | 0,p,n,q,h,h1,h2,s,e=>⟨h,Ah _,Ah _,s,e,h1⟩
 | f+1,p,n,q,h,h1,h2,s,e=>by
  refine⟨h.below (by omega),h.below (by omega),?_⟩;cases c:lt (p.getD n 0) (p.getD (n - 1) 0) with
  | true=>
   have c':lt (K p (n - 1)) (K p n)=false:=O.as _ _ c;have s':=s.snoc O (by omega) c';show IZ lt N (if q>0 then kas_desc f (kas_rev p (n - (q+1)) n) (n+1) 0 else kas_desc f p (n+1) 0) _
   have t1:∀p',Qz lt p' (n+1) 0:=λp' i hi1 hi2=>by
    obtain rfl:i=n:=by omega
    exact O.refl _
   split
   · refine Kq (λm hm=>?_) _ (Nu O f (kas_rev p (n - (q+1)) n) (n+1) 0 (h.rev _ _) (by omega) (by omega) (s'.eqv O (OE O h (by omega) e)) (t1 _));obtain⟨a1,a2,a3,a4⟩:=hm;exact⟨a1,by omega,by omega,a4⟩
   · refine Kq (λm hm=>?_) _ (Nu O f p (n+1) 0 h (by omega) (by omega) s' (t1 _));obtain⟨a1,a2,a3,a4⟩:=hm;exact⟨a1,by omega,by omega,a4⟩
  | false=>
   show IZ lt N (KasT.ask (p.getD (n - 1) 0) (p.getD n 0) λd=>if d=true then KasT.ret (p,n,q) else kas_desc f p (n+1) (q+1)) _
   refine⟨h.below (by omega),h.below (by omega),?_⟩;cases d:lt (p.getD (n - 1) 0) (p.getD n 0) with
   | true=>exact⟨h,Ah _,by show n≤n+(f+1);omega,s,e,h1⟩
   | false=>
    show IZ lt N (kas_desc f p (n+1) (q+1)) _;refine Kq (λm hm=>?_) _ (Nu O f p (n+1) (q+1) h (by omega) (by omega) (s.snoc O (by omega) d) ?_)
    · obtain⟨a1,a2,a3,a4⟩:=hm;exact⟨a1,by omega,by omega,a4⟩
    · intro i hi1 hi2;have en:Eqv lt (K p (n - 1)) (K p n):=⟨d,c⟩;by_cases hin:i=n
      · subst hin;exact O.refl _
      · exact O.eqv_trans (e i (by omega) (by omega)) en
theorem RE(O:Ord lt){p:Array Nat}{nrem:Nat}(h:Ok N p)(h1:1≤n)(h2:n≤nrem)(h3:nrem≤N)(s:Dsc lt p n):
 IZ lt N (kas_tail3 n nrem p) (λr=>Ok N r.2∧1≤r.1∧r.1≤nrem∧Srt lt r.2 r.1):=by
 unfold kas_tail3;refine Mf _ (Kq (λm hm=>?_) _ (Ov O (h.rev 0 n) (nrem - n) n h1 (by omega) ?_))
 · obtain⟨a1,a2,a3,_⟩:=hm;exact⟨h.rev 0 n,by show 1≤m;omega,by show m≤nrem;omega,a3⟩
 · intro i j hij hj;rw[Oo h (by omega),Oo h (by omega),if_pos (by omega),if_pos (by omega)];exact s _ _ (by omega) (by omega)
theorem Ti(O:Ord lt){p:Array Nat}{nrem:Nat}(h:Ok N p)(h1:1≤n)(h2:n+1≤nrem)(h3:nrem≤N)(s:Dsc lt p (n+1)):
 IZ lt N (kas_descPart n nrem p) (λr=>Ok N r.2∧1≤r.1∧r.1≤nrem∧Srt lt r.2 r.1):=by
 unfold kas_descPart;refine Mf _ (Kq (λr hr=>?_) _ (Nu O (nrem - (n+1)) p (n+1) 0 h (by omega) (by omega) s λi i1 i2=>?_))
 · obtain⟨a1,a2,a3,a4,a5,a6⟩:=hr
   split
   · exact RE O (a1.rev _ _) (by omega) (by omega) h3 (a4.eqv O (OE O a1 (by omega) a5))
   · exact RE O a1 (by omega) (by omega) h3 a4
 · obtain rfl:i=n:=by omega
   exact O.refl _
theorem Wp(O:Ord lt){p:Array Nat}{nrem:Nat}(h:Ok N p)(h1:1≤nrem)(h3:nrem≤N):
 IZ lt N (kas_count nrem p) (λr=>Ok N r.2∧1≤r.1∧r.1≤nrem∧Srt lt r.2 r.1):=by
 unfold kas_count;refine Mf _ (Kq (λn hn=>?_) _ (Ov O h (nrem - 1) 1 (Ah _) (by omega) λi j hij hj=>absurd hj (by omega)));obtain⟨a1,a2,a3,a4⟩:=hn
 split
 · exact⟨h,a1,by show n≤nrem;omega,a3⟩
 · rename_i ne;have hlt:n<nrem:=by
    have:n≠nrem:=λz=>ne (by rw[z];simp);omega
   have c:=a4 (by omega);have c':=O.as _ _ c
   split
   · refine⟨h.below (by omega),h.below (by omega),?_⟩;cases d:lt (p.getD 0 0) (p.getD (n - 1) 0) with
     | true=>exact⟨h,a1,by show n≤nrem;omega,a3⟩
     | false=>
      show IZ lt N (kas_descPart n nrem (kas_rev p 0 n)) _;have al:∀k,0≤k→k<n→Eqv lt (K p k) (K p (n - 1)):=by
       intro k _ hk;have u1:lt (K p (n - 1)) (K p k)=false:=by
        by_cases z:k=n - 1
        · subst z;exact O.rfl' _
        · exact a3 k (n - 1) (by omega) (by omega)
       have u0:lt (K p k) (K p 0)=false:=by
        by_cases z:k=0
        · subst z;exact O.rfl' _
        · exact a3 0 k (by omega) hk
       exact⟨O.tr _ (K p 0) _ d u0,u1⟩
      refine Ti O (h.rev 0 n) a1 (by omega) h3 ?_;have dn:Dsc lt p n:=λi j hij hj=>O.via (al i (by omega) (by omega)) (al j (by omega) hj) (O.rfl' _);exact(dn.snoc O a1 c').eqv O (OE O h (by omega) al)
   · refine Ti O h a1 (by omega) h3 ?_;refine Dsc.snoc O a1 (λi j hij hj=>absurd hj (by omega)) c'
theorem OO(O:Ord lt){p:Array Nat}(h:Ok N p){k:Nat}(hk:k<N)(s:Srt lt p k):∀(f l r:Nat),l≤r→r≤k→r - l≤f→(∀i,i<l→lt (K p k) (K p i)=false)→(∀i,r≤i→i<k→lt (K p k) (K p i)=true)→
 IZ lt N (kas_place p k f l r) (λL=>L≤k∧(∀i,i<L→lt (K p k) (K p i)=false)∧∀i,L≤i→i<k→lt (K p k) (K p i)=true)
 | 0,l,r,h1,h2,h3,a,b=>by
  obtain rfl:l=r:=by omega
  exact⟨h2,a,b⟩
 | f+1,l,r,h1,h2,h3,a,b=>by
  unfold kas_place
  split
  · obtain rfl:l=r:=by omega
    exact⟨h2,a,b⟩
  · refine⟨h.below hk,h.below (by omega),?_⟩;cases c:lt (p.getD k 0) (p.getD ((l+r) / 2) 0) with
    | true=>
     show IZ lt N (kas_place p k f l ((l+r) / 2)) _;refine OO O h hk s f l _ (by omega) (by omega) (by omega) a λi i1 i2=>?_;cases d:lt (K p k) (K p i) with
     | true=>rfl
     | false=>
      have:lt (K p k) (K p ((l+r) / 2))=false:=by
       by_cases z:i=(l+r) / 2
       · rw[←z];exact d
       · exact O.tr _ (K p i) _ (s _ _ (by omega) i2) d
      rw[show lt (K p k) (K p ((l+r) / 2))=true from c] at this;cases this
    | false=>
     show IZ lt N (kas_place p k f ((l+r) / 2+1) r) _;refine OO O h hk s f _ r (by omega) h2 (by omega) (λi hi=>?_) b;by_cases z:i=(l+r) / 2
     · rw[z];exact c
     · exact O.tr _ (K p ((l+r) / 2)) _ (s _ _ (by omega) (by omega)) c
theorem Rh(O:Ord lt):∀(f:Nat)(p:Array Nat)(k:Nat),Ok N p→k+f≤N→1≤k→Srt lt p k→IZ lt N (kas_bin f p k) (λq=>Ok N q∧Srt lt q (k+f))
 | 0,p,k,h,_,_,s=>⟨h,s⟩
 | f+1,p,k,h,h1,h2,s=>by
  unfold kas_bin;refine Mf _ (Kq (λl hl=>?_) _ (OO O h (by omega) s k 0 k (by omega) (Ah _) (by omega) (λi hi=>absurd hi (by omega)) λi i1 i2=>absurd i2 (by omega)));obtain⟨l1,a,b⟩:=hl;have e:k+1+f=k+(f+1):=by omega
  rw[←e];refine Rh O f _ (k+1) (h.bub k (k - l)) (by omega) (by omega) λi j hij hj=>?_;rw[Q4 h (by omega) l1,Q4 h (by omega) l1];by_cases jl:j=l
  · rw[if_pos jl,if_neg (by omega),if_neg (by omega)];exact a i (by omega)
  · rw[if_neg jl];by_cases jm:l<j∧j≤k
    · rw[if_pos jm];by_cases il:i=l
      · rw[if_pos il];exact O.as _ _ (b (j - 1) (by omega) (by omega))
      · rw[if_neg il];by_cases im:l<i∧i≤k
        · rw[if_pos im];exact s _ _ (by omega) (by omega)
        · rw[if_neg im];exact s _ _ (by omega) (by omega)
    · rw[if_neg jm,if_neg (by omega),if_neg (by omega)];exact s _ _ hij (by omega)
theorem sort_ok(O:Ord lt)(h1:1≤N):IZ lt N (kas_sort N) (λq=>Ok N q∧Srt lt q N):=by
 unfold kas_sort;refine Mf _ (Kq (λr hr=>?_) _ (Wp O (p:=(BV N).toArray) ⟨by simp⟩ h1 (Ah _)));obtain⟨a1,a2,a3,a4⟩:=hr
 split
 · have e:max r.1 1=r.1:=by omega
   rw[e];refine Kq (λq hq=>?_) _ (Rh O (N - r.1) r.2 r.1 a1 (by omega) a2 a4);rw[show r.1+(N - r.1)=N by omega] at hq;exact hq
 · have e:r.1=N:=by omega
   rw[e] at a4;exact⟨a1,a4⟩
open PySem in
theorem sat_wp{α:Type}{cmp:Nat→Nat→(Bool→Shared→Prop)→Shared→Prop}{Q:α→Prop}{G:α→Shared→Prop}(hc:∀i j C,i<N→j<N→C (lt i j) s→cmp i j C s)(hq:∀a,Q a→G a s):
 ∀t:KasT α,IZ lt N t Q→t.kasWp cmp G s
 | .ret a,h=>hq a h
 | .ask i j k,⟨h1,h2,h⟩=>hc i j _ h1 h2 (sat_wp hc hq (k _) h)
end KS
end L2
set_option maxHeartbeats 1000000
namespace L2
open PySem PySem.Spec PyProof.Rows PySem.W
def Ju:V→Bool
 | .non=>true
 | .int _=>true
 | _=>false
def Qn:V→V→Bool
 | .int i,.int j=>decide (i≤j)
 | _,_=>true
def Ka(H:Hp):V→Bool
 | .ref a=>match H a with
  | some (.tup [x,y])=>Ju x && Ju y && Qn x y
  | _=>false
 | _=>false
def SpanAt(H:Hp)(v:V)(lo hi:Option Int):Prop:=∃a,v= .ref a∧H a=some (.tup [eV lo,eV hi])
def IV:Option Int→Option Int→Bool
 | some i,some j=>decide (i≤j)
 | _,_=>true
theorem WL{v:V}{lo hi:Option Int}(h:SpanAt H v lo hi):Ka H v=IV lo hi:=by obtain⟨a,rfl,e⟩:=h;unfold Ka;simp only[e];cases lo<;>cases hi<;>simp[eV,Ju,Qn,IV]
theorem QA{K:Ae}(o:Option Int):∃t,TyOf K H (eV o) (.type t):=by
 cases o with
 | none=>exact⟨_,.non⟩
 | some i=>exact⟨_,.int i⟩
def N3(K:Ae):Sp:=λvs H Q _=>∃(v:V)(t:String),vs=[v]∧TyOf K H v (.type t)∧Q (.bl (t=="int")) H
def Q6(K:Ae):Sp:=λvs H Q _=>∃(v:V)(t:String),vs=[v]∧TyOf K H v (.type t)∧Q (.bl (Ju v)) H
def Rg(K:Ae)(H:Hp)(v:V):Prop:=∀a x y,v= .ref a→H a=some (.tup [x,y])→∃t1 t2,TyOf K H x (.type t1)∧TyOf K H y (.type t2)
def RP(K:Ae):Sp:=λvs H Q _=>∃(v:V)(t:String),vs=[v]∧TyOf K H v (.type t)∧Rg K H v∧Q (.bl (Ka H v)) H
theorem SpanAt.ty{K:Ae}{v:V}{lo hi:Option Int}(h:SpanAt H v lo hi):TyOf K H v (.type "tuple")∧Rg K H v:=by obtain⟨a,rfl,q⟩:=h;refine⟨.tup q,λa' x y e q'=>?_⟩;cases e;rw[q] at q';injection q' with q';injection q' with q';injection q' with e1 e2;injection e2 with e2 _;subst e1 e2;obtain⟨t1,h1⟩:=QA (K:=K) (H:=H) lo;obtain⟨t2,h2⟩:=QA (K:=K) (H:=H) hi;exact⟨t1,t2,h1,h2⟩
def Jq:Option Int→Option Int→Option Int
 | none,o=>o
 | some l,none=>some l
 | some l,some o=>some (if l<o then o else l)
def Jr:Option Int→Option Int→Option Int
 | none,o=>o
 | some h,none=>some h
 | some h,some o=>some (if o<h then o else h)
def Ir:Option Int→Option Int→Bool
 | some l,some h=>decide (h<l)
 | _,_=>false
def Nn(H:Hp)(v:V)(lo hi:Option Int):Prop:=if Ir lo hi=true then v= .non else SpanAt H v lo hi
def IK:Option Int→Int→Bool
 | none,_=>true
 | some l,k=>decide (l≤k)
def IR:Option Int→Int→Bool
 | none,_=>true
 | some h,k=>decide (k≤h)
def Ia(lo hi:Option Int)(k:Int):Bool:=IK lo k && IR hi k
def RS:Sp:=λvs H Q _=>∃(v w:V)(lo hi lo2 hi2:Option Int),vs=[v,w]∧SpanAt H v lo hi∧SpanAt H w lo2 hi2∧∀v' H',Same H H'→Nn H' v' (Jq lo lo2) (Jr hi hi2)→Q v' H'
theorem Wv(o1 o2:Option Int):∃ns:List Int,([o1,o2].filter EL).map eV=ns.map V.int∧No (λi j=>decide (j<i)) ns .non=eV (Jq o1 o2):=by
 cases o1 with
 | none=>
  cases o2 with
  | none=>exact⟨[],rfl,rfl⟩
  | some b=>exact⟨[b],rfl,rfl⟩
 | some a=>
  cases o2 with
  | none=>exact⟨[a],rfl,rfl⟩
  | some b=>
   refine⟨[a,b],rfl,?_⟩;show V.int (if decide (a<b)=true then b else a)=V.int (if a<b then b else a)
   by_cases h:a<b
   · rw[if_pos (decide_eq_true h),if_pos h]
   · rw[if_neg (by rw[decide_eq_false h];exact AA),if_neg h]
theorem Ww(o1 o2:Option Int):∃ns:List Int,([o1,o2].filter EL).map eV=ns.map V.int∧No (λi j=>decide (i<j)) ns .non=eV (Jr o1 o2):=by
 cases o1 with
 | none=>
  cases o2 with
  | none=>exact⟨[],rfl,rfl⟩
  | some b=>exact⟨[b],rfl,rfl⟩
 | some a=>
  cases o2 with
  | none=>exact⟨[a],rfl,rfl⟩
  | some b=>
   refine⟨[a,b],rfl,?_⟩;show V.int (if decide (b<a)=true then b else a)=V.int (if b<a then b else a)
   by_cases h:b<a
   · rw[if_pos (decide_eq_true h),if_pos h]
   · rw[if_neg (by rw[decide_eq_false h];exact AA),if_neg h]
abbrev T15:Int:=1000000000000000
theorem Mo:(10:Int)^(15:Int).toNat=T15:=by decide
theorem JT{j:Int}(h0:0≤j)(h1:j≤1000):Q3 10 j:=⟨h0,h1,by decide⟩
def MS:Option Int→List Int
 | none=>[]
 | some e=>[e - 1,e,e+1]
def Qg:List Int:=[0,10^(17:Int).toNat,0 - 10^(17:Int).toNat]
def Ud(ss:List (Option Int×Option Int)):List Int:=Qg++ss.flatMap λs=>MS s.1++MS s.2
def spPoints(K:Ae):Sp:=λvs H Q _=>∃(a:Addr)(ss:List (Addr×Option Int×Option Int)),vs=[.ref a]∧SqL K H a (ss.map λs=>V.ref s.1)∧(∀s∈ss,H s.1=some (.tup [eV s.2.1,eV s.2.2]))∧ss.length≤8∧
 ∀r H',Same H H'→H' r=some (.lst ((Ud (ss.map (·.2))).map V.int))→Q (.ref r) H'
theorem Mw(lo hi lo2 hi2:Option Int)(k:Int):Ia (Jq lo lo2) (Jr hi hi2) k=(Ia lo hi k && Ia lo2 hi2 k):=by cases lo<;>cases hi<;>cases lo2<;>cases hi2<;>simp only[Ia,IK,IR,Jq,Jr,Bool.true_and,Ec]<;>rw[Ch]<;>simp<;>(try split)<;>(try split)<;>omega
theorem Vd{lo hi:Option Int}(h:Ir lo hi=true)(k:Int):Ia lo hi k=false:=by
 cases lo with
 | none=>cases h
 | some l=>
  cases hi with
  | none=>cases h
  | some j=>
   have h:decide (j<l)=true:=h;have h:=of_decide_eq_true h;simp only[Ia,IK,IR];by_cases h1:l≤k
   · rw[decide_eq_true h1,decide_eq_false (by omega)];rfl
   · rw[decide_eq_false h1];rfl
def KI(c:Nat):Bool:=decide (97≤c) && decide (c≤122)
structure FieldOk(x:Str):Prop where
 one:1≤x.length
 eight:x.length≤8
 all:∀c∈x.cps.toList,KI c=true
theorem TX:("a":Str).cps.toList=[97]:=by decide+kernel
theorem TY:("z":Str).cps.toList=[122]:=by decide+kernel
theorem Qr{c:Nat}(h:KI c=true):(!decide ((⟨#[c]⟩:Str).cps.toList<("a":Str).cps.toList))=true:=by
 rw[TX];have h1:97≤c:=of_decide_eq_true ((AB _ _).mp h).1;have:¬([c]:List Nat)<[97]:=by
  intro z;cases z with
  | rel z=>exact absurd z (by omega)
  | cons z=>cases z
 show(!decide (([c]:List Nat)<[97]))=true;rw[decide_eq_false this];rfl
theorem Qm{c:Nat}(h:KI c=true):(!decide (("z":Str).cps.toList<(⟨#[c]⟩:Str).cps.toList))=true:=by
 rw[TY];have h1:c≤122:=of_decide_eq_true ((AB _ _).mp h).2;have:¬([122]:List Nat)<[c]:=by
  intro z;cases z with
  | rel z=>exact absurd z (by omega)
  | cons z=>cases z
 show(!decide (([122]:List Nat)<[c]))=true;rw[decide_eq_false this];rfl
def Rx:Sp:=λvs H Q _=>∃x:Str,vs=[.str x]∧FieldOk x∧∀H',Same H H'→Q (.bl true) H'
def TV(H:Hp)(p:Addr)(f:Str)(lo hi:Option Int):Prop:=H p=some (.tup [.str f,eV lo,eV hi])
def Te:Sp:=λvs H Q _=>∃(p:Addr)(f:Str)(lo hi:Option Int),vs=[.ref p]∧TV H p f lo hi∧FieldOk f∧IV lo hi=true∧∀H',Same H H'→Q (.bl true) H'
def Ik(f g:Str):Prop:=f.cps.toList<g.cps.toList
def RM:Sp:=λvs H Q _=>∃(a:Addr)(ps:List (Addr×Str×List V)),vs=[.ref a]∧H a=some (.tup (ps.map λp=>V.ref p.1))∧ps.length≤100∧(∀p∈ps,H p.1=some (.tup (V.str p.2.1::p.2.2)))∧
 (∀(i:Nat)p q,ps[i]?=some p→ps[i+1]?=some q→Ik p.2.1 q.2.1)∧∀H',Same H H'→Q (.bl true) H'
abbrev WP:=Str×Option Int×Option Int
def WishAt(H:Hp)(a:Addr)(w:List WP):Prop:=∃ps:List (Addr×WP),ps.map (·.2)=w∧H a=some (.tup (ps.map λp=>V.ref p.1))∧∀p∈ps,H p.1=some (.tup [.str p.2.1,eV p.2.2.1,eV p.2.2.2])
theorem WishAt.keep{H':Hp}{w:List WP}(h:WishAt H a w)(s:Tups H H'):WishAt H' a w:=by obtain⟨ps,e,h1,h2⟩:=h;exact⟨ps,e,s _ _ h1,λp hp=>s _ _ (h2 p hp)⟩
theorem WishAt.same{H':Hp}{w:List WP}(h:WishAt H a w)(s:Same H H'):WishAt H' a w:=h.keep s.tups
structure WOk(w:List WP):Prop where
 len:w.length≤100
 ok:∀p∈w,FieldOk p.1∧IV p.2.1 p.2.2=true
 asc:(w.map (·.1)).Pairwise Ik
def HH(w:List WP)(f:Str):Option (Option Int×Option Int):=(w.find? (λp=>decide (p.1=f))).map (·.2)
theorem YA{w:List WP}{f:Str}(h:∀p∈w,p.1≠f):HH w f=none:=by unfold HH;rw[Gq.mpr λp hp z=>h p hp (of_decide_eq_true z)];rfl
theorem T0(w:List WP)(p:WP)(f:Str)(hn:HH w p.1=none):HH (w++[p]) f=if f=p.1 then some p.2 else HH w f:=by
 unfold HH at*;rw[List.find?_append];by_cases h:f=p.1
 · subst h;rw[if_pos rfl];cases e:w.find? (λq=>decide (q.1=p.1)) with
   | some q=>rw[e] at hn;cases hn
   | none=>simp
 · rw[if_neg h];cases e:w.find? (λq=>decide (q.1=f)) with
   | some q=>rfl
   | none=>simp;exact λz=>h z.symm
theorem Lh{f g:Str}(h:Ik f g):f≠g:=λe=>by subst e;exact DK _ h
theorem WOk.fresh{w:List WP}(h:WOk w){p:WP}(hp:w[i]?=some p):HH (w.take i) p.1=none:=by
 refine YA λq hq e=>?_;obtain⟨j,hj⟩:=FY hq;rw[List.getElem?_take] at hj
 split at hj
 · rename_i lt;have hi:i<w.length:=(Al.mp hp).1;have:=Db.mp h.asc j i (by rw[Ab];omega) (by rw[Ab];exact hi) lt;rw[Dg,Dg] at this;have e1:w[j]'(by omega)=q:=(Al.mp hj).2;have e2:w[i]=p:=(Al.mp hp).2;rw[e1,e2] at this;exact Lh this e
 · cases hj
def RQ:Sp:=λvs H Q _=>∃(a:Addr)(w:List WP),vs=[.ref a]∧WishAt H a w∧WOk w∧∀H',Same H H'→Q (.bl true) H'
def SB:Sp:=λvs H Q _=>∃(a:Addr)(w:List WP),vs=[.ref a]∧WishAt H a w∧WOk w∧∀H',Same H H'→Q .non H'
def Ly:Option Int→Option Int→Int
 | some l,_=>l
 | none,some h=>h
 | none,none=>0
def Ry:Sp:=λvs H Q _=>∃(v:V)(lo hi:Option Int),vs=[v]∧SpanAt H v lo hi∧Q (.int (Ly lo hi)) H
abbrev PP:=Str×Int
def PieceAt(H:Hp)(a:Addr)(w:List PP):Prop:=∃ps:List (Addr×PP),ps.map (·.2)=w∧H a=some (.tup (ps.map λp=>V.ref p.1))∧∀p∈ps,H p.1=some (.tup [.str p.2.1,.int p.2.2])
theorem U_{K:Ae}{a p:Addr}{xs:List V}{g:TG}{tc:TT}{tk tv:TE}{Q:VK}{js:Iz}(Pv:Nat→St→List (HF×V)→Hp→Prop)(h0:Pv 0 (inn js σ) [] (Hr H p (.dK [])))
 (hl:∀i σ kvs H,i≤xs.length→Pv i σ kvs H→SqT K H a xs∧H p=some (.dK kvs)∧kvs.length<Av)
 (hs:∀(i:Nat)x σ kvs H(N:St→List (HF×V)→Hp→Prop),xs[i]?=some x→Pv i σ kvs H→(∀σ' kvs' H',Pv (i+1) σ' kvs' H'→N σ' kvs' H')→g x σ H λσ2 H2=>tc σ2 H2 λb H3=> if b=true then tk σ2 H3 λk H4=>tv σ2 H4 λy H5=>∃ky,k=kV ky∧H5 p=some (.dK kvs)∧N σ2 (HM kvs ky y) (Hr H5 p (.dK (HM kvs ky y))) else N σ2 kvs H3)
 (hd:∀σ kvs H,Pv xs.length σ kvs H→Q (.ref p) H):Os (KA K a) p js g tc tk tv σ H Q:=by
 refine⟨λi m σ kvs H=>m=xs.length - i∧i≤xs.length∧Pv i σ kvs H,⟨xs.length,by simp,AQ _,h0⟩,?_⟩;rintro i m σ kvs H ⟨rfl,hi,pv⟩;obtain⟨q0,q1,q2⟩:=hl i σ kvs H hi pv;refine⟨q1,?_⟩;by_cases lt:i<xs.length
 · refine .inr ⟨⟨xs,xs[i],q0,by simp[lt]⟩,q2,λx H' y=>?_⟩;obtain⟨e,y⟩:=y;subst e;exact hs i x σ kvs H' (λσ2 kvs2 H2=>∃m',m'<xs.length - i∧m'=xs.length - (i+1)∧i+1≤xs.length∧Pv (i+1) σ2 kvs2 H2) (y xs q0) pv λσ' ys' H' p'=>⟨xs.length - (i+1),by omega,rfl,lt,p'⟩
 · have e:i=xs.length:=by omega
   subst e;exact .inl ⟨⟨xs,q0,Ah _⟩,hd σ kvs H pv⟩
theorem Vv{y:Str}(h:x.cps.toList=y.cps.toList):x=y:=by obtain⟨a⟩:=x;obtain⟨b⟩:=y;congr;exact Array.toList_inj.mp h
theorem O6{y:Str}(h:¬Ik x y)(n:x≠y):Ik y x:=by
 unfold Ik at*;rcases Std.lt_trichotomy (α:=List Nat) x.cps.toList y.cps.toList with h1 | h1 | h1
 · exact absurd h1 h
 · exact absurd (Vv h1) n
 · exact h1
theorem N9{y z:Str}(h:Ik x y)(h2:Ik y z):Ik x z:=List.lt_trans h h2
theorem Sz:∀(r:List Str)(p:Str),risingS p r=true→(p::r).Nodup→(p::r).Pairwise Ik
 | [],p,_,_=>List.pairwise_singleton _ _
 | x::r,p,h,n=>by
  unfold risingS at h;rw[AB,DQ,ltCps_eq,decide_eq_false_iff_not] at h;rw[CC] at n;have px:Ik p x:=O6 (x:=x) (y:=p) h.1 (λe=>n.1 (by rw[←e];exact Az));have ih:=Sz r x h.2 n.2;rw[BQ];refine⟨λy hy=>?_,ih⟩;rcases As.mp hy with rfl | hy
  · exact px
  · exact N9 px ((List.pairwise_cons.mp ih).1 y hy)
theorem SA{ms:List Str}(h:sortedS ms=true)(n:ms.Nodup):ms.Pairwise Ik:=by
 cases ms with
 | nil=>exact .nil
 | cons x r=>exact Sz r x h n
theorem PieceAt.keep{H':Hp}{w:List PP}(h:PieceAt H a w)(s:Tups H H'):PieceAt H' a w:=by obtain⟨ps,e,h1,h2⟩:=h;exact⟨ps,e,s _ _ h1,λp hp=>s _ _ (h2 p hp)⟩
theorem PieceAt.same{H':Hp}{w:List PP}(h:PieceAt H a w)(s:Same H H'):PieceAt H' a w:=h.keep s.tups
structure POk(p:List PP):Prop where
 len:p.length≤100
 ok:∀x∈p,FieldOk x.1
 asc:(p.map (·.1)).Pairwise Ik
def IH(p:List PP)(f:Str):Option Int:=(p.find? (λx=>decide (x.1=f))).map (·.2)
theorem XO{w:List PP}{f:Str}(h:∀p∈w,p.1≠f):IH w f=none:=by unfold IH;rw[Gq.mpr λp hp z=>h p hp (of_decide_eq_true z)];rfl
theorem XR(w:List PP)(p:PP)(f:Str)(hn:IH w p.1=none):IH (w++[p]) f=if f=p.1 then some p.2 else IH w f:=by
 unfold IH at*;rw[List.find?_append];by_cases h:f=p.1
 · subst h;rw[if_pos rfl];cases e:w.find? (λq=>decide (q.1=p.1)) with
   | some q=>rw[e] at hn;cases hn
   | none=>simp
 · rw[if_neg h];cases e:w.find? (λq=>decide (q.1=f)) with
   | some q=>rfl
   | none=>simp;exact λz=>h z.symm
theorem POk.fresh{w:List PP}(h:POk w){p:PP}(hp:w[i]?=some p):IH (w.take i) p.1=none:=by
 refine XO λq hq e=>?_;obtain⟨j,hj⟩:=FY hq;rw[List.getElem?_take] at hj
 split at hj
 · rename_i lt;have hi:i<w.length:=(Al.mp hp).1;have:=Db.mp h.asc j i (by rw[Ab];omega) (by rw[Ab];exact hi) lt;rw[Dg,Dg] at this;have e1:w[j]'(by omega)=q:=(Al.mp hj).2;have e2:w[i]=p:=(Al.mp hp).2;rw[e1,e2] at this;exact Lh this e
 · cases hj
def JE(p:List PP)(x:WP):Bool:=match IH p x.1 with
 | none=>false
 | some n=>Ia x.2.1 x.2.2 n
theorem T7{p:List PP}{x:WP}(h:IH p x.1=none):JE p x=false:=by unfold JE;rw[h]
theorem NM{p:List PP}{x:WP}{n:Int}(h:IH p x.1=some n):JE p x=Ia x.2.1 x.2.2 n:=by unfold JE;rw[h]
def HE(w:List WP)(p:List PP):Bool:=w.all (JE p)
theorem Xv{w:List WP}{p:List PP}{x:WP}(hx:x∈w)(h:JE p x=false):HE w p=false:=by unfold HE;rw[List.all_eq_false];exact⟨x,hx,by rw[h];exact AA⟩
def RC:Sp:=λvs H Q _=>∃(a b:Addr)(w:List WP)(p:List PP),vs=[.ref a,.ref b]∧WishAt H a w∧PieceAt H b p∧POk p∧∀H',Same H H'→Q (.bl (HE w p)) H'
theorem az:("abcdefghijklmnopqrstuvwxyz":Str).cps.toList=(BV 26).map (· +97):=by decide+kernel
theorem QF{r:Int}(h0:0≤r)(h1:r<26):∃c,IS ("abcdefghijklmnopqrstuvwxyz":Str).cps.toList r=some c∧KI c=true:=by
 rw[az];obtain⟨k,rfl⟩:∃k:Nat,r=k:=⟨r.toNat,by omega⟩;have hk:k<26:=by omega
 refine⟨k+97,?_,?_⟩
 · refine J6 ?_;rw[Ai,List.getElem?_range hk];rfl
 · unfold KI;rw[AB];exact⟨decide_eq_true (by omega),decide_eq_true (by omega)⟩
theorem Tl:∀(cs:List Nat),(Txt.join ("":Str) (cs.map λc=>(⟨#[c]⟩:Str))).cps.toList=cs
 | []=>rfl
 | [c]=>rfl
 | c::d::r=>by
  have ih:=Tl (d::r);have e:∀(ts:List Str),Txt.join ("":Str) ts=Str.join ("":Str) ts:=λts=>StrLaws.glued_eq_join _ _;rw[e] at ih ⊢;show((⟨#[c]⟩:Str)++("":Str)++Str.join ("":Str) ((d::r).map λc=>(⟨#[c]⟩:Str))).cps.toList=_;have:((⟨#[c]⟩:Str)++("":Str)++Str.join ("":Str) ((d::r).map λc=>(⟨#[c]⟩:Str))).cps.toList=c::(Str.join ("":Str) ((d::r).map λc=>(⟨#[c]⟩:Str))).cps.toList:=by show(#[c]++#[]++_:Array Nat).toList=_;simp
  rw[this,ih]
theorem V3(cs:List Nat)(h:cs.length≤1000):JoinOk ("":Str) (cs.map λc=>(⟨#[c]⟩:Str))=true:=by
 unfold JoinOk;rw[DQ];refine StrLaws.joinFits (B:=1) (λy hy=>?_) ?_
 · obtain⟨c,_,rfl⟩:=AN.mp hy;exact Ah 1
 · rw[Ab];show cs.length*1+cs.length*0≤_;omega
theorem XC{cs:List Nat}(h1:1≤cs.length)(h8:cs.length≤8)(ok:∀c∈cs,KI c=true):FieldOk (Txt.join ("":Str) (cs.map λc=>(⟨#[c]⟩:Str))):=by
 have e:=Tl cs;have hl:(Txt.join ("":Str) (cs.map λc=>(⟨#[c]⟩:Str))).length=cs.length:=by show Array.size _=_;rw[←AC,e]
 exact⟨by rw[hl];exact h1,by rw[hl];exact h8,by rw[e];exact ok⟩
theorem SameB.off{g p:Addr}{H':Hp}{o:HO}(s:SameB b g H H')(hp:H p=none):SameB b g H (Hr H' p o):=λa x h n1 n2=>by
 have:a≠p:=λe=>by rw[e,hp] at h;cases h
 rw[HD this];exact s a x h n1 n2
theorem SameB.none{g p:Addr}{H':Hp}(s:SameB b g H H')(hp:H' p=none)(pb:p≠b)(pg:p≠g):H p=none:=by
 cases e:H p with
 | none=>rfl
 | some o=>rw[s p o e pb pg] at hp;cases hp
open PySem PySem.Spec PyProof.Rows PySem.W
theorem Wf{α:Type}(d:α){ps:List α}{p:Array Nat}(h:KS.Ok ps.length p):(p.toList.map λi=>ps.getD i d).Perm ps:=by
 have e:(BV ps.length).map (λi=>ps.getD i d)=ps:=by
  apply List.ext_getElem
  · simp
  · intro i h1 h2;simp[h2]
 have:=h.perm.map (λi=>ps.getD i d);rw[e] at this;exact this
theorem VP{α β:Type}(f:α→β)(d:α)(e:β)(ps:List α)(h:i<ps.length):(ps.map f).getD i e=f (ps.getD i d):=by simp[h]
open PySem.AutoSeq1 (wpAny_loadPart')
open PySem.MeetsSeq PySem.MeetsSeq2 PySem.MeetsSeq3 PySem.SeqRoads2
def LtAt(A:Bu)(s:Shared)(y x:Value)(b:Bool):Prop:=
 ∀(prog:Br)(w:World)(E:Value→Shared→Prop)(Q:Value→Shared→Prop),Q (.bool b) s→wpAny (model prog w) A (richCompare .Lt y x) Q E s
structure FirstAt(A:Bu)(s:Shared)(items items2:Array Value)(b:Bool)(j:Nat):Prop where
 le1:j≤items.size
 le2:j≤items2.size
 same:∀i(h1:i<items.size)(h2:i<items2.size),i<j→DJ A s items[i] items2[i] true
 fin:((items.size≤j∨items2.size≤j)∧b=decide (items.size<items2.size))∨∃(h1:j<items.size)(h2:j<items2.size),DJ A s items[j] items2[j] false∧LtAt A s items[j] items2[j] b
theorem Yc(l b:Addr)(items items2:Array Value)(n n2:Nat)(dd dd2:Option Addr)(sl sl2:Array (Option Value))(c:Bool)(j k:Nat):
 ∀i:Nat,j - i=k→i≤j→∀(A:Bu)(R:Result→Shared→Prop)(s:Shared),s.heap.get? l=some {cls:= .type "list",dict:=dd,data:= .seq items n,slots:=sl}→s.heap.get? b=some {cls:= .type "list",dict:=dd2,data:= .seq items2 n2,slots:=sl2}→
  FirstAt A.in1 s items items2 c j→R (.ok (.ret (.bool c))) s→
  wpAny (model P w) A.in1 (Builtin.«list.__eq__.loop» ⟨[.ref l,.ref b,rawInt i,rawInt 0],[]⟩) (λfin s'=>match fin with | .done f=>R (.ok f) s' | .again c'=>c'.quiet=true∧codeAny (model P w) A c' R s') (λe s'=>R (.error e) s') s:=by
 induction k with
 | zero=>
  intro i hk hij A R s hl hb F h;obtain rfl:i=j:=by omega
  obtain⟨hp,g,d,tk,os⟩:=s;rcases F.fin with⟨hs,hc⟩ | ⟨h1,h2,he,hlt⟩
  · wp_walk using AG hl,AG hb
    by_cases c1:i<items.size
    · have o1:items[((i:Nat):Int).toNat]?=some items[i]:=by simp[c1]
      have o2:items2[((i:Nat):Int).toNat]?=none:=by simp;omega
      rw[o1,o2]
      wp_walk using AG hl,AG hb
      show R (.ok (.ret (.bool (decide (items.size<items2.size))))) _;rw[←hc];exact h
    · have o1:items[((i:Nat):Int).toNat]?=none:=by simp;omega
      rw[o1]
      wp_walk using AG hl,AG hb
      show R (.ok (.ret (.bool (decide (items.size<items2.size))))) _;rw[←hc];exact h
  · wp_walk using AG hl,AG hb
    have o1:items[((i:Nat):Int).toNat]?=some items[i]:=by simp[h1]
    have o2:items2[((i:Nat):Int).toNat]?=some items2[i]:=by simp[h2]
    rw[o1,o2];refine Aa (he _ _ _ _ ?_)
    wp_walk using AG hl,AG hb
    rw[o1,o2];refine Aa (hlt _ _ _ _ ?_)
    wp_walk
    exact h
 | succ k ih=>
  intro i hk hij A R s hl hb F h;obtain⟨hp,g,d,tk,os⟩:=s
  wp_walk using AG hl,AG hb
  have f1:=F.le1;have f2:=F.le2;have lt1:i<items.size:=by omega
  have KP:i<items2.size:=by omega
  have o1:items[((i:Nat):Int).toNat]?=some items[i]:=by simp[lt1]
  have o2:items2[((i:Nat):Int).toNat]?=some items2[i]:=by simp[KP]
  have hc:((i:Int)+1)=((i+1:Nat):Int):=by push_cast;rfl
  rw[o1,o2];refine Aa (F.same i lt1 KP (by omega) _ _ _ _ ?_)
  wp_walk
  rw[hc];exact⟨Bi plain_eq_loop _,Be entry_eq_loop (by rw[AO plain_eq_loop _];exact ih (i+1) (by omega) (by omega) A R _ hl hb F h)⟩
theorem WY(l b:Addr)(items items2:Array Value)(n n2:Nat)(dd dd2:Option Addr)(sl sl2:Array (Option Value)){c:Bool}{j:Nat}(A:Bu)(R:Result→Shared→Prop)(s:Shared)
 (hl:s.heap.get? l=some {cls:= .type "list",dict:=dd,data:= .seq items n,slots:=sl}) (hb:s.heap.get? b=some {cls:= .type "list",dict:=dd2,data:= .seq items2 n2,slots:=sl2})
 (F:FirstAt A.in1 s items items2 c j) (h:R (.ok (.ret (.bool c))) s):
 wpAny (model P w) A.in1 (Builtin.«list.__lt__» ⟨[.ref l,.ref b],[]⟩) (λfin s'=>match fin with | .done f=>R (.ok f) s' | .again c'=>c'.quiet=true∧codeAny (model P w) A c' R s') (λe s'=>R (.error e) s') s:=by
 obtain⟨hp,g,d,tk,os⟩:=s;have f3:=DW
 wp_walk using AG hl,AG hb
 exact⟨Bi plain_eq_loop _,Be entry_eq_loop (by rw[AO plain_eq_loop _];exact Yc l b items items2 n n2 dd dd2 sl sl2 c j _ 0 rfl (AQ _) A R _ hl hb F h)⟩
theorem Tr{l:Addr}{items items2:Array Value}{c:Bool}{j:Nat}{E:Value→Shared→Prop}{Q:Value→Shared→Prop}(hl:s.heap.IsList l items)(hb:s.heap.IsList b items2)(FA:FirstAt A.in1 s items items2 c j)(h:Q (.bool c) s):
 wpAny (model P w) A (call (.builtin "list.__lt__") [.ref l,.ref b]) Q E s:=by
 obtain⟨⟨c1,dd,data,sl⟩,ho,hc,n,hd⟩:=id hl;obtain⟨⟨c2,dd2,data2,sl2⟩,ho2,hc2,n2,hd2⟩:=id hb;simp only at hc hd hc2 hd2;subst hc hd hc2 hd2;refine Ek (Da F.slot_list_lt.plain F.entry_list_lt (F.slot_list_lt.check _ _ _ _ _ _ _ _ ⟨_,ho,rfl⟩ (F.args_list_lt_2 _ _) ?_));exact WY l b items items2 n n2 dd dd2 sl sl2 A (wants Q E) s ho ho2 FA h
theorem LtAt.lists{l:Addr}{items items2:Array Value}{c:Bool}{j:Nat}(hl:s.heap.IsList l items)(hb:s.heap.IsList b items2)(hu:A.units<cLine)(FA:FirstAt A.in1 s items items2 c j):LtAt A s (.ref l) (.ref b) c:=by intro P w E Q h;obtain⟨o,ho,hc,_⟩:=id hl;obtain⟨o2,ho2,hc2,_⟩:=id hb;exact Ca (op:= .Lt) ⟨_,ho,hc⟩ ⟨_,ho2,hc2⟩ F.slot_list_lt (Tr hl hb FA ⟨(λx=>nomatch x),h⟩) hu
theorem LtAt.tuples{l:Addr}{items items2:Array Value}{c:Bool}{j:Nat}(hl:s.heap.IsTuple l items)(hb:s.heap.IsTuple b items2)(hu:A.units<cLine)(FA:FirstAt A.in1 s items items2 c j):LtAt A s (.ref l) (.ref b) c:=by
 intro P w E Q h;obtain⟨⟨c1,dd,data,sl⟩,ho,hc,n,hd⟩:=id hl;obtain⟨⟨c2,dd2,data2,sl2⟩,ho2,hc2,n2,hd2⟩:=id hb;simp only at hc hd hc2 hd2;subst hc hd hc2 hd2;refine Ca (op:= .Lt) ⟨_,ho,rfl⟩ ⟨_,ho2,rfl⟩ F.slot_tuple_lt (AV F.slot_tuple_lt ⟨_,ho,rfl⟩ F.entry_tuple_lt ?_ (F.args_tuple_lt_2 _ _)) hu;obtain⟨hp,g,d,tk,os⟩:=s;have f2:=Fm;have hZ:(items.toList.zip items2.toList).length=min items.size items2.size:=by simp
 have f1:=FA.le1;have f2':=FA.le2
 wp_walk using AG ho,AG ho2,Fn _ (λrest b s'=>s'=⟨hp,g,d,tk,os⟩∧((b.1=none∧∃i,i≤j∧rest=(items.toList.zip items2.toList).drop i)∨(b.1=some (PySem.Fin.done (.ret (.bool c)))∧rest=[]))) _
 case turn=>
  rintro⟨y,x⟩ rest b' s' ⟨rfl,⟨hb',i,hij,hz⟩ | ⟨_,hz⟩⟩
  · have lt0:i<(items.toList.zip items2.toList).length:=by
     rcases CT i (items.toList.zip items2.toList).length with h' | h'
     · exact h'
     · rw[DZ h'] at hz;cases hz
    have h1:i<items.size:=by omega
    have h2:i<items2.size:=by omega
    rw[Ba lt0] at hz;injection hz with hyx hrest
    have hy:y=items[i]:=by have:=congrArg Prod.fst hyx;simpa using this
    have hx:x=items2[i]:=by have:=congrArg Prod.snd hyx;simpa using this
    subst hy hx;rcases CT i j with h3 | h3
    · refine Aa (FA.same i h1 h2 h3 _ _ _ _ ?_)
      wp_walk
      exact⟨rfl,.inl ⟨rfl,i+1,h3,hrest⟩⟩
    · obtain rfl:i=j:=by omega
      rcases FA.fin with⟨hs,hc⟩ | ⟨_,_,he,hlt⟩
      · omega
      · refine Aa (he _ _ _ _ ?_);simp only[Bool.not_false,if_true];refine Aa (BI ?_);refine Aa (hlt _ _ _ _ ?_)
        wp_walk
        exact⟨_,rfl,(λx=>nomatch x),h⟩
  · cases hz
 case fin=>
  rintro⟨b1,b2⟩ s' ⟨rfl,⟨hb',i,hij,hz⟩ | ⟨hb',_⟩⟩
  · simp only at hb';subst hb'
    wp_walk
    refine⟨_,rfl,?_⟩;have hlen:(items.toList.zip items2.toList).length≤i:=by
     rcases CT i (items.toList.zip items2.toList).length with h' | h'
     · rw[Ba h'] at hz;cases hz
     · exact h'
    rcases FA.fin with⟨hs,hc⟩ | ⟨h1,h2,_,_⟩
    · have e:CB .Lt items.size items2.size=Value.bool c:=by rw[hc];rfl
      rw[e];exact⟨(λx=>nomatch x),h⟩
    · omega
  · simp only at hb';subst hb'
    wp_walk
    exact⟨_,rfl,(λx=>nomatch x),h⟩
 case h=>exact⟨rfl,.inl ⟨rfl,0,AQ _,rfl⟩⟩
theorem LtAt.ints(a b:Int)(t u:Tok):LtAt A s (.int a t) (.int b u) (decide (a<b)):=λP w E Q h=>by exact(wpAny_lt_int (prog:=P) (w:=w) (A:=A) (E:=E) (t:=t) (u:=u) h)
theorem LtAt.bools(a b:Bool):LtAt A s (.bool a) (.bool b) (!a && b):=λP w E Q h=>by refine lt_bool (p:=a) (q:=b) (prog:=P) (w:=w) (A:=A) (E:=E) ?_;cases a<;>cases b<;>exact h
theorem LtAt.strs(a b:Str)(t u:Tok):LtAt A s (.str a t) (.str b u) (decide (a.cps.toList<b.cps.toList)):=λP w E Q h=>by exact lt_str (x:=a) (y:=b) (t:=t) (u:=u) (prog:=P) (w:=w) (A:=A) (E:=E) h
mutual
def Ig:PD→PD→Bool
 | .bl a,.bl b=>!a && b
 | .int a,.int b=>decide (a<b)
 | .str a,.str b=>decide (a.cps.toList<b.cps.toList)
 | .lst xs,.lst ys=>Le xs ys
 | .tup xs,.tup ys=>Le xs ys
 | _,_=>false
def Le:List PD→List PD→Bool
 | [],[]=>false
 | [],_::_=>true
 | _::_,[]=>false
 | x::xs,y::ys=>if HX x y=true then Le xs ys else Ig x y
end
mutual
def HL:PD→PD→Bool
 | .bl _,.bl _=>true
 | .int _,.int _=>true
 | .str _,.str _=>true
 | .lst xs,.lst ys=>Mr xs ys
 | .tup xs,.tup ys=>Mr xs ys
 | _,_=>false
def Mr:List PD→List PD→Bool
 | x::xs,y::ys=>if HX x y=true then Mr xs ys else HL x y
 | _,_=>true
end
mutual
theorem VY(I:Inv X pins σ H s):∀(A:Bu)(d e:PD)(v w:V)(u y:Value),Rep X.K H d v→Rep X.K H e w→RelV v u→RelV w y→A.units+IU d<cLine→HL d e=true→LtAt A s u y (Ig d e)
 | A,.bl c,.bl b,v,w,u,y,h,h',r,r',z,ok=>by rw[Rep] at h h';subst h h';cases r;cases r';rw[Ig];exact LtAt.bools c b
 | A,.int c,.int b,v,w,u,y,h,h',r,r',z,ok=>by rw[Rep] at h h';subst h h';obtain⟨t,rfl⟩:=r;obtain⟨t',rfl⟩:=r';rw[Ig];exact LtAt.ints c b t t'
 | A,.str c,.str b,v,w,u,y,h,h',r,r',z,ok=>by rw[Rep] at h h';subst h h';obtain⟨t,rfl⟩:=r;obtain⟨t',rfl⟩:=r';rw[Ig];exact LtAt.strs c b t t'
 | A,.lst ds,.lst es,v,w,u,y,h,h',r,r',z,ok=>by rw[Rep] at h h';obtain⟨a,xs,rfl,q,qs⟩:=h;obtain⟨b,ys,rfl,q',qs'⟩:=h';cases r;cases r';obtain⟨its,rv,p,_⟩:=I.list q;obtain⟨its',rv',p',_⟩:=I.list q';rw[IU] at z;rw[Ig];rw[HL] at ok;obtain⟨j,F⟩:=MB I A.in1 ds es xs ys its its' qs qs' rv rv' (by rw[Bs];omega) ok;exact LtAt.lists p.isList p'.isList (by omega) F
 | A,.tup ds,.tup es,v,w,u,y,h,h',r,r',z,ok=>by rw[Rep] at h h';obtain⟨a,xs,rfl,q,qs⟩:=h;obtain⟨b,ys,rfl,q',qs'⟩:=h';cases r;cases r';obtain⟨its,rv,p,_⟩:=I.tuple q;obtain⟨its',rv',p',_⟩:=I.tuple q';rw[IU] at z;rw[Ig];rw[HL] at ok;obtain⟨j,F⟩:=MB I A.in1 ds es xs ys its its' qs qs' rv rv' (by rw[Bs];omega) ok;exact LtAt.tuples p p' (by omega) F
 | A,.non,e,v,w,u,y,h,h',r,r',z,ok=>by cases e<;>simp[HL] at ok
 | A,.bl _,.non,v,w,u,y,h,h',r,r',z,ok=>by simp[HL] at ok
 | A,.bl _,.int _,v,w,u,y,h,h',r,r',z,ok=>by simp[HL] at ok
 | A,.bl _,.str _,v,w,u,y,h,h',r,r',z,ok=>by simp[HL] at ok
 | A,.bl _,.lst _,v,w,u,y,h,h',r,r',z,ok=>by simp[HL] at ok
 | A,.bl _,.tup _,v,w,u,y,h,h',r,r',z,ok=>by simp[HL] at ok
 | A,.int _,.non,v,w,u,y,h,h',r,r',z,ok=>by simp[HL] at ok
 | A,.int _,.bl _,v,w,u,y,h,h',r,r',z,ok=>by simp[HL] at ok
 | A,.int _,.str _,v,w,u,y,h,h',r,r',z,ok=>by simp[HL] at ok
 | A,.int _,.lst _,v,w,u,y,h,h',r,r',z,ok=>by simp[HL] at ok
 | A,.int _,.tup _,v,w,u,y,h,h',r,r',z,ok=>by simp[HL] at ok
 | A,.str _,.non,v,w,u,y,h,h',r,r',z,ok=>by simp[HL] at ok
 | A,.str _,.bl _,v,w,u,y,h,h',r,r',z,ok=>by simp[HL] at ok
 | A,.str _,.int _,v,w,u,y,h,h',r,r',z,ok=>by simp[HL] at ok
 | A,.str _,.lst _,v,w,u,y,h,h',r,r',z,ok=>by simp[HL] at ok
 | A,.str _,.tup _,v,w,u,y,h,h',r,r',z,ok=>by simp[HL] at ok
 | A,.lst _,.non,v,w,u,y,h,h',r,r',z,ok=>by simp[HL] at ok
 | A,.lst _,.bl _,v,w,u,y,h,h',r,r',z,ok=>by simp[HL] at ok
 | A,.lst _,.int _,v,w,u,y,h,h',r,r',z,ok=>by simp[HL] at ok
 | A,.lst _,.str _,v,w,u,y,h,h',r,r',z,ok=>by simp[HL] at ok
 | A,.lst _,.tup _,v,w,u,y,h,h',r,r',z,ok=>by simp[HL] at ok
 | A,.tup _,.non,v,w,u,y,h,h',r,r',z,ok=>by simp[HL] at ok
 | A,.tup _,.bl _,v,w,u,y,h,h',r,r',z,ok=>by simp[HL] at ok
 | A,.tup _,.int _,v,w,u,y,h,h',r,r',z,ok=>by simp[HL] at ok
 | A,.tup _,.str _,v,w,u,y,h,h',r,r',z,ok=>by simp[HL] at ok
 | A,.tup _,.lst _,v,w,u,y,h,h',r,r',z,ok=>by simp[HL] at ok
theorem MB(I:Inv X pins σ H s):∀(A:Bu)(ds es:List PD)(vs ws:List V)(us ys:List Value),Reps X.K H ds vs→Reps X.K H es ws→Vals vs us→Vals ws ys→A.units+J_ ds<cLine→Mr ds es=true→
 ∃j,FirstAt A s us.toArray ys.toArray (Le ds es) j
 | A,[],es,vs,ws,us,ys,h,h',r,r',z,ok=>by
  rw[Reps] at h;subst h;cases r;have l1:=h'.length;have l2:=r'.length;refine⟨0,AQ _,AQ _,λi h1 h2 h3=>absurd h3 (D9 _),.inl ⟨.inl (by simp),?_⟩⟩;cases es with
  | nil=> rw[Le];rw[Reps] at h';subst h';cases r';rfl
  | cons e es=>rw[Le];simp at l1 l2;simp;omega
 | A,d::ds,[],vs,ws,us,ys,h,h',r,r',z,ok=>by rw[Reps] at h';subst h';cases r';refine⟨0,AQ _,AQ _,λi h1 h2 h3=>absurd h3 (D9 _),.inl ⟨.inr (by simp),?_⟩⟩;rw[Le];simp
 | A,d::ds,e::es,vs,ws,us,ys,h,h',r,r',z,ok=>by
  rw[Reps] at h h';obtain⟨x,vr,rfl,g1,g2⟩:=h;obtain⟨x',vr',rfl,g1',g2'⟩:=h';cases r with
  | @cons _ u1 _ ur ra rb=>
   cases r' with
   | @cons _ y1 _ yr ra' rb'=>
    rw[J_] at z;rw[Mr] at ok;have he:=Md I A d e x x' _ _ g1 g1' ra ra' (by omega);rw[Le];by_cases hq:HX d e=true
    · rw[if_pos hq] at ok ⊢;rw[hq] at he;obtain⟨j,F⟩:=MB I A ds es vr vr' _ _ g2 g2' rb rb' (by omega) ok;have f1:=F.le1;have f2:=F.le2;have f3:=F.same;have f4:=F.fin;simp only[Au] at f1 f2 f3 f4;refine⟨j+1,by simpa using f1,by simpa using f2,λi h1 h2 h3=>?_,?_⟩
      · cases i with
        | zero=>exact he
        | succ i=>simpa using f3 i (by simpa using h1) (by simpa using h2) (by omega)
      · rcases f4 with⟨hs,hc⟩ | ⟨h1,h2,k1,k2⟩
        · refine .inl ⟨by simpa using hs,?_⟩;rw[hc];simp
        · exact .inr ⟨by simpa using h1,by simpa using h2,by simpa using k1,by simpa using k2⟩
    · rw[if_neg hq] at ok ⊢;rw[Bool.not_eq_true] at hq;rw[hq] at he;have zz:A.units+IU d<cLine:=by omega
      exact⟨0,AQ _,AQ _,λi h1 h2 h3=>absurd h3 (D9 _),.inr ⟨by simp,by simp,he,VY I A d e x x' _ _ g1 g1' ra ra' zz ok⟩⟩
end
open PySem PySem.Spec PyProof.Rows PySem.W
section
variable{o:HO}
theorem Inv.track7(I:Inv X pins σ H s)(hn:HA X pins H a)(h0:X.s₀.heap.get? a=none)(new:ObjOk X.prog X.w (Hr H a o) s.heap a o):Inv X pins σ (Hr H a o) s:=by
 obtain⟨hn,hl,_,_,hc,hp⟩:=hn;refine⟨I.ok,I.os,I.bare,⟨I.base.keep,I.base.slot,λb ob q n hx=>?_,I.base.there,λb xs q=>?_,λb ob u q=>?_,λb ps q=>?_⟩,I.loc,I.cell,?_,λx c e=>?_,λp hp'=>?_,λb u q=>?_,I.len⟩
 · have:b≠a:=λz=>by rw[z,h0] at q;cases q
   rw[HD this];exact I.base.free b ob q n hx
 · have:=I.base.tups b xs q;rw[HD (IT this hn)];exact this
 · have:=I.base.frzs b ob u q;rw[HD (IT this hn)];exact this
 · obtain⟨m,this⟩:=I.base.tbls b ps q;exact⟨m,by rw[HD (IT this hn)];exact this⟩
 · rw[HD hl.symm];exact I.free
 · rw[HD (hc x c e)];exact I.freeC x c e
 · obtain⟨e,n,r⟩:=I.pin p hp';exact⟨e,by rw[HD (hp p hp')];exact n,r⟩
 · by_cases hb:b=a
   · subst hb;rw[Hu] at q;cases q;exact new
   · rw[HD hb] at q;exact(I.hok b u q).stay (λc v _ r=>r) (λc r=>by rw[HD (IT r hn)];exact r) λc xs r=>by rw[HD (IT r hn)];exact r
mutual
theorem Rep.same{K:Ae}{H':Hp}(h:Same H H'):∀(d:PD)(v:V),Rep K H d v→Rep K H' d v
 | .non,v,q=>by rw[Rep] at q ⊢;exact q
 | .bl _,v,q=>by rw[Rep] at q ⊢;exact q
 | .int _,v,q=>by rw[Rep] at q ⊢;exact q
 | .str _,v,q=>by rw[Rep] at q ⊢;exact q
 | .lst ds,v,q=>by rw[Rep] at q ⊢;obtain⟨a,xs,rfl,q1,q2⟩:=q;exact⟨a,xs,rfl,h.seq q1,Reps.same h ds xs q2⟩
 | .tup ds,v,q=>by rw[Rep] at q ⊢;obtain⟨a,xs,rfl,q1,q2⟩:=q;exact⟨a,xs,rfl,h.seqT q1,Reps.same h ds xs q2⟩
theorem Reps.same{K:Ae}{H':Hp}(h:Same H H'):∀(ds:List PD)(vs:List V),Reps K H ds vs→Reps K H' ds vs
 | [],vs,q=>by rw[Reps] at q ⊢;exact q
 | d::ds,vs,q=>by rw[Reps] at q ⊢;obtain⟨x,r,e,q1,q2⟩:=q;exact⟨x,r,e,Rep.same h d x q1,Reps.same h ds r q2⟩
end
theorem Xk{prog:Br}{w:World}{E:Value→Shared→Prop}{l:Addr}{items items2:Array Value}{c:Bool}{j:Nat}{Q:Bool→Shared→Prop}(hl:s.heap.IsList l items)(hb:s.heap.IsList b items2)(hu:A.units<cLine)(FA:FirstAt A.in1 s items items2 c j)(h:Q c s):
 wpAny (model prog w) A (keyLt' oneType' (.ref l) (.ref b)) Q E s:=by
 obtain⟨o,ho,hc,_⟩:=id hl;rw[keyLt'_oneType,oneLt'_eq];simp only[if_true];refine Aa (wpAny_cRoomFor hu ?_);refine Aa (wpAny_callSpecialIfBound?_slot ⟨o,ho,hc⟩ F.slot_list_lt (Tr hl hb FA ?_));exact Bp h
theorem XE{M:Model}{l:Addr}{items:Array Value}(hl:h.IsList l items):Looks M h (typeOf (.ref l)) (.type "list"):=by obtain⟨o,ho,hc,_⟩:=hl;rw[←hc];exact(Looks.ld ho).andThen .now
end
open PySem PySem.Spec PyProof.Rows PySem.W
abbrev Cx.in2(X:Cx):Cx:={X with A:=X.A.in1.in1,xe:=λ_ _=>False}
theorem Cx.Ok.in2(ok:X.Ok):X.in2.Ok:=⟨ok.mod,ok.kind,ok.glob,ok.blt,ok.above,ok.inj,ok.has,ok.cab,ok.hd,ok.frames,ok.stk,ok.exf,ok.bs,ok.bsz,ok.noex,ok.exfs,ok.funs,ok.frf⟩
theorem Inv.in2(I:Inv X pins σ H s):Inv X.in2 pins σ H s:=⟨I.ok.in2,I.os,I.bare,I.base,I.loc,I.cell,I.free,I.freeC,I.pin,I.hok,I.len⟩
theorem Inv.out2(ok:X.Ok)(I:Inv X.in2 pins σ H s):Inv X pins σ H s:=⟨ok,I.os,I.bare,I.base,I.loc,I.cell,I.free,I.freeC,I.pin,I.hok,I.len⟩
section
variable{o:Obj}{kvs:List (HF×V)}
end
section
variable{tg:Expr}
end
section
variable{p:Addr}{g:TG}{tc:TT}{te:TE}{Q:VK}{o:Obj}{kvs:List (HF×V)}{fs:List Str}
end
def Vj:List V→Hp→VK→Prop:=λxs H Q=>∃(a:Addr)(kvs:List (HF×V))(fs:List Str),xs=[.ref a]∧Rd H a (.dK kvs)∧kvs.map (·.1)=fs.map Sum.inr∧fs.length<64∧
 ∀(p:Addr)(ms:List Str),ms.Perm fs→ms.Nodup→sortedS ms=true→H p=none→Q (.ref p) (Hr H p (.lst (ms.map V.str)))
theorem Ze(hc:X.calm=true):J9 X (.builtin "sorted") Vj:=by
 intro pins s σ H xs us Q I r h;obtain⟨a,kvs,fs,rfl,hH,hfs,h64,q⟩:=h;obtain⟨u,rfl,rx⟩:=Jx r;cases rx;obtain⟨hz,hS,vs,rk,m⟩:kvs.length≤Av∧(a==BU)=false∧∃vs,KV kvs vs∧s.heap.DictOf (IL X.prog X.w) a vs:=by
  rcases hH with hH | ⟨o,hH⟩
  · exact I.hok a _ hH
  · exact(show ObjOk X.prog X.w H s.heap a (.frz o (.dK kvs)) from I.hok a _ hH).2
 obtain⟨ep,D⟩:=m.dictAt;have hlen:kvs.length=vs.length:=Eb rk;have hfl:kvs.length=fs.length:=by have:=congrArg AX hfs;simpa using this
 have keys:vs.map (·.1)=fs.map Sum.inr:=by
  rw[←hfs];clear hfs D m hlen hfl hz hH;unfold KV at rk
  induction rk with
  | nil=>rfl
  | cons r t ih=>rw[AK,AK,ih,r.1]
 have hnd:fs.Nodup:=by have:=D.nodup;rw[keys] at this;exact List.Pairwise.of_map _ (λ_ _ z e=>z (by rw[e])) this
 refine Fb kind_sorted plain_sorted entry_sorted (args_sorted1 _) ?_;unfold Fl;refine Aa (m:=checkCount "sorted" 1 1 _) (Ac ?_);refine Aa (Yt (knd:=IL X.prog X.w) (by simpa using I.ok.hd hc) hS D (by omega) λh1 tk1 ws hwl hws hsz hk=>?_);have hv:StrsAre ws fs:=Tz (prog:=X.prog) (w:=X.w) fs ws (by omega) λi v f h2 h3=>by
  obtain⟨k,u,h4,h5⟩:=hws i v h2;have:(vs.map (·.1))[i]?=some k:=by rw[Ai,h4];rfl
  rw[keys,Ai,h3] at this;cases this;exact h5
 refine Aa (EK ?_ (by rw[sizeLine_eq];omega));have hoL:(h1.push (Bm "list" ws.toArray 0)).get? h1.objs.size=some (Bm "list" ws.toArray 0):=An _ rfl;show wpAny _ _ (holding _ _>>=_) _ _ {s with heap:=h1.push (Bm "list" ws.toArray 0),toks:=tk1}
 refine Aa (AT (AV FM ⟨_,hoL,rfl⟩ Fz (list_sort_treeK strKind_oneLt hoL hv.keysOf (λv₁ v₂ rest e=>keyKind_strs (by rw[←e];exact hv)) (by omega) λst' a1 a2=>⟨_,rfl,?_⟩) (args_list_sort _)));obtain⟨ms,m1,m2,m3⟩:=sorted_out_str hv a1 a2;obtain⟨e,he⟩:=sortedHeap_at (out:=(arrOf st').map (·.2)) hoL;refine Ac ⟨_,rfl,?_⟩;have hn1:H h1.objs.size=none:=I.hok.fresh (Bz hsz);refine⟨.ref h1.objs.size,Hr H h1.objs.size (.lst (ms.map V.str)),I.laid (t':=tk1) (λb o eb=>?_) (Bz hsz) ?_,rfl,q _ ms m2 (m2.nodup_iff.mpr hnd) m3 hn1⟩
 · have hb:b<h1.objs.size:=Ao (hk b o eb);rw[sortedHeap_old (Ar hb) (by rw[size_push'];exact CY hb)];exact Ad _ (hk b o eb)
 · have hml:ms.length=fs.length:=m2.length_eq;exact⟨by rw[Ab,sizeLine_eq];omega,((arrOf st').map (·.2)).toList,e,Oa m1,by rw[Array.toArray_toList];exact he⟩
end L2
set_option maxHeartbeats 2000000
namespace L2
open PySem PySem.Spec PyProof.Rows PySem.W
section
variable{κ:Type}[DecidableEq κ]{knd:PySem.KeyKind prog w κ}
end
theorem V8{tg:Expr}(K:Ae)(h:X.K=K){l:Expr}{tl:TE}(hl:PE X l tl)(hc:X.calm=true:=by rfl):PI X tg l (Nf K tl):=by subst h;exact K5 hl
theorem Wh{tg:Expr}(K:Ae)(h:X.K=K){l:Expr}{tl:TE}(hl:PE X l tl)(hc:X.calm=true:=by rfl):PI X tg l (QI K tl):=by subst h;exact JJ hl
theorem TW{c:Nat}(h:KI c=true):(DM ("abcdefghijklmnopqrstuvwxyz":Str) (⟨#[c]⟩:Str) 0 ("abcdefghijklmnopqrstuvwxyz":Str).length 1).isEmpty=false:=by
 have h1:97≤c:=of_decide_eq_true ((AB _ _).mp h).1;have h2:c≤122:=of_decide_eq_true ((AB _ _).mp h).2;have all:∀k:Fin 26,(DM ("abcdefghijklmnopqrstuvwxyz":Str) (⟨#[k.val+97]⟩:Str) 0 ("abcdefghijklmnopqrstuvwxyz":Str).length 1).isEmpty=false:=by decide+kernel
 have:=all ⟨c - 97,by omega⟩;rw[show(⟨c - 97,by omega⟩:Fin 26).val+97=c from by show c - 97+97=c;omega] at this
 exact this
def Kh(ps:List (Addr×PP)):List (Addr×HF×V):=ps.map λp=>(p.1,(Sum.inr p.2.1:HF),V.int p.2.2)
theorem XA(ps:List (Addr×PP))(pok:POk (ps.map (·.2)))(f:Str):∀(n:Nat),n≤ps.length→HU ((Kh (ps.take n)).foldl (λacc p=>HM acc p.2.1 p.2.2) []) (.inr f:HF)=(IH ((ps.map (·.2)).take n) f).map V.int:=by
 intro n
 induction n with
 | zero=>intro _;rfl
 | succ n ih=>
  intro hn;have e1:ps[n]?=some ps[n]:=by simp
  have ew:(ps.map (·.2))[n]?=some ps[n].2:=by rw[Ai,e1];rfl
  have fr:=pok.fresh ew;rw[IW e1,IW ew,XR _ _ _ fr];unfold Kh at ih ⊢;rw[Aj,List.foldl_append];show HU (HM _ (Sum.inr ps[n].2.1:HF) (V.int ps[n].2.2)) (.inr f)=_;rw[Pg];by_cases hf:f=ps[n].2.1
  · rw[if_pos hf,if_pos (by rw[hf])];rfl
  · rw[if_neg hf,if_neg (λz=>hf (by injection z))];exact ih (by omega)
theorem X_(ps:List (Addr×PP))(pok:POk (ps.map (·.2)))(f:Str):HU ((Kh ps).foldl (λacc p=>HM acc p.2.1 p.2.2) []) (.inr f:HF)=(IH (ps.map (·.2)) f).map V.int:=by have:=XA ps pok f ps.length (Ah _);rw[C6,AL (by simp)] at this;exact this
theorem L9{w:List WP}{f:Str}{s:Option Int×Option Int}(h:HH w f=some s):∃p∈w,p.1=f∧p.2=s:=by
 unfold HH at h;cases e:w.find? (λp=>decide (p.1=f)) with
 | none=>rw[e] at h;cases h
 | some p=> rw[e] at h;have h2:decide (p.1=f)=true:=F3 (p:=λ(p:WP)=>decide (p.1=f)) e;exact⟨p,DA e,of_decide_eq_true h2,A5 h⟩
theorem XQ{p:List PP}(h:(p.map (·.1)).Pairwise Ik){x:PP}(hx:x∈p):IH p x.1=some x.2:=by
 induction p with
 | nil=>simp at hx
 | cons y r ih=>
  rw[AK,BQ] at h;rcases As.mp hx with rfl | hx
  · simp[IH]
  · have:Ik y.1 x.1:=h.1 _ (Ax hx);have ne:=Lh this;have:=ih h.2 hx;simp[IH,Cz,ne] at this ⊢;exact this
theorem SG{w:List WP}{f:Str}(h:HH w f=none):∀p∈w,p.1≠f:=λp hp e=>by unfold HH at h;rw[Option.map_eq_none_iff,List.find?_eq_none] at h;exact h p hp (decide_eq_true e)
theorem U5{w:List WP}(h:(w.map (·.1)).Pairwise Ik):∀{x y:WP},x∈w→y∈w→x.1=y.1→x=y:=by
 induction w with
 | nil=>intro x y hx;simp at hx
 | cons z r ih=>
  rw[AK,BQ] at h;intro x y hx hy e;rcases As.mp hx with e1 | hx1
  · rcases As.mp hy with e2 | hy1
    · rw[e1,e2]
    · rw[e1] at e;exact absurd e (Lh (h.1 _ (Ax hy1)))
  · rcases As.mp hy with e2 | hy1
    · rw[e2] at e;exact absurd e.symm (Lh (h.1 _ (Ax hx1)))
    · exact ih h.2 hx1 hy1 e
theorem Xd{w:List WP}(h:(w.map (·.1)).Pairwise Ik){x:WP}(hx:x∈w):w.find? (λp=>decide (p.1=x.1))=some x:=by
 cases e:w.find? (λp=>decide (p.1=x.1)) with
 | none=>exact absurd (decide_eq_true rfl) (List.find?_eq_none.mp e x hx)
 | some y=> have h2:decide (y.1=x.1)=true:=F3 (p:=λ(p:WP)=>decide (p.1=x.1)) e;rw[U5 h (DA e) hx (of_decide_eq_true h2)]
theorem NK{w:List WP}(h:(w.map (·.1)).Pairwise Ik){x:WP}(hx:x∈w):HH w x.1=some x.2:=by unfold HH;rw[Xd h hx];rfl
theorem V_{lo hi:Option Int}(h:IV lo hi=true):Ia lo hi (Ly lo hi)=true:=by cases lo<;>cases hi<;>simp[IV,Ia,IK,IR,Ly] at h ⊢;exact decide_eq_true h
def JM(bs:List (Str×V)):List (HF×V):=bs.map λx=>((Sum.inr x.1:HF),x.2)
def IB(bs:List (Str×V))(f:Str):Option V:=(bs.find? λx=>decide (x.1=f)).map (·.2)
theorem Mg(f:Str):∀bs:List (Str×V),HU (JM bs) (.inr f:HF)=IB bs f
 | []=>rfl
 | x::bs=>by
  have ih:=Mg f bs;unfold JM HU IB at*;by_cases h:x.1=f
  · simp[Cz,h]
  · simp[Cz,h] at ih ⊢;exact ih
theorem VU(bs:List (Str×V)):(JM bs).map (·.1)=(bs.map (·.1)).map Sum.inr:=by unfold JM;rw[BN,BN];rfl
def Jc(bs:List (Str×V))(f:Str)(v:V):List (Str×V):=if(bs.any λx=>decide (x.1=f))=true then bs.map (λx=>if x.1=f then(x.1,v) else x) else bs++[(f,v)]
theorem OP(bs:List (Str×V))(f:Str)(v:V):HM (JM bs) (.inr f:HF) v=JM (Jc bs f v):=by
 unfold HM Jc JM;have e:((bs.map λx=>((Sum.inr x.1:HF),x.2)).any λkv=>decide (kv.1=(Sum.inr f:HF)))=bs.any λx=>decide (x.1=f):=by rw[List.any_map];congr 1;funext x;simp
 rw[e]
 split
 · rw[BN,BN];refine Ex λx _=>?_;simp only[Function.comp];by_cases h:x.1=f
   · rw[if_pos (by rw[h]),if_pos h]
   · rw[if_neg (λz=>h (by injection z)),if_neg h]
 · rw[Aj];rfl
theorem SO(bs:List (Str×V))(f:Str)(v:V):(Jc bs f v).map (·.1)=if f∈bs.map (·.1) then bs.map (·.1) else bs.map (·.1)++[f]:=by
 unfold Jc;have e:(bs.any λx=>decide (x.1=f))=true↔f∈bs.map (·.1):=by
  rw[CM,AN];constructor
  · rintro⟨x,hx,h⟩;exact⟨x,hx,of_decide_eq_true h⟩
  · rintro⟨x,hx,h⟩;exact⟨x,hx,decide_eq_true h⟩
 by_cases h:f∈bs.map (·.1)
 · rw[if_pos (e.mpr h),if_pos h,BN];refine Ex λx _=>?_;simp only[Function.comp]
   split<;>rfl
 · rw[if_neg (λz=>h (e.mp z)),if_neg h,Aj];rfl
theorem Xo{bs:List (Str×V)}(h:(bs.map (·.1)).Nodup)(f:Str)(v:V):((Jc bs f v).map (·.1)).Nodup:=by
 rw[SO]
 split
 · exact h
 · rename_i hn;exact R6 h hn
theorem Wl(bs:List (Str×V))(f:Str)(v:V):(Jc bs f v).length≤bs.length+1:=by
 unfold Jc
 split
 · rw[Ab];omega
 · rw[Aw];simp
theorem VR(bs:List (Str×V))(f:Str)(v:V)(g:Str):IB (Jc bs f v) g=if g=f then some v else IB bs g:=by
 rw[←Mg,←OP,Pg,Mg];by_cases h:g=f
 · subst h;rw[if_pos rfl,if_pos rfl]
 · rw[if_neg h,if_neg (λz=>h (by injection z))]
theorem VQ{bs:List (Str×V)}{f:Str}:f∈bs.map (·.1)↔(IB bs f).isSome=true:=by
 unfold IB;rw[ET,List.find?_isSome,AN];constructor
 · rintro⟨x,hx,h⟩;exact⟨x,hx,decide_eq_true h⟩
 · rintro⟨x,hx,h⟩;exact⟨x,hx,of_decide_eq_true h⟩
abbrev IE:=Option Int×Option Int
def Jd:Option IE→Option IE→Option IE
 | none,o=>o
 | some s,none=>some s
 | some s,some t=>some (Jq s.1 t.1,Jr s.2 t.2)
structure IsMet(w1 w2 m:List WP):Prop where
 len:m.length≤w1.length+w2.length
 asc:(m.map (·.1)).Pairwise Ik
 sp:∀f,HH m f=Jd (HH w1 f) (HH w2 f)
def My(w1:List WP)(p:WP):Bool:=match HH w1 p.1 with
 | none=>false
 | some s=>Ir (Jq s.1 p.2.1) (Jr s.2 p.2.2)
def JP(w1 w2:List WP):Bool:=w2.any (My w1)
theorem M7{w:List WP}(h:(w.map (·.1)).Pairwise Ik)(p:List PP):HE w p=true↔∀f s,HH w f=some s→∃n,IH p f=some n∧Ia s.1 s.2 n=true:=by
 unfold HE;rw[List.all_eq_true];constructor
 · intro q f s hs;obtain⟨x,hx,e1,e2⟩:=L9 hs;have:=q x hx;unfold JE at this;rw[e1] at this;cases e:IH p f with
   | none=>rw[e] at this;cases this
   | some n=>rw[e,e2] at this;exact⟨n,rfl,this⟩
 · intro q x hx;obtain⟨n,h1,h2⟩:=q x.1 x.2 (NK h hx);rw[NM h1];exact h2
theorem SJ{w1 w2 m:List WP}(h1:(w1.map (·.1)).Pairwise Ik)(h2:(w2.map (·.1)).Pairwise Ik)(h:IsMet w1 w2 m)(p:List PP):HE m p=(HE w1 p && HE w2 p):=by
 rw[Ch,AB,M7 h.asc,M7 h1,M7 h2];constructor
 · intro q;refine⟨λf s hs=>?_,λf s hs=>?_⟩
   · cases e:HH w2 f with
     | none=>exact q f s (by rw[h.sp,hs,e];rfl)
     | some t=> obtain⟨n,n1,n2⟩:=q f (Jq s.1 t.1,Jr s.2 t.2) (by rw[h.sp,hs,e];rfl);have:=Mw s.1 s.2 t.1 t.2 n;rw[this,AB] at n2;exact⟨n,n1,n2.1⟩
   · cases e:HH w1 f with
     | none=>exact q f s (by rw[h.sp,hs,e];rfl)
     | some t=> obtain⟨n,n1,n2⟩:=q f (Jq t.1 s.1,Jr t.2 s.2) (by rw[h.sp,hs,e];rfl);have:=Mw t.1 t.2 s.1 s.2 n;rw[this,AB] at n2;exact⟨n,n1,n2.2⟩
 · rintro⟨q1,q2⟩ f s hs;rw[h.sp] at hs;cases e1:HH w1 f with
   | none=> rw[e1] at hs;exact q2 f s hs
   | some t=>
    cases e2:HH w2 f with
    | none=>rw[e1,e2] at hs;cases hs;exact q1 f _ e1
    | some u=> rw[e1,e2] at hs;cases hs;obtain⟨n,n1,n2⟩:=q1 f t e1;obtain⟨n',n1',n2'⟩:=q2 f u e2;rw[n1] at n1';cases n1';refine⟨n,n1,?_⟩;rw[Mw,n2,n2'];rfl
theorem SH{w:List WP}{x:WP}(h:(w.map (·.1)).Pairwise Ik)(hx:x∈w):HH w x.1=some x.2:=NK h hx
theorem RX:∀{m m':List WP},(m.map (·.1)).Pairwise Ik→(m'.map (·.1)).Pairwise Ik→(∀f,HH m f=HH m' f)→m=m'
 | [],[],_,_,_=>rfl
 | [],y::r,_,_,h=>by have:=h y.1;simp[HH] at this
 | x::r,[],_,_,h=>by have:=h x.1;simp[HH] at this
 | x::r,y::r',h1,h2,h=>by
  have hx:=SH h1 (x:=x) (by simp);have hy:=SH h2 (x:=y) (by simp);have g1:=h1;have g2:=h2;rw[AK,BQ] at g1 g2;have e:x.1=y.1:=by
   rw[h x.1] at hx;rw[←h y.1] at hy;obtain⟨u,hu,u1,_⟩:=L9 hx;obtain⟨v,hv,v1,_⟩:=L9 hy;rcases As.mp hu with rfl | hu
   · exact u1.symm
   · rcases As.mp hv with rfl | hv
     · exact v1
     · have k1:=g2.1 _ (Ax (f:=(·.1)) hu);have k2:=g1.1 _ (Ax (f:=(·.1)) hv);rw[u1] at k1;rw[v1] at k2;exact absurd (N9 k1 k2) (DK _)
  have e2:x=y:=by rw[h x.1,e,hy] at hx;exact Prod.ext e (A5 hx).symm
  subst e2;have tails:∀f,HH r f=HH r' f:=λf=>by
   by_cases hf:x.1=f
   · have n1:HH r f=none:=by
      cases e:HH r f with
      | none=>rfl
      | some s=>obtain⟨u,hu,u1,_⟩:=L9 e;have:=g1.1 _ (Ax (f:=(·.1)) hu);rw[u1,hf] at this;exact absurd this (DK _)
     have n2:HH r' f=none:=by
      cases e:HH r' f with
      | none=>rfl
      | some s=>obtain⟨u,hu,u1,_⟩:=L9 e;have:=g2.1 _ (Ax (f:=(·.1)) hu);rw[u1,hf] at this;exact absurd this (DK _)
     rw[n1,n2]
   · have:=h f;unfold HH at this ⊢;rw[D_ (by simpa using hf),D_ (by simpa using hf)] at this;exact this
  rw[RX g1.2 g2.2 tails]
theorem Sn{lo hi:Option Int}:IV lo hi=!Ir lo hi:=by cases lo<;>cases hi<;>simp only[IV,Ir,Bool.not_false];rw[Ch];simp
def TJ(a b:Int):Bool:=decide (a<b)
def Ql{α β:Type}[DecidableEq α](l:α→α→Bool)(m:β→β→Bool)(x y:α×β):Bool:=if x.1=y.1 then m x.2 y.2 else l x.1 y.1
def Z8:Option Int→Int×Int
 | none=>(0,0)
 | some l=>(1,l)
def Z9:Option Int→Int×Int
 | none=>(1,0)
 | some h=>(0,h)
def d2(p:Int×Int):PD:= .tup [.int p.1,.int p.2]
abbrev ZB:=Str×(Int×Int)×(Int×Int)
def ky(p:WP):ZB:=(p.1,Z8 p.2.1,Z9 p.2.2)
def KP:Int×Int→Int×Int→Bool:=Ql TJ TJ
def TU(H:Hp)(d:Addr)(w:List WP):Prop:=∃bs:List (Str×V),H d=some (.dK (JM bs))∧bs.map (·.1)=w.map (·.1)∧∀f:Str,match HH w f with
 | none=>IB bs f=none
 | some s=>∃t,IB bs f=some (.ref t)∧H t=some (.tup [eV s.1,eV s.2])
def Td:Sp:=λvs H Q _=>∃(a:Addr)(w:List WP),vs=[.ref a]∧WishAt H a w∧WOk w∧∀d H',Same H H'→H d=none→TU H' d w→Q (.ref d) H'
def Q_:Sp:=λvs H Q _=>∃(a b:Addr)(w1 w2:List WP),vs=[.ref a,.ref b]∧WishAt H a w1∧WishAt H b w2∧WOk w1∧WOk w2∧w1.length+w2.length≤60∧
 (JP w1 w2=true→∀H',Same H H'→Q .non H')∧(JP w1 w2=false→∀r m H',IsMet w1 w2 m→Same H H'→WishAt H' r m→Q (.ref r) H')
theorem Mc{l:List Str}(h:l.Pairwise Ik):l.Nodup:=h.imp λh e=>Lh h e
theorem SF(g:Str→IE)(f:Str):∀ms:List Str,HH (ms.map λf=>(f,g f)) f=if f∈ms then some (g f) else none
 | []=>rfl
 | x::ms=>by
  have ih:=SF g f ms;unfold HH at*;by_cases h:x=f
  · subst h;simp
  · rw[AK,D_ (by simpa using h),ih];by_cases h2:f∈ms
    · rw[if_pos h2,if_pos (AE _ h2)]
    · rw[if_neg h2,if_neg (λz=>(As.mp z).elim (λe=>h e.symm) h2)]
def LV(w1 w2:List WP)(f:Str):IE:=(Jd (HH w1 f) (HH w2 f)).getD (none,none)
def K0(w1 w2:List WP)(ms:List Str):List WP:=ms.map λf=>(f,LV w1 w2 f)
theorem Sc{w1 w2:List WP}{ms:List Str}(asc:ms.Pairwise Ik)(hk:∀f,f∈ms↔(Jd (HH w1 f) (HH w2 f)).isSome=true)(hl:ms.length≤w1.length+w2.length):IsMet w1 w2 (K0 w1 w2 ms):=by
 refine⟨by unfold K0;rw[Ab];exact hl,?_,λf=>?_⟩
 · unfold K0;rw[BN];have:((λx:WP=>x.1)∘λf=>(f,LV w1 w2 f))=id:=rfl;rw[this,List.map_id];exact asc
 · unfold K0;rw[SF];cases e:Jd (HH w1 f) (HH w2 f) with
   | none=>rw[if_neg (λz=>by have:=(hk f).mp z;rw[e] at this;cases this)]
   | some s=> rw[if_pos ((hk f).mpr (by rw[e];rfl))];unfold LV;rw[e];rfl
theorem VX{K:Ae}{z p:Addr}{Q:VK}{js:Iz}{cap:St}{te:TE}(base:List WP)(hb:base.length≤100)(e:SqL K H z ((base.map (·.1)).map V.str))(hp:H p=none)(hσ:inn js σ=none::cap)
 (he:∀x∈base,∀H'(R:VK),Same H H'→(∀t,H' t=none→R (.ref t) (Hr H' t (.tup [.str x.1,eV x.2.1,eV x.2.2])))→te (some (.str x.1)::cap) H' R)
 (hq:∀H'(qs:List (Addr×WP)),Same H H'→qs.map (·.2)=base→H' p=some (.lst (qs.map λq=>V.ref q.1))→(∀q∈qs,H' q.1=some (.tup [.str q.2.1,eV q.2.2.1,eV q.2.2.2]))→Q (.ref p) H'):Kk (Ke K z) p js (JA 0) Jm te σ H Q:=by
 have s0:=Hz hp (.lst []);refine Mb (xs:=(base.map (·.1)).map V.str) (λi σ' ys H'=>(∃v,σ'=v::cap)∧Same H H'∧H' p=some (.lst ys)∧∃qs:List (Addr×WP),ys=qs.map (λq=>V.ref q.1)∧qs.map (·.2)=base.take i∧∀q∈qs,H' q.1=some (.tup [.str q.2.1,eV q.2.2.1,eV q.2.2.2])) ⟨⟨_,hσ⟩,s0,Hu,[],rfl,rfl,λq hq=>by simp at hq⟩ ?_ ?_ ?_
 · rintro i σ' ys H' hi ⟨_,s,h1,qs,rfl,h3,_⟩;refine⟨s.seq e,h1,?_⟩;have:=congrArg AX h3;rw[Ab,AH] at this;rw[Ab];exact II (by omega)
 · rintro i x σ' ys H' N hx ⟨⟨v,rfl⟩,s,h1,qs,rfl,h3,h4⟩ hN;rw[Ai,Ai] at hx;cases e1:base[i]? with
   | none=>rw[e1] at hx;cases hx
   | some m=>
    rw[e1] at hx;obtain rfl:V.str m.1=x:=A5 hx;refine he m (Am e1) H' _ s λt ht=>?_;have st:=Hz ht (.tup [.str m.1,eV m.2.1,eV m.2.2]);have h5:=st _ _ h1;have tl:=K6 (o:= .lst (qs.map (λq=>V.ref q.1)++[V.ref t])) h5;refine⟨h5,hN _ _ _ ⟨⟨_,rfl⟩,K7 (s.trans st) hp,Hu,qs++[(t,m)],?_,?_,?_⟩⟩
    · rw[Aj];rfl
    · rw[Aj,h3,IW e1];rfl
    · intro q hq;rcases Aq.mp hq with z | z
      · exact tl _ _ (st _ _ (h4 q z))
      · rw[Af.mp z];exact tl _ _ Hu
 · rintro σ' ys H' ⟨_,s,h1,qs,rfl,h3,h4⟩;refine hq H' qs s ?_ h1 h4;rw[h3,AL (by simp)]
theorem V9{w:List WP}{f:Str}(h:f∈w.map (·.1)):∃s,HH w f=some s:=by
 cases e:HH w f with
 | some s=>exact⟨s,rfl⟩
 | none=> obtain⟨x,hx,hf⟩:=AN.mp h;exact absurd hf (SG e x hx)
end L2
set_option maxHeartbeats 1000000
namespace L2
open PySem PySem.Spec PyProof.Rows PySem.W
def Lf:R2:=λx y H Q=>∃a b xs ys,x= .ref a∧y= .ref b∧H a=some (.tup xs)∧H b=some (.tup ys)∧xs.length+ys.length≤Av∧∀p H',Same H H'→H' p=some (.tup (xs++ys))→Q (.ref p) H'
theorem Ko:Iu X (binaryOp .Add) Lf:=by
 intro pins s σ H x y v u Q I rx ry h;obtain⟨a,b,xs,ys,rfl,rfl,ha,hb,hz,q⟩:=h;cases rx;cases ry;obtain⟨its,r1,p1,_⟩:=I.tuple (SqT.of ha);obtain⟨its2,r2,p2,_⟩:=I.tuple (SqT.of hb);by_cases hx:xs=[]
 · subst hx;cases r1;obtain⟨⟨cls,dd,data,sl⟩,ho,hc,n,hd⟩:=id p1;obtain⟨⟨cls2,dd2,data2,sl2⟩,ho2,hc2,n2,hd2⟩:=id p2;simp only at hc hd hc2 hd2;subst hc hd hc2 hd2;exact concat_meets ⟨_,ho,rfl⟩ ⟨_,ho2,rfl⟩ noFill_tuple_add seq_tuple_add DS DL (DD _ _)
    (tuple_addW0 a b _ _ n n2 dd dd2 sl sl2 rfl) ⟨ho,ho2,⟨.ref b,H,I,rfl,q b H (Same.refl _) hb⟩⟩
 · refine HT.cat_tup p1 p2 (λz=>hx (r1.nil_iff.mp z)) (λz=>⟨.ref a,H,I,rfl,q a H (Same.refl _) (by rw[r2.nil_iff.mp z,Ej];exact ha)⟩) (λz=>?_) (by rw[←r1.length,←r2.length];exact hz);have hn:=I.hok.fresh (Ah _);refine⟨.ref s.heap.objs.size,_,I.laid (t':=s.toks) (o:= .tup (xs++ys)) (λb ob q=>Ad _ q) (Ah _) ?_,rfl,q _ _ (Hz hn _) Hu⟩;exact⟨by rw[Aw];exact hz,_,r1.append r2,IsTupP.new _ _⟩
def Jo:V→Option Int→Option Int→Hp→VK→Prop:=λx lo hi H Q=>∃a xs,x= .ref a∧H a=some (.tup xs)∧∀p H',Same H H'→H' p=some (.tup (Iq xs lo hi))→Q (.ref p) H'
theorem X6{lo hi:Option Int}(h:HT.sIx xs.length 0 lo=0∧HT.sIx xs.length xs.length hi=xs.length):Iq xs lo hi=xs:=by unfold Iq;rw[h.1,h.2,E3,Nat.sub_zero];exact AL (Ah _)
theorem Kc:Mp X Jo:=by intro pins s σ H x v vl vu lo hi sl Q I rx hs pl pu h;obtain⟨a,xs,rfl,ha,q⟩:=h;exact Rv pins s σ H (.ref a) v vl vu lo hi sl Q I rx hs pl pu ⟨a,xs,rfl,SqT.of ha,λhw=>q a H (Same.refl _) (by rw[X6 hw];exact ha),λ_ p hp=>q p _ (Hz hp _) Hu⟩
theorem LC{k:Int}(e:k=(n:Int)):Iq xs none (some k)=xs.take n:=by
 subst e;unfold Iq;rw[HT.sIx_none,HT.sIx_nat,E3,Nat.sub_zero];by_cases h:n≤xs.length
 · rw[Nat.min_eq_left h]
 · rw[Nat.min_eq_right (by omega),AL (Ah _),AL (by omega)]
theorem LB{k:Int}(e:k=(n:Int)):Iq xs (some k) none=xs.drop n:=by
 subst e;unfold Iq;rw[HT.sIx_none,HT.sIx_nat];by_cases h:n≤xs.length
 · rw[Nat.min_eq_left h];exact AL (by simp)
 · rw[Nat.min_eq_right (by omega),Nat.sub_self,List.take_zero,FD (by omega)]
open PySem PySem.Spec PyProof.Rows PySem.W
theorem WW{xs ys:Array Value}{b:Bool}{j:Nat}{Q:Bool→Shared→Prop}(F:FirstAt A s xs ys b j)(h:Q b s):∀k i,j - i=k→i≤j→KatLex prog w A false (decide (xs.size<ys.size)) Q ((xs.toList.zip ys.toList).drop i) i s:=by
 intro k
 induction k with
 | zero=>
  intro i hk hij;obtain rfl:i=j:=by omega
  rcases F.fin with⟨hs,hc⟩ | ⟨h1,h2,he,hlt⟩
  · rw[DZ (by simp;omega)];exact kat_nil (hc ▸ h)
  · rw[Ba (by simp;omega)];simp only[List.getElem_zip,FZ];refine kat_cons (he _ _ _ _ (kat_no ?_));rw[Bool.false_and];exact kat_one _ _ (hlt _ _ _ _ h)
 | succ k ih=> intro i hk hij;have f1:=F.le1;have f2:=F.le2;rw[Ba (by simp;omega)];simp only[List.getElem_zip,FZ];exact kat_cons (F.same i (by omega) (by omega) (by omega) _ _ _ _ (kat_yes (ih (i+1) (by omega) (by omega))))
theorem RF{M:Model}:∀ks:List Value,(∀k∈ks,∃a o xs n f,k= .ref a∧h.get? a=some o∧o.cls= .type "tuple"∧o.data= .seq xs n∧xs[0]?=some f∧Looks M h (typeOf f) (.type "tuple"))→∃fs,KatTups h ks fs∧fs.length=ks.length∧∀v∈fs,Looks M h (typeOf v) (.type "tuple")
 | [],_=>⟨[],.nil,rfl,λv hv=>by simp at hv⟩
 | k::ks,hp=>by
  obtain⟨fs,h1,h2,h3⟩:=RF ks λq hq=>hp q (AE _ hq);obtain⟨a,o,xs,n,f,rfl,e,c,d,g,l⟩:=hp k Az;refine⟨f::fs,.cons e c d g h1,by rw[AF,h2,AF],λv hv=>?_⟩;rcases As.mp hv with z | z
  · rw[z];exact l
  · exact h3 v z
def Ou(n:Nat):Prop:=∀(prog:Br)(w:World)(A:Bu)(E:Value→Shared→Prop)(s:Shared)(κ:SortKind)(lt:Nat→Nat→Bool)(ks us:List Value),ks.length=n→us.length=n→2≤n→KS.Ord lt→
 (∀i j i' j',i<n→j<n→i'<n→j'<n→us[i]?=us[i']?→us[j]?=us[j']?→lt i j=lt i' j')→
 (∀i j,i<n→j<n→∀C:Bool→Shared→Prop,C (lt i j) s→wpAny (model prog w) A (keyLt' κ (ks.getD i Value.none) (ks.getD j Value.none)) C (λ_ _=>False) s)→
 wpAny (model prog w) A (sortRuns'.run (SortSt.mk' κ (ks.toArray.zip us.toArray) #[] 7 none)) (λr s'=>s'=s∧∃p:Array Nat,arrOf r.2=p.map (kas_item (ks.toArray.zip us.toArray))∧failedOf r.2=none∧KS.Ok n p∧KS.Srt lt p n) E s
theorem Vu(h:n<64):Ou n:=by
 intro prog w A E s κ lt ks us hk hu h2 O _ hc;subst hu;have tree:(kas_sort us.length).kasWp (kas_ask prog w A κ ks) (λp s2=>s2=s∧KS.Ok us.length p∧KS.Srt lt p us.length) s:=
  KS.sat_wp (λi j C hi hj hC=>hc i j hi hj C hC) (λp hp=>⟨rfl,hp⟩) _ (KS.sort_ok O (by omega))
 exact Ay (kat_run (Q:=λst' s2=>∃p:Array Nat,p.size=us.length∧arrOf st'=p.map (kas_item (ks.toArray.zip us.toArray))∧failedOf st'=none∧s2=s∧KS.Ok us.length p∧KS.Srt lt p us.length)
  hk h2 h (λp' st' s2 a1 a2 a3 a4=>⟨p',a1,a2,a3,a4⟩) tree) (λr s2 ⟨p,_,a2,a3,a4,a5,a6⟩=>⟨a4,p,a2,a3,a5,a6⟩) λ_ _ e=>e
def Rj(n:Nat)(kd:Nat→PD):Prop:=n<2∨(∀i,∃ds,kd i= .lst ds)∨(∀i,i<n→∃d ds,kd i= .tup (.tup d::ds))∨∀i,i<n→∃x,kd i= .str x
section
variable{o:HO}
theorem WR{kS:Addr}{f:Value}{vs:List V}{us:List Value}{kd:Nat→PD}{e1:Nat}{P:PySem.Fin→Shared→Prop}{E:Value→Shared→Prop}
 (I:Inv X ((a,Bm "list" #[] e1)::(kS,Bm "list" #[] 0)::pins) σ H s) (Fa:HA X pins H a) (Fk:HA X pins H kS) (ha0:X.s₀.heap.get? a=none) (hak:kS≠a) (rv:Vals vs us) (h64:us.length≤1000) (S:Ou us.length) (hcons:∀i j:Nat,i<us.length→j<us.length→us[i]?=us[j]?→kd i=kd j)
 (turn:∀i v u,vs[i]?=some v→us[i]?=some u→∀pins' s' H',Inv X pins' σ H' s'→Same H H'→wpAny (model X.prog X.w) X.A (call f [u]) (EP X pins' σ λkv H''=>Same H' H''∧Rep X.K H'' (kd i) kv) (λ_ _=>False) s')
 (hl:Rj us.length kd) (hd:∀i,X.A.units+2+IU (kd i)<cLine)
 (hok:∀i j,i<us.length→j<us.length→HL (kd i) (kd j)=true) (O:KS.Ord λi j=>Ig (kd i) (kd j))
 (h:∀(p:Array Nat)s' H',KS.Ok us.length p→KS.Srt (λi j=>Ig (kd i) (kd j)) p us.length→Same H H'→H' a=none→Inv X pins σ (Hr H' a (.lst (p.toList.map λi=>vs.getD i .non))) s'→P (.done (.ret .none)) s'):
 wpAny (model X.prog X.w) X.A (ksk_rest a f false us.toArray e1 (.ref kS)) P E s:=by
 have lv:=rv.length;unfold ksk_rest;refine Aa (BI ?_);rw[List.forIn_toArray];refine Aa (ksk_fold (λi s'=>∃H' kvs kA e,Inv X ((a,Bm "list" #[] e1)::(kS,Bm "list" kA e)::pins) σ H' s'∧Same H H'∧Vals kvs kA.toList∧kvs.length=i∧∀j kv,kvs[j]?=some kv→Rep X.K H' (kd j) kv) us 0 s
  ⟨H,[],#[],0,I,Same.refl _,.nil,rfl,λj kv e=>by simp at e⟩ ?step ?done)
 case step=>
  rintro j x s' hx ⟨H1,kvs,kA,e,I1,S1,rk,lk,rp⟩;simp only[Nat.zero_add] at lk ⊢;have hj:j<us.length:=(Al.mp hx).1;obtain⟨v,hv⟩:∃v,vs[j]?=some v:=⟨_,Ak (by omega)⟩;refine Aa (Do (Ay (turn j v x hv hx _ s' H1 I1 S1) (λu s2 he=>?_) λ_ _ hF=>hF.elim));obtain⟨kv,H2,I2,r2,S2,R2⟩:=he;dsimp only;obtain⟨nk,nk1,nk2,nk3,nk4⟩:=I2.pin (kS,Bm "list" kA e) (Ag _ (.tail _ (.head _)));obtain⟨na,na1,na2,na3,na4⟩:=I2.pin (a,Bm "list" #[] e1) (Ag _ (.head _));have hz:kA.size=j:=by
   have h1:kvs.length=kA.size:=by have:=rk.length;simpa using this
   rw[←h1,lk]
  have s1:=AU s2.heap kS (AJ (·.push u));obtain⟨c2,hc2⟩:∃c2,(s2.heap.update kS (AJ (·.push u))).get? kS=some (Bm "list" (kA.push u) c2):=⟨_,get?_update_seq nk (·.push u)⟩;refine Aa (listUpdate_at nk rfl ?_ (by rw[sizeLine_eq];omega) (AY (Nat.le_of_eq (Array.size_push ..)) (by rw[sizeLine_eq];omega)));have I3:Inv X pins σ H2 s2:=I2.pins_of λp hp=>I2.pin p (Ag _ (.tail _ (.tail _ hp)));have I4:Inv X pins σ H2 {s2 with heap:=s2.heap.update kS (AJ (·.push u)),toks:=s2.toks}:=I3.turned (it:=kS) (λb o hb q=>(s1.2 b hb).trans q) nk1 nk2 Fk.2.2.2.1 Fk.2.2.2.2.1 Fk.2.2.2.2.2
  refine Ac ⟨rfl,H2,kvs++[kv],kA.push u,c2,I4.pins_of λp hp=>?_,S1.trans S2,?_,by rw[Aw];simp[lk],λi kv' e'=>?_⟩
  · rcases As.mp hp with rfl | hp
    · exact⟨(s1.2 a hak.symm).trans na,na1,na2,na3,na4⟩
    · rcases As.mp hp with rfl | hp
      · exact⟨hc2,nk1,nk2,nk3,λv z=>by cases z⟩
      · exact I4.pin p (Ag _ hp)
  · rw[EV];exact rk.append (.cons r2 .nil)
  · rcases CT i kvs.length with h1 | h1
    · rw[EY h1] at e';exact Rep.same S2 _ _ (rp i kv' e')
    · rw[EE h1] at e';have:i=kvs.length:=by
       rcases CT (i - kvs.length) 1 with h2 | h2
       · omega
       · rw[CA (by simpa using h2)] at e';cases e'
      subst this;simp at e';subst e';rw[lk];exact R2
 case done=>
  rintro s' ⟨H1,kvs,kA,e,I1,S1,rk,lk,rp⟩;rw[Nat.zero_add] at lk;obtain⟨nk,nk1,nk2,nk3,nk4⟩:=I1.pin (kS,Bm "list" kA e) (Ag _ (.tail _ (.head _)));obtain⟨na,na1,na2,na3,na4⟩:=I1.pin (a,Bm "list" #[] e1) (Ag _ (.head _));refine Aa (listItems_at nk rfl ?_);obtain⟨ks,rfl⟩:∃ks:List Value,kA=ks.toArray:=⟨kA.toList,by simp⟩;simp only[List.toList_toArray] at rk;have lks:ks.length=us.length:=by have:=rk.length;omega
  have key:(∀i,i<us.length→∀kv,Rep X.K H1 (kd i) kv→∃l,kv=V.ref l)→∀i,i<us.length→∃(l:Addr)(kv:V),ks.getD i Value.none= .ref l∧kvs[i]?=some kv∧RelV kv (.ref l)∧Rep X.K H1 (kd i) kv:=λhrf i hi=>by obtain⟨kv,hkv⟩:∃kv,kvs[i]?=some kv:=⟨_,Ak (by omega)⟩;obtain⟨u,h1,h2⟩:=Vals.get rk hkv;have h3:=rp i kv hkv;obtain⟨l,rfl⟩:=hrf i hi kv h3;cases h2;exact⟨l,_,by rw[AM,h1];rfl,hkv,rfl,h3⟩
  have tail:∀(st':SortSt)(p:Array Nat),arrOf st'=p.map (kas_item (ks.toArray.zip us.toArray))→failedOf st'=none→KS.Ok us.length p→KS.Srt (λi j=>Ig (kd i) (kd j)) p us.length→wpAny (model X.prog X.w) X.A (ksk_tail a false e1 (.ref kS) st') P E s':=by
   intro st' p har hf ok srt;have hout:=kat_snds lks har;have hp:=ok.size;have s1:=AU s'.heap kS (AJ λ_=>(#[]:Array Value));have na':(s'.heap.update kS (AJ λ_=>(#[]:Array Value))).get? a=some (Bm "list" #[] e1):=(s1.2 a hak.symm).trans na;have s2:=AU (s'.heap.update kS (AJ λ_=>(#[]:Array Value))) a (AJ λ_=>(arrOf st').map (·.2));obtain⟨c2,hc2⟩:∃c2,((s'.heap.update kS (AJ λ_=>(#[]:Array Value))).update a (AJ λ_=>(arrOf st').map (·.2))).get? a=some (Bm "list" ((arrOf st').map (·.2)) c2):=
    ⟨_,get?_update_seq na' λ_=>(arrOf st').map (·.2)⟩
   unfold ksk_tail;dsimp only;refine Aa (listUpdate_at nk rfl ?_ (by rw[Au,sizeLine_eq];omega) (AQ _));refine Aa (Ce ?_);refine Aa (seqEpoch_at na' rfl ?_);refine Aa (listUpdate_at na' rfl ?_ (AQ _) (by simp only[By,if_false];rw[hout];show(p.toList.map λi=>us.getD i Value.none).length≤_;rw[Ab,AC,hp,sizeLine_eq];omega));rw[hf];simp only[bne_self_eq_false,By,if_false];have I3:Inv X pins σ H1 s':=I1.pins_of λp hp=>I1.pin p (Ag _ (.tail _ (.tail _ hp)));have I4:Inv X pins σ H1 {s' with heap:=s'.heap.update kS (AJ λ_=>(#[]:Array Value)),toks:=s'.toks}:=I3.turned (it:=kS) (λb o hb q=>(s1.2 b hb).trans q) nk1 nk2 Fk.2.2.2.1 Fk.2.2.2.2.1 Fk.2.2.2.2.2
   have I5:Inv X pins σ H1 {s' with heap:=(s'.heap.update kS (AJ λ_=>(#[]:Array Value))).update a (AJ λ_=>(arrOf st').map (·.2)),toks:=s'.toks}:=Inv.turned (s:={s' with heap:=s'.heap.update kS (AJ λ_=>(#[]:Array Value)),toks:=s'.toks}) (t':=s'.toks) (it:=a) I4 (λb o hb q=>(s2.2 b hb).trans q) na1 na2 Fa.2.2.2.1 Fa.2.2.2.2.1 Fa.2.2.2.2.2
   refine Ac (h p _ H1 ok srt S1 na1 (I5.track7 ⟨na1,Fa.2⟩ ha0 ?_));refine⟨by rw[Ab,AC,hp,sizeLine_eq];omega,p.toList.map λi=>us.getD i Value.none,c2,?_,?_⟩
   · have:∀l:List Nat,Vals (l.map λi=>vs.getD i .non) (l.map λi=>us.getD i Value.none):=λl=>by
      induction l with
      | nil=>exact .nil
      | cons i l ih=>
       refine .cons ?_ ih;show RelV (vs.getD i .non) (us.getD i Value.none);rcases CT i vs.length with h1 | h1
       · obtain⟨u,g1,g2⟩:=Vals.get rv (Ak h1);rw[AM,AM,g1,Ak h1];exact g2
       · rw[AM,AM,CA h1,CA (by omega)];rfl
     exact this _
   · rw[hout] at hc2 ⊢;exact hc2
  unfold ksk_end;dsimp only;simp only[By,if_false];have hsz:us.toArray.size=us.length:=by simp
  by_cases h2:us.toArray.size<2
  · rw[if_pos h2,if_pos h2];refine Aa (Ac ?_);rw[StateT.run_pure];refine Aa (Ac ?_);have e1:=kas_range (ks.toArray.zip us.toArray);have e2:(ks.toArray.zip us.toArray).size=us.length:=by simp[lks]
    rw[e2] at e1;exact tail _ (BV us.length).toArray e1.symm rfl ⟨by simp⟩ (λi j hij hj=>absurd hj (by rw[hsz] at h2;omega))
  · rw[if_neg h2,if_neg h2];rw[hsz] at h2;obtain⟨κ,hkind,hgo⟩:∃κ,(∀Q:SortKind→Shared→Prop,Q κ s'→wpAny (model X.prog X.w) X.A (keyKind' ks.toArray) Q E s')∧∀i j,i<us.length→j<us.length→∀C:Bool→Shared→Prop,C (Ig (kd i) (kd j)) s'→wpAny (model X.prog X.w) X.A (keyLt' κ (ks.getD i Value.none) (ks.getD j Value.none)) C (λ_ _=>False) s':=by
     rcases hl with z | hl | hl | hl
     · omega
     · have key:=key λi _ kv r=>by
        obtain⟨ds,e⟩:=hl i;rw[e,Rep] at r;obtain⟨l,xs,z,_⟩:=r;exact⟨l,z⟩
       refine⟨oneType',λQ q=>kas_kind (T:= .type "list") (by omega) (λv hv=>?_) (by rfl) (by rfl) q,λi j hi hj C hC=>?_⟩
       · obtain⟨i,hi,rfl⟩:=Di hv;obtain⟨l,kv,g1,g2,g3,g4⟩:=key i (by omega);rw[AM,Ak hi] at g1;obtain⟨ds,hds⟩:=hl i;rw[hds,Rep] at g4;obtain⟨l',xs,rfl,g5,_⟩:=g4;cases g3;obtain⟨its,_,pl,_⟩:=I1.list g5;rw[show ks[i]= .ref _ from g1];exact XE pl.isList
       · obtain⟨l1,kv1,a1,a2,a3,a4⟩:=key i hi;obtain⟨l2,kv2,b1,b2,b3,b4⟩:=key j hj;rw[a1,b1];have k1:=hok i j hi hj;have hdi:=hd i;obtain⟨ds,hds⟩:=hl i;obtain⟨es,hes⟩:=hl j;rw[hds,hes] at k1 hC;rw[hds] at a4 hdi;rw[hes] at b4;rw[Rep] at a4 b4;obtain⟨m1,xs,rfl,q1,q2⟩:=a4;obtain⟨m2,ys,rfl,q3,q4⟩:=b4;cases a3;cases b3;obtain⟨its,r1,p1,_⟩:=I1.list q1;obtain⟨its',r2,p2,_⟩:=I1.list q3;rw[IU] at hdi;rw[HL] at k1;rw[Ig] at hC;obtain⟨n,FA⟩:=MB I1 X.A.in1 ds es xs ys its its' q2 q4 r1 r2 (by rw[Bs];omega) k1;exact Xk p1.isList p2.isList (by omega) FA hC
     · have key:=key λi hi kv r=>by
        obtain⟨d,ds,e⟩:=hl i hi;rw[e,Rep] at r;obtain⟨l,xs,z,_⟩:=r;exact⟨l,z⟩
       refine⟨tuples' false,λQ q=>?_,λi j hi hj C hC=>?_⟩
       · obtain⟨fs,f1,f2,f3⟩:=RF (M:=model X.prog X.w) (h:=s'.heap) ks λv hv=>by
          obtain⟨i,hi,rfl⟩:=Di hv;obtain⟨l,kv,g1,g2,g3,g4⟩:=key i (by omega);rw[AM,Ak hi] at g1;obtain⟨d,ds,hds⟩:=hl i (by omega);rw[hds,Rep] at g4;obtain⟨l',xs,rfl,g5,g6⟩:=g4;cases g3;obtain⟨its,rv,⟨o,e,c,n,hd⟩,_⟩:=I1.tuple g5;rw[Reps] at g6;obtain⟨x,vr,rfl,g7,_⟩:=g6;rw[Rep] at g7;obtain⟨l2,xs2,rfl,g8,_⟩:=g7;cases rv with
          | cons ra rb=> cases ra;obtain⟨its2,_,⟨o2,e2,c2,_⟩,_⟩:=I1.tuple g8;refine⟨_,o,_,n,_,g1,e,c,hd,rfl,?_⟩;rw[←c2];exact(Looks.ld e2).andThen .now
         exact kat_kind (T:= .type "tuple") f1 (by omega) f3 (by rfl) q
       · obtain⟨l1,kv1,a1,a2,a3,a4⟩:=key i hi;obtain⟨l2,kv2,b1,b2,b3,b4⟩:=key j hj;rw[a1,b1];have k1:=hok i j hi hj;have hdi:=hd i;obtain⟨d,ds,hds⟩:=hl i hi;obtain⟨e,es,hes⟩:=hl j hj;rw[hds,hes] at k1 hC;rw[hds] at a4 hdi;rw[hes] at b4;rw[Rep] at a4 b4;obtain⟨m1,xs,rfl,q1,q2⟩:=a4;obtain⟨m2,ys,rfl,q3,q4⟩:=b4;cases a3;cases b3;obtain⟨its,r1,⟨o1,e1,_,n1,d1⟩,_⟩:=I1.tuple q1;obtain⟨its',r2,⟨o2,e2,_,n2,d2⟩,_⟩:=I1.tuple q3;rw[IU] at hdi;rw[HL] at k1;rw[Ig] at hC;obtain⟨n,FA⟩:=MB I1 X.A _ _ xs ys its its' q2 q4 r1 r2 (by omega) k1;exact kat_lt e1 d1 e2 d2 (WW FA hC _ 0 rfl (AQ _))
     · have hs:∀i,i<us.length→∃x t,ks.getD i Value.none= .str x t∧kd i= .str x:=λi hi=>by
        obtain⟨kv,hkv⟩:∃kv,kvs[i]?=some kv:=⟨_,Ak (by omega)⟩;obtain⟨u,h1,h2⟩:=Vals.get rk hkv;have h3:=rp i kv hkv;obtain⟨x,ex⟩:=hl i hi;rw[ex,Rep] at h3;subst h3;obtain⟨t,rfl⟩:=h2;exact⟨x,t,by rw[AM,h1];rfl,ex⟩
       refine⟨oneType',λQ q=>kas_kind (T:= .type "str") (by omega) (λv hv=>?_) (by rfl) (by rfl) q,λi j hi hj C hC=>?_⟩
       · obtain⟨i,hi,rfl⟩:=Di hv;obtain⟨x,t,g1,_⟩:=hs i (by omega);rw[AM,Ak hi] at g1;rw[show ks[i]= .str x t from g1];exact .now
       · obtain⟨x,t,a1,a2⟩:=hs i hi;obtain⟨y,t',b1,b2⟩:=hs j hj;rw[a1,b1];rw[a2,b2,Ig] at hC;rw[keyLt'_oneType];exact oneLt_str hC
    refine Aa (hkind _ ?_);refine Aa (Ay (S _ _ _ E s' κ (λi j=>Ig (kd i) (kd j)) ks us lks rfl (by omega) O (λi j i' j' h1 h2 h3 h4 e1 e2=>?_) hgo) ?_ λ_ _ e=>e)
    · show Ig (kd i) (kd j)=Ig (kd i') (kd j');rw[hcons i i' h1 h3 e1,hcons j j' h2 h4 e2]
    · rintro⟨⟨⟩,st'⟩ s2 ⟨rfl,p,har,hf,ok,srt⟩;exact tail st' p har hf ok srt
end
open PySem PySem.Spec PyProof.Rows PySem.W
def OK(M:Nat)(K:Ae)(sp:Sp):List V→Hp→VK→Prop:=λxs H Q=>∃(l:Addr)(vs:List V)(kd:Nat→PD),xs=[.ref l]∧SqL K H l vs∧vs.length≤M∧(∀v∈vs,∃a,v= .ref a)∧(∀i j:Nat,i<vs.length→j<vs.length→vs[i]?=vs[j]?→kd i=kd j)∧
 (∀i v,vs[i]?=some v→∀H1,Same H H1→∀Q1:VK,(∀kv H2,Same H1 H2→Rep K H2 (kd i) kv→Q1 kv H2)→sp [v] H1 Q1 E0)∧
 Rj vs.length kd∧(∀i,IU (kd i)≤20)∧(∀i j,i<vs.length→j<vs.length→HL (kd i) (kd j)=true)∧KS.Ord (λi j=>Ig (kd i) (kd j))∧
 ∀(r:Addr)(p:Array Nat)(H':Hp),KS.Ok vs.length p→KS.Srt (λi j=>Ig (kd i) (kd j)) p vs.length→Same H H'→H r=none→H' r=some (.lst (p.toList.map λi=>vs.getD i .non))→Q (.ref r) H'
theorem Zf{k M:Nat}(hM:M≤1000)(S:∀n,n≤M→Ou n){f:Addr}{fd:BG}{sp:Sp}(F:FnOk X.prog X.w X.K X.mg X.base HY k f fd [x] sp)(hb:Binds X.K fd [x] [])(hr:Room (k+2) X.A):Mx X (.builtin "sorted") [BE "key"] (λxs zs H Q=>zs=[.ref f]∧OK M X.K sp xs H Q):=by
 intro pins s σ H xs zs us ws Q I r1 r2 h;obtain⟨rfl,l,vs,kd,rfl,hq,h64,hrf,hco,turn,hl,hd,hok,O,q⟩:=h;obtain⟨u,rfl,ru⟩:=Jx r1;obtain⟨z,rfl,rz⟩:=Jx r2;cases ru;cases rz;obtain⟨its,rv,pl,hz⟩:=I.list hq;have lv:=rv.length;show wpAny _ _ (call (.builtin "sorted") [.ref l] [(BE "key",.ref f)]) _ _ _;refine call_function_entry_kw kind_sorted plain_sorted entry_sorted (ksk_s1 _ _) ?_;unfold Fl;refine Aa (m:=checkCount "sorted" 1 1 _) (Ac ?_);refine Aa (collect_list pl.isList ?_ (by omega));refine Aa (EK ?_ (by omega));have hsz:((s.heap.push (Bm "list" #[] 0)).update s.heap.objs.size (AJ (· ++its.toArray))).objs.size=s.heap.objs.size+1:=by rw[Heap.size_update,size_push']
 have hoL:(((s.heap.push (Bm "list" #[] 0)).update s.heap.objs.size (AJ (· ++its.toArray))).push (Bm "list" its.toArray 0)).get? (s.heap.objs.size+1)=some (Bm "list" its.toArray 0):=by rw[←hsz];exact An _ rfl
 have keep:∀b o,s.heap.get? b=some o→(((s.heap.push (Bm "list" #[] 0)).update s.heap.objs.size (AJ (· ++its.toArray))).push (Bm "list" its.toArray 0)).get? b=some o:=λb o q=>by have hlt:b<s.heap.objs.size:=Ao q;rw[Heap.get?_push_ne _ _ _ (by rw[hsz];exact Ar (CY hlt)),Gm _ _ _ _ (Ar hlt),Heap.get?_push_ne _ _ _ (Ar hlt)];exact q
 show wpAny _ _ _ _ _ {s with heap:=((s.heap.push (Bm "list" #[] 0)).update s.heap.objs.size (AJ (· ++its.toArray))).push (Bm "list" its.toArray 0)}
 rw[hsz];generalize hg:((s.heap.push (Bm "list" #[] 0)).update s.heap.objs.size (AJ (· ++its.toArray))).push (Bm "list" its.toArray 0)=g at hoL keep ⊢;refine Aa (AT (wpAny_call_entry_kw FM ⟨_,hoL,rfl⟩ Fz ?body (ksk_l1 _ _)))
 case body=>
  show wpAny (model X.prog X.w) X.A.in1.in1 (Builtin.«list.sort» ⟨[.ref (s.heap.objs.size+1)],[(BE "key",.ref f)]⟩) _ _ _;rw[ksk_t1];unfold ksk_tree;have ha:s.heap.objs.size+1<g.objs.size:=Ao hoL;refine Aa (listItems_at hoL rfl ?_);refine Aa (listUpdate_at hoL rfl ?_ (by rw[Au,sizeLine_eq];omega) (AQ _));obtain⟨e1,ho1⟩:∃e1,(g.update (s.heap.objs.size+1) (AJ λ_=>#[])).get? (s.heap.objs.size+1)=some (Bm "list" #[] e1):=⟨_,get?_update_seq hoL (λ_=>#[])⟩;refine Aa (seqEpoch_at ho1 rfl ?_);refine Aa (E2 ?_ (by show its.length≤_;rw[sizeLine_eq];omega));refine Aa (EK ?_ (AQ _));refine AT ?_;have ho6:(((g.update (s.heap.objs.size+1) (AJ λ_=>#[])).push (Bm "tuple" its.toArray 0)).push (Bm "list" #[] 0)).get? (s.heap.objs.size+1)=some (Bm "list" #[] e1):=
   Ad _ (Ad _ ho1)
  have hkS:((g.update (s.heap.objs.size+1) (AJ λ_=>#[])).push (Bm "tuple" its.toArray 0)).objs.size=g.objs.size+1:=by rw[size_push',Heap.size_update]
  have hok6:(((g.update (s.heap.objs.size+1) (AJ λ_=>#[])).push (Bm "tuple" its.toArray 0)).push (Bm "list" #[] 0)).get? (g.objs.size+1)=some (Bm "list" #[] 0):=by rw[←hkS];exact An _ rfl
  have kept:∀b o,s.heap.get? b=some o→(((g.update (s.heap.objs.size+1) (AJ λ_=>#[])).push (Bm "tuple" its.toArray 0)).push (Bm "list" #[] 0)).get? b=some o:=λb o q=>by refine Ad _ (Ad _ ?_);rw[Gm _ _ _ _ (Ar (CY (Ao q)))];exact keep b o q
  show wpAny _ _ (ksk_rest _ _ _ _ _ (.ref ((g.update (s.heap.objs.size+1) (AJ λ_=>#[])).push (Bm "tuple" its.toArray 0)).objs.size)) _ _ {s with heap:=((g.update (s.heap.objs.size+1) (AJ λ_=>#[])).push (Bm "tuple" its.toArray 0)).push (Bm "list" #[] 0)}
  rw[hkS];generalize((g.update (s.heap.objs.size+1) (AJ λ_=>#[])).push (Bm "tuple" its.toArray 0)).push (Bm "list" #[] 0)=g6 at ho6 hok6 kept ⊢;have Fa:HA X.in2 pins H (s.heap.objs.size+1):=I.in2.fpOk (CN _) (I.hok.fresh (CN _));have hle:s.heap.objs.size≤g.objs.size+1:=by omega
  have hne:g.objs.size+1≠s.heap.objs.size+1:=by omega
  have h64':its.length≤1000:=by omega
  have hcons:∀i j:Nat,i<its.length→j<its.length→its[i]?=its[j]?→kd i=kd j:=λi j hi hj e=>by refine hco i j (by omega) (by omega) ?_;obtain⟨v1,hv1⟩:∃v,vs[i]?=some v:=⟨_,Ak (by omega)⟩;obtain⟨v2,hv2⟩:∃v,vs[j]?=some v:=⟨_,Ak (by omega)⟩;obtain⟨u1,g1,g2⟩:=Vals.get rv hv1;obtain⟨u2,g3,g4⟩:=Vals.get rv hv2;obtain⟨a1,rfl⟩:=hrf v1 (Am hv1);obtain⟨a2,rfl⟩:=hrf v2 (Am hv2);rw[g1,g3] at e;cases g2;cases g4;cases e;rw[hv1,hv2]
  have Fk:HA X.in2 pins H (g.objs.size+1):=I.in2.fpOk hle (I.hok.fresh hle);have I6:Inv X.in2 pins σ H {s with heap:=g6}:=Inv.kept (t':=s.toks) I.in2 kept
  refine WR (X:=X.in2) (pins:=pins) (σ:=σ) (H:=H) (vs:=vs) (kd:=kd) (I6.pins_of λp hp=>?_) Fa Fk (FR (Nat.le_succ_of_le I.sz)) hne rv h64' (S _ (by omega)) hcons (λi v u hv hu pins' s' H' I' S'=>?_) (by rw[←lv];exact hl) (λi=>?_) (by rw[←lv];exact hok) O λp s' H' ok srt S' hn I'=>?_
  · rcases As.mp hp with rfl | hp
    · exact⟨ho6,Fa.1,Fa.2.1,Fa.2.2.1,λv z=>by cases z⟩
    · rcases As.mp hp with rfl | hp
      · exact⟨hok6,Fk.1,Fk.2.1,Fk.2.2.1,λv z=>by cases z⟩
      · exact I6.pin p (Ag _ hp)
  · obtain⟨u',h1,h2⟩:=Vals.get rv hv;rw[hu] at h1;cases h1;exact QV (X:=X.in2) F (Room.in1 (Room.in1 hr)) hb .nil QD I' (.cons h2 .nil) (turn i v hv H' S' _ λkv H2 s2 r2=>⟨s2,r2⟩)
  · have:=hd i;have:=hr.un;show X.A.units+1+1+2+IU (kd i)<cLine;omega
  · refine⟨_,rfl,?_⟩;refine Ac ⟨_,rfl,?_⟩;rw[←lv] at ok srt;exact⟨.ref _,_,I'.out2 I.ok,rfl,q _ p _ ok srt (K7 S' Fa.1) Fa.1 Hu⟩
section
variable{base:Heap}{l:List Env}{H':Hp}{s0 s':Shared}{C t:Addr}{B h':Heap}
end
section
variable{H':Hp}{s':Shared}{C:Addr}
end
def del(H:Hp)(a:Addr):Hp:=λb=>if b=a then none else H b
section
variable{e C:Addr}
end
section
variable{g:Array GenState}{d:Drawn}{t:Nat}{os:OsState}{nm q:Str}{C N:Addr}{bs bm bmB:List Value}{hdct:Bool}{sn:List Str}{sub:List Value}
variable{ab:Bool}{col:Option Bool}{dd:Option Addr}{k0 k1 k2 k3 k5:Option Value}{B newId initId:String}{rest:List Value}
end
section
variable{g:Array GenState}{d:Drawn}{t:Nat}{os:OsState}{nm q:Str}{C N:Addr}{bs bm bmB:List Value}{hdct:Bool}{sn:List Str}{sub:List Value}
variable{ab:Bool}{col:Option Bool}{dd:Option Addr}{k0 k1 k2 k3 k5:Option Value}{B newId initId:String}{rest:List Value}
end
section
variable{K:Ae}{mg:Str→Option Value}{base:Heap}{N:List Str}{qual:Str}{f:Addr}{cd:Value}{outer:List Env}{E:XK}
end
section
variable{K:Ae}{mg:Str→Option Value}{base:Heap}{N:List Str}{qual:Str}{f:Addr}{cd:Value}{outer:List Env}{E:XK}
end
section
variable{E:XK}{C fI:Addr}{fd:BG}{k:Nat}{e1:Expr}{t:TA}{np cpos:Pos}
end
section
variable{o:HO}
end
section
variable{pins':List (Addr×Obj)}{RR:St→Value→Hp→Prop}
end
section
variable{base:Heap}{l:List Env}{H':Hp}{s0 s':Shared}{C t:Addr}{B:Heap}
end
section
variable{M:Model}{g:Array GenState}{d:Drawn}{t:Nat}{os:OsState}{nm q nm0 q0:Str}{C N C0 N0 e:Addr}{bs bm bs0 bm0:List Value}{hdct hdct0:Bool}{sn sn0:List Str}{sub sub0:List Value}
variable{ab ab0:Bool}{col col0:Option Bool}{dd dd0:Option Addr}{k0 k1 k2 k3 k5 j0 j1 j2 j3 j5:Option Value}{newId newId0:String}{oe:Obj}
end
section
variable{C0:Addr}{n:Str}{body suite:List Stmt}{b₀:Stmt}{np hpos:Pos}{tb:(St→Value→Hp→Prop)→TS}{ts:TS}
end
open PySem.W (Looks looks_findIn looks_mroIn looks_typeIn)
section
variable{K:Ae}{g:Array GenState}{d:Drawn}{t:Nat}{os:OsState}{C:Addr}
end
def KZ:V→Value
 | .ref D=> .ref D
 | .ty n=> .type n
 | _=> .none
def O0:V→Bool
 | .ref _=>true
 | .ty _=>true
 | _=>false
theorem Wo{c:V}(h:O0 c=true)(r:RelV c u):u=KZ c:=by
 cases c with
 | ref D=>exact r
 | ty n=>exact r
 | _=>cases h
theorem Sh:∀{cs:List V}{us:List Value},cs.all O0=true→Vals cs us→us=cs.map KZ
 | [],_,_,.nil=>rfl
 | c::cs,_,h,.cons r rs=>by rw[Dm,AB] at h;rw[Wo h.1 r,Sh h.2 rs];rfl
end L2
namespace WB
end WB
namespace WB
end WB
namespace L2
section
variable{te:TE}{p2 p3 p4:Pos}
end
end L2
namespace WB
end WB
namespace L2
inductive DX where
 | non
 | bl (b:Bool)
 | int (i:Int)
 | str (x:Str)
 | lst (ds:List DX)
 | tup (ds:List DX)
 | dic
mutual
def pd:DX→PyData
 | .non=> .none
 | .bl b=> .bool b
 | .int i=> .int i
 | .str x=> .str x
 | .lst ds=> .list (Qh ds)
 | .tup ds=> .tuple (Qh ds)
 | .dic=> .dict []
def Qh:List DX→List PyData
 | []=>[]
 | d::ds=>pd d::Qh ds
end
open PySem.AutoSeq1 (wpAny_loadPart')
open PySem.MeetsSeq PySem.MeetsSeq2 PySem.MeetsSeq3 PySem.SeqRoads2
def EqIn(P:Br)(w:World)(A:Bu)(s:Shared)(y x:Value):Prop:=∀(E:Value→Shared→Prop)(Q:Bool→Shared→Prop),Q true s→wpAny (model P w) A (eqBool y x) Q E s
theorem EqIn.of{y x:Value}(h:DJ A s y x true):EqIn P w A s y x:=λE Q q=>h P w E Q q
theorem Ya(l b:Addr)(items items2:Array Value)(n n2:Nat)(dd dd2:Option Addr)(sl sl2:Array (Option Value))(hsz:items.size=items2.size)(k:Nat):
 ∀i:Nat,items.size - i=k→∀(A:Bu)(R:Result→Shared→Prop)(s:Shared),s.heap.get? l=some {cls:= .type "list",dict:=dd,data:= .seq items n,slots:=sl}→s.heap.get? b=some {cls:= .type "list",dict:=dd2,data:= .seq items2 n2,slots:=sl2}→
  (∀j(h1:j<items.size)(h2:j<items2.size),EqIn P w A.in1 s items[j] items2[j])→R (.ok (.ret (.bool true))) s→
  wpAny (model P w) A.in1 (Builtin.«list.__eq__.loop» ⟨[.ref l,.ref b,rawInt i,rawInt 2],[]⟩) (λfin s'=>match fin with | .done f=>R (.ok f) s' | .again c'=>c'.quiet=true∧codeAny (model P w) A c' R s') (λe s'=>R (.error e) s') s:=by
 induction k with
 | zero=>
  intro i hk A R s hl hb he h;obtain⟨hp,g,d,tk,os⟩:=s
  wp_walk using AG hl,AG hb
  have o1:items[((i:Nat):Int).toNat]?=none:=by simp;omega
  have o2:items2[((i:Nat):Int).toNat]?=none:=by simp;omega
  rw[o1,o2]
  wp_walk using AG hl,AG hb
  show R (.ok (.ret (.bool (items.size==items2.size)))) _;rw[hsz];simpa using h
 | succ k ih=>
  intro i hk A R s hl hb he h;obtain⟨hp,g,d,tk,os⟩:=s
  wp_walk using AG hl,AG hb
  have lt1:i<items.size:=by omega
  have KP:i<items2.size:=by omega
  have o1:items[((i:Nat):Int).toNat]?=some items[i]:=by simp[lt1]
  have o2:items2[((i:Nat):Int).toNat]?=some items2[i]:=by simp[KP]
  have hc:((i:Int)+1)=((i+1:Nat):Int):=by push_cast;rfl
  rw[o1,o2];refine Aa (he i lt1 KP _ _ ?_)
  wp_walk
  rw[hc];exact⟨Bi plain_eq_loop _,Be entry_eq_loop (by rw[AO plain_eq_loop _];exact ih (i+1) (by omega) A R _ hl hb he h)⟩
theorem UB(l b:Addr)(items items2:Array Value)(n n2:Nat)(dd dd2:Option Addr)(sl sl2:Array (Option Value))(hsz:items.size=items2.size)(A:Bu)(R:Result→Shared→Prop)(s:Shared)
 (hl:s.heap.get? l=some {cls:= .type "list",dict:=dd,data:= .seq items n,slots:=sl}) (hb:s.heap.get? b=some {cls:= .type "list",dict:=dd2,data:= .seq items2 n2,slots:=sl2})
 (he:∀j(h1:j<items.size)(h2:j<items2.size),EqIn P w A.in1 s items[j] items2[j]) (h:R (.ok (.ret (.bool true))) s):
 wpAny (model P w) A.in1 (Builtin.«list.__eq__» ⟨[.ref l,.ref b],[]⟩) (λfin s'=>match fin with | .done f=>R (.ok f) s' | .again c'=>c'.quiet=true∧codeAny (model P w) A c' R s') (λe s'=>R (.error e) s') s:=by
 obtain⟨hp,g,d,tk,os⟩:=s;have f3:=DW;have hne:¬(items.size !=items2.size)=true:=by simp[hsz]
 wp_walk using AG hl,AG hb
 exact⟨Bi plain_eq_loop _,Be entry_eq_loop (by rw[AO plain_eq_loop _];exact Ya l b items items2 n n2 dd dd2 sl sl2 hsz _ 0 rfl A R _ hl hb he h)⟩
theorem OL{l:Addr}{items items2:Array Value}{E:Value→Shared→Prop}{Q:Value→Shared→Prop}(hl:s.heap.IsList l items)(hb:s.heap.IsList b items2)(hsz:items.size=items2.size)(hu:A.units<cLine)
 (he:∀j(h1:j<items.size)(h2:j<items2.size),EqIn P w A.in1 s items[j] items2[j]) (h:Q (.bool true) s):wpAny (model P w) A (richCompare .Eq (.ref l) (.ref b)) Q E s:=by
 obtain⟨⟨c1,dd,data,sl⟩,ho,hc,n,hd⟩:=id hl;obtain⟨⟨c2,dd2,data2,sl2⟩,ho2,hc2,n2,hd2⟩:=id hb;simp only at hc hd hc2 hd2;subst hc hd hc2 hd2;refine Ca (op:= .Eq) ⟨_,ho,rfl⟩ ⟨_,ho2,rfl⟩ F.slot_list_eq ?_ hu;refine Ek (Da F.slot_list_eq.plain F.entry_list_eq (F.slot_list_eq.check _ _ _ _ _ _ _ _ ⟨_,ho,rfl⟩ (F.args_list_eq_2 _ _) ?_));exact UB l b items items2 n n2 dd dd2 sl sl2 hsz A (wants (λv s'=>v≠ .notImplemented∧Q v s') E) s ho ho2 he (show Value.bool true≠Value.notImplemented∧Q (.bool true) s from⟨(λx=>nomatch x),h⟩)
theorem RJ{l:Addr}{items items2:Array Value}{E:Value→Shared→Prop}{Q:Value→Shared→Prop}(hl:s.heap.IsTuple l items)(hb:s.heap.IsTuple b items2)(hsz:items.size=items2.size)(hu:A.units<cLine)
 (he:∀j(h1:j<items.size)(h2:j<items2.size),EqIn P w A.in1 s items[j] items2[j]) (h:Q (.bool true) s):wpAny (model P w) A (richCompare .Eq (.ref l) (.ref b)) Q E s:=by
 obtain⟨⟨c1,dd,data,sl⟩,ho,hc,n,hd⟩:=id hl;obtain⟨⟨c2,dd2,data2,sl2⟩,ho2,hc2,n2,hd2⟩:=id hb;simp only at hc hd hc2 hd2;subst hc hd hc2 hd2;refine Ca (op:= .Eq) ⟨_,ho,rfl⟩ ⟨_,ho2,rfl⟩ F.slot_tuple_eq (AV F.slot_tuple_eq ⟨_,ho,rfl⟩ F.entry_tuple_eq ?_ (F.args_tuple_eq_2 _ _)) hu;obtain⟨hp,g,d,tk,os⟩:=s;have f2:=Fm;have hZ:(items.toList.zip items2.toList).length=items.size:=by simp[hsz]
 wp_walk using AG ho,AG ho2,Fn _ (λrest b s'=>b.1=none∧s'=⟨hp,g,d,tk,os⟩∧∃i,rest=(items.toList.zip items2.toList).drop i) _
 case turn=>
  rintro⟨y,x⟩ rest b s' ⟨hb',rfl,i,hz⟩;have lt0:i<(items.toList.zip items2.toList).length:=by
   rcases CT i (items.toList.zip items2.toList).length with h' | h'
   · exact h'
   · rw[DZ h'] at hz;cases hz
  have h1:i<items.size:=hZ ▸ lt0;have h2:i<items2.size:=hsz ▸ h1;rw[Ba lt0] at hz;injection hz with hyx hrest
  have hy:y=items[i]:=by have:=congrArg Prod.fst hyx;simpa using this
  have hx:x=items2[i]:=by have:=congrArg Prod.snd hyx;simpa using this
  subst hy hx;refine Aa (he i h1 h2 _ _ ?_)
  wp_walk
  exact⟨rfl,rfl,i+1,hrest⟩
 case fin=>
  rintro⟨b1,b2⟩ s' ⟨hb',rfl,i,hz⟩;simp only at hb';subst hb'
  wp_walk
  refine⟨_,rfl,?_⟩;have e:CB .Eq items.size items2.size=Value.bool true:=by simp[CB,hsz]
  first | (rw[e];exact⟨(λx=>nomatch x),h⟩) | (simpa [CB,hsz] using h)
 case h=>exact⟨rfl,rfl,0,rfl⟩
open PySem PySem.Spec PyProof.Rows PySem.Calls
section
variable{κ:Type}[DecidableEq κ]{knd:KeyKind P w κ}
theorem Yo{nm:String}{ka kb:List (κ×Value)}{Q:Bool→Shared→Prop}(ha:(a==BU)=false)(hb:(b==BU)=false)
 (da:s.heap.DictOf knd a ka) (db:s.heap.DictOf knd b kb) (hlen:ka.length=kb.length) (hits:∀(i:Nat)(k:κ)(v:Value),ka[i]?=some (k,v)→∃y,valueAt kb k=some y∧EqIn P w A s v y) (h:Q true s):
 wpAny (model P w) A (FE nm a b) Q E s:=by
 obtain⟨o1,m1,p1,g1,_,d1,q1,z1,_⟩:=da;obtain⟨o2,m2,p2,g2,_,d2,q2,z2,_⟩:=db;have n1:ka.length=m1.size:=by rw[←z1.length];exact AC
 have n2:kb.length=m2.size:=by rw[←z2.length];exact AC
 have look:∀k,findBy knd.is m2 k=valueAt kb k:=λk=>by rw[←z2.find k];clear n2 z2 q2 d2 g2;obtain⟨l⟩:=m2;simp[findBy]
 have same:m1.size=m2.size:=by omega
 unfold FE Builtin.Dict.showsAll;rw[if_neg (by rw[ha];exact AA),if_neg (by rw[hb];exact AA)];refine Aa (Ac (Aa (Ac (Aa (DR g1 d1 ?_)))));dsimp only;refine Aa (DR g2 d2 ?_);rw[if_neg (by rw[same];simp)];refine Aa (wpAny_dictEpoch g1 d1 (Aa ?_));rw[Std.Legacy.Range.forIn_eq_forIn_range'];simp only[Std.Legacy.Range.size,Nat.sub_zero,Nat.add_sub_cancel,Nat.div_one];refine Fn _ (λrest q s'=>s'=s∧q=(none,())∧∃i,rest=List.range' i (m1.size - i)∧i≤m1.size) _ ?_ ?_ _ _ ⟨rfl,rfl,0,by simp,AQ _⟩
 · rintro x rest q s' ⟨rfl,rfl,i,hr,hi⟩;have lt0:i<m1.size:=by
    rcases CT i m1.size with z | z
    · exact z
    · rw[Nat.sub_eq_zero_of_le z] at hr;simp at hr
   obtain⟨rfl,ht⟩:x=i∧rest=List.range' (i+1) (m1.size - (i+1)):=by
    have e:m1.size - i=(m1.size - (i+1))+1:=by omega
    rw[e,List.range'_succ] at hr;injection hr with z1 z2
    exact⟨z1,z2⟩
   refine Aa (DR g1 d1 ?_);rw[Bq lt0];have lt1:x<ka.length:=by omega
   obtain⟨k,v,kv⟩:∃k v,ka[x]=(k,v):=⟨_,_,rfl⟩;have kv':ka[x]?=some (k,v):=by rw[Ak lt1,kv]
   obtain⟨hkey,hval⟩:=z1.get? (i:=x) (e:=m1[x]) (k:=k) (v:=v) (by rw[Cm];exact Bq lt0) kv';obtain⟨k',hk',hh⟩:=q1 m1[x] (Array.getElem_mem lt0);have ekk:k'=k:=knd.inj _ _ _ hk' hkey;rw[ekk] at hh;obtain⟨y,hy,he⟩:=hits x k v kv';show wpAny _ _ (holding [m1[x].key,m1[x].val] _>>=_) _ _ _;rw[hh];refine Aa (AT (Aa (wpAny_dictFind_of hkey g2 d2 q2 ?_)));cases hj:m2.findIdx? λe=>knd.is k e.key with
   | none=>
    have:valueAt kb k=none:=by rw[←look k,findBy_of_findIdx?,hj]
    rw[this] at hy;cases hy
   | some j=>
    obtain⟨jlt,_,_⟩:=Array.findIdx?_eq_some_iff_getElem.mp hj;have hv':valueAt kb k=some m2[j].val:=by rw[←look k,findBy_of_findIdx?,hj];simp[Bq jlt]
    refine Aa (DR g2 d2 ?_);rw[Bq jlt];have ey:m2[j].val=y:=A5 (hv'.symm.trans hy);rw[←ey,←hval] at he;refine AT (he _ _ ?_);show wpAny _ _ (if(!true)=true then _ else _) _ _ _
    rw[if_neg (by decide)];refine Aa (wpAny_dictEpoch g1 d1 ?_);rw[if_neg (by simp)];exact Ac ⟨rfl,rfl,x+1,ht,lt0⟩
 · rintro q s' ⟨rfl,rfl,i,hr,hi⟩;exact Ac h
theorem Nx{ka kb:List (κ×Value)}{Q:Value→Shared→Prop}(ha:(a==BU)=false)(hb:(b==BU)=false)
 (da:s.heap.DictOf knd a ka) (db:s.heap.DictOf knd b kb) (hu:A.units<cLine) (hlen:ka.length=kb.length) (hits:∀(i:Nat)(k:κ)(v:Value),ka[i]?=some (k,v)→∃y,valueAt kb k=some y∧EqIn P w A.in1 s v y) (h:Q (.bool true) s):
 wpAny (model P w) A (richCompare .Eq (.ref a) (.ref b)) Q E s:=by
 refine Ca (op:= .Eq) da.typeIs db.typeIs F_ (AV F_ da.typeIs PySem.F.entry_dict_eq ?_ (PySem.F.args_dict_eq_2 _ _)) hu;show wpAny _ _ (Fc "__eq__" ⟨[.ref a,.ref b],[]⟩>>=_) _ _ s;unfold Fc;refine Aa (Aa (wpAny_notOrdered_dict da.typeIs ?_));show wpAny _ _ (pure (Value.ref a,Value.ref b)) _ _ s;refine Ac (Aa (De (T:="dict") db.typeIs PySem.F.sub_dict_dict ?_));simp only[Bool.not_true,By,if_false];refine Aa (Ac (Aa (Ac (Aa (Yo ha hb da db hlen hits ?_)))));exact Ac ⟨_,rfl,(λx=>nomatch x),by simpa using h⟩
end
inductive DY where
 | non
 | bl (b:Bool)
 | int (i:Int)
 | str (x:Str)
 | lst (ds:List DY)
 | tup (ds:List DY)
 | dic
 | da (d:DY)
mutual
def RepY(H:Hp):DY→V→Prop
 | .non,v=>v= .non
 | .bl b,v=>v= .bl b
 | .int i,v=>v= .int i
 | .str x,v=>v= .str x∧x.length≤900
 | .lst ds,v=>∃a xs,v= .ref a∧H a=some (.lst xs)∧ds.length≤900∧RepYs H ds xs
 | .tup ds,v=>∃a xs,v= .ref a∧H a=some (.tup xs)∧ds.length≤900∧RepYs H ds xs
 | .dic,v=>∃a,v= .ref a∧H a=some (.dK [])
 | .da d,v=>∃a u,v= .ref a∧H a=some (.dK [(.inr "a",u)])∧RepY H d u
def RepYs(H:Hp):List DY→List V→Prop
 | [],xs=>xs=[]
 | d::ds,xs=>∃x r,xs=x::r∧RepY H d x∧RepYs H ds r
end
mutual
theorem RepY.same{H':Hp}(s:Same H H'):∀(d:DY){v:V},RepY H d v→RepY H' d v
 | .non,v,h=>by rw[RepY] at*;exact h
 | .bl b,v,h=>by rw[RepY] at*;exact h
 | .int i,v,h=>by rw[RepY] at*;exact h
 | .str x,v,h=>by rw[RepY] at*;exact h
 | .lst ds,v,h=>by rw[RepY] at*;obtain⟨a,xs,e,h1,h0,h2⟩:=h;exact⟨a,xs,e,s _ _ h1,h0,RepYs.same s ds h2⟩
 | .tup ds,v,h=>by rw[RepY] at*;obtain⟨a,xs,e,h1,h0,h2⟩:=h;exact⟨a,xs,e,s _ _ h1,h0,RepYs.same s ds h2⟩
 | .dic,v,h=>by rw[RepY] at*;obtain⟨a,e,h1⟩:=h;exact⟨a,e,s _ _ h1⟩
 | .da d,v,h=>by rw[RepY] at*;obtain⟨a,u,e,h1,h2⟩:=h;exact⟨a,u,e,s _ _ h1,RepY.same s d h2⟩
theorem RepYs.same{H':Hp}(s:Same H H'):∀(ds:List DY){xs:List V},RepYs H ds xs→RepYs H' ds xs
 | [],xs,h=>by rw[RepYs] at*;exact h
 | d::ds,xs,h=>by rw[RepYs] at*;obtain⟨x,r,e,h1,h2⟩:=h;exact⟨x,r,e,RepY.same s d h1,RepYs.same s ds h2⟩
end
theorem RepYs.length:∀{ds:List DY}{xs:List V},RepYs H ds xs→xs.length=ds.length
 | [],xs,h=>by rw[RepYs] at h;rw[h];rfl
 | d::ds,xs,h=>by rw[RepYs] at h;obtain⟨x,r,rfl,_,h⟩:=h;rw[AF,AF,RepYs.length h]
theorem RepYs.get:∀{ds:List DY}{xs:List V}{i:Nat}{x:V},RepYs H ds xs→xs[i]?=some x→∃d,ds[i]?=some d∧RepY H d x
 | [],xs,i,x,h,e=>by rw[RepYs] at h;subst h;simp at e
 | d::ds,xs,0,x,h,e=>by rw[RepYs] at h;obtain⟨y,r,rfl,h1,h2⟩:=h;simp at e;subst e;exact⟨d,rfl,h1⟩
 | d::ds,xs,i+1,x,h,e=>by rw[RepYs] at h;obtain⟨y,r,rfl,h1,h2⟩:=h;simp at e;obtain⟨d',e1,e2⟩:=RepYs.get h2 e;exact⟨d',by simpa using e1,e2⟩
mutual
def IA:DY→Nat
 | .lst ds=>JF ds+1
 | .tup ds=>JF ds+1
 | .da d=>IA d+1
 | _=>0
def JF:List DY→Nat
 | []=>0
 | d::ds=>max (IA d) (JF ds)
end
theorem N5{l:Addr}(h:∀(E:Value→Shared→Prop)(Q:Value→Shared→Prop),Q (.bool true) s→wpAny (model P w) A (richCompare .Eq (.ref l) (.ref b)) Q E s):EqIn P w A s (.ref l) (.ref b):=λE Q hq=>by
 by_cases e:l=b
 · subst e;exact D8 (.ref l) P w E Q hq
 · unfold eqBool;refine AT ?_;refine wpAny_ite_split (λhab=>absurd (by have:=eq_of_beq hab;injection this) e) (λ_=>?_);exact Aa (h E _ (Bp hq))
mutual
theorem OM(I:Inv X pins σ H s):∀(A:Bu)(d:DY)(v v':V)(u u':Value),RepY H d v→RepY H d v'→RelV v u→RelV v' u'→A.units+IA d<cLine→EqIn X.prog X.w A s u u'
 | A,.non,v,v',u,u',h,h',r,r',z=>by rw[RepY] at h h';subst h h';exact EqIn.of (Md I A .non .non _ _ _ _ (by rw[Rep]) (by rw[Rep]) r r' (show A.units+0<cLine by omega))
 | A,.bl b,v,v',u,u',h,h',r,r',z=>by rw[RepY] at h h';subst h h';have:=Md I A (.bl b) (.bl b) _ _ _ _ (by rw[Rep]) (by rw[Rep]) r r' (show A.units+0<cLine by omega);rw[KH] at this;exact EqIn.of this
 | A,.int b,v,v',u,u',h,h',r,r',z=>by rw[RepY] at h h';subst h h';have:=Md I A (.int b) (.int b) _ _ _ _ (by rw[Rep]) (by rw[Rep]) r r' (show A.units+0<cLine by omega);rw[KH] at this;exact EqIn.of this
 | A,.str b,v,v',u,u',h,h',r,r',z=>by rw[RepY] at h h';obtain⟨rfl,_⟩:=h;obtain⟨rfl,_⟩:=h';have:=Md I A (.str b) (.str b) _ _ _ _ (by rw[Rep]) (by rw[Rep]) r r' (show A.units+0<cLine by omega);rw[KH] at this;exact EqIn.of this
 | A,.lst ds,v,v',u,u',h,h',r,r',z=>by rw[RepY] at h h';obtain⟨a,xs,rfl,h1,_,h2⟩:=h;obtain⟨a',xs',rfl,h1',_,h2'⟩:=h';cases(show u=Value.ref a from r);cases(show u'=Value.ref a' from r');obtain⟨_,its,n,rv,hg⟩:=(show ObjOk X.prog X.w H s.heap a (.lst xs) from I.hok a _ h1);obtain⟨_,its',n',rv',hg'⟩:=(show ObjOk X.prog X.w H s.heap a' (.lst xs') from I.hok a' _ h1');have l1:=h2.length;have l2:=h2'.length;have l3:=rv.length;have l4:=rv'.length;rw[IA] at z;refine N5 λE Q q=>OL ⟨_,hg,rfl,_,rfl⟩ ⟨_,hg',rfl,_,rfl⟩ (by simp only[Au];omega) (by omega) (λj k1 k2=>?_) q;have:=MA I A.in1 ds xs xs' its its' h2 h2' rv rv' (by rw[Bs];omega) j (by simpa using k1) (by simpa using k2);simpa using this
 | A,.tup ds,v,v',u,u',h,h',r,r',z=>by rw[RepY] at h h';obtain⟨a,xs,rfl,h1,_,h2⟩:=h;obtain⟨a',xs',rfl,h1',_,h2'⟩:=h';cases(show u=Value.ref a from r);cases(show u'=Value.ref a' from r');obtain⟨_,its,rv,o,hg,hc,_,n,hd⟩:=(show ObjOk X.prog X.w H s.heap a (.tup xs) from I.hok a _ h1);obtain⟨_,its',rv',o',hg',hc',_,n',hd'⟩:=(show ObjOk X.prog X.w H s.heap a' (.tup xs') from I.hok a' _ h1');have l1:=h2.length;have l2:=h2'.length;have l3:=rv.length;have l4:=rv'.length;rw[IA] at z;refine N5 λE Q q=>RJ ⟨_,hg,hc,_,hd⟩ ⟨_,hg',hc',_,hd'⟩ (by simp only[Au];omega) (by omega) (λj k1 k2=>?_) q;have:=MA I A.in1 ds xs xs' its its' h2 h2' rv rv' (by rw[Bs];omega) j (by simpa using k1) (by simpa using k2);simpa using this
 | A,.dic,v,v',u,u',h,h',r,r',z=>by rw[RepY] at h h';obtain⟨a,rfl,h1⟩:=h;obtain⟨a',rfl,h1'⟩:=h';cases(show u=Value.ref a from r);cases(show u'=Value.ref a' from r');obtain⟨_,hS,vs,rk,dd⟩:=Kg I.hok h1;obtain⟨_,hS',vs',rk',dd'⟩:=Kg I.hok h1';cases rk;cases rk';exact N5 λE Q q=>Nx hS hS' dd dd' (by omega) rfl (λi k v e=>by simp at e) q
 | A,.da d,v,v',u,u',h,h',r,r',z=>by
  rw[RepY] at h h';obtain⟨a,y,rfl,h1,h2⟩:=h;obtain⟨a',y',rfl,h1',h2'⟩:=h';cases(show u=Value.ref a from r);cases(show u'=Value.ref a' from r');obtain⟨_,hS,vs,rk,dd⟩:=Kg I.hok h1;obtain⟨_,hS',vs',rk',dd'⟩:=Kg I.hok h1';rw[IA] at z;have l1:1=vs.length:=KV.length rk;have l2:1=vs'.length:=KV.length rk';refine N5 λE Q q=>Nx hS hS' dd dd' (by omega) (by omega) (λi k w e=>?_) q;cases rk with
  | cons p1 p2=>
   cases p2;cases rk' with
   | cons p1' p2'=>
    cases p2';rename_i kw kw';obtain⟨k0,w0⟩:=kw;obtain⟨k0',w0'⟩:=kw';obtain⟨e1,r1⟩:=p1;obtain⟨e1',r1'⟩:=p1';dsimp only at e1 e1' r1 r1';subst e1 e1';cases i with
    | succ i=>simp at e
    | zero=> simp at e;obtain⟨rfl,rfl⟩:=e;refine⟨w0',by simp[valueAt],OM I A.in1 d y y' w0 w0' h2 h2' r1 r1' (by rw[Bs];omega)⟩
theorem MA(I:Inv X pins σ H s):∀(A:Bu)(ds:List DY)(vs ws:List V)(us ys:List Value),RepYs H ds vs→RepYs H ds ws→Vals vs us→Vals ws ys→A.units+JF ds<cLine→
 ∀(j:Nat)(h1:j<us.length)(h2:j<ys.length),EqIn X.prog X.w A s us[j] ys[j]
 | A,[],vs,ws,us,ys,h,h',r,r',z=>by rw[RepYs] at h;subst h;cases r;intro j h1;simp at h1
 | A,d::ds,vs,ws,us,ys,h,h',r,r',z=>by
  rw[RepYs] at h h';obtain⟨x,q,rfl,g1,g2⟩:=h;obtain⟨x',q',rfl,g1',g2'⟩:=h';rw[JF] at z;cases r with
  | cons r1 r2=>
   cases r' with
   | cons r1' r2'=>
    intro j h1 h2;cases j with
    | zero=>exact OM I A d x x' _ _ g1 g1' r1 r1' (by omega)
    | succ j=>exact MA I A ds q q' _ _ g2 g2' r2 r2' (by omega) j (by simpa using h1) (by simpa using h2)
end
theorem Wn(I:Inv X pins σ H s)(A:Bu)(d:DY)(v v':V)(u u':Value)(h:RepY H d v)(h':RepY H d v')(r:RelV v u)(r':RelV v' u')(z:A.units+IA d<cLine){E:Value→Shared→Prop}{Q:Value→Shared→Prop}(q:Q (.bool true) s):
 wpAny (model X.prog X.w) A (richCompare .Eq u u') Q E s:=by
 cases d with
 | non=> rw[RepY] at h h';subst h h';exact NC I A .non .non _ _ _ _ (by rw[Rep]) (by rw[Rep]) r r' (show A.units+0<cLine by omega) X.prog X.w _ _ q
 | bl b=> rw[RepY] at h h';subst h h';have:=NC I A (.bl b) (.bl b) _ _ _ _ (by rw[Rep]) (by rw[Rep]) r r' (show A.units+0<cLine by omega);rw[KH] at this;exact this X.prog X.w _ _ q
 | int b=> rw[RepY] at h h';subst h h';have:=NC I A (.int b) (.int b) _ _ _ _ (by rw[Rep]) (by rw[Rep]) r r' (show A.units+0<cLine by omega);rw[KH] at this;exact this X.prog X.w _ _ q
 | str b=> rw[RepY] at h h';obtain⟨rfl,_⟩:=h;obtain⟨rfl,_⟩:=h';have:=NC I A (.str b) (.str b) _ _ _ _ (by rw[Rep]) (by rw[Rep]) r r' (show A.units+0<cLine by omega);rw[KH] at this;exact this X.prog X.w _ _ q
 | lst ds=> rw[RepY] at h h';obtain⟨a,xs,rfl,h1,_,h2⟩:=h;obtain⟨a',xs',rfl,h1',_,h2'⟩:=h';cases(show u=Value.ref a from r);cases(show u'=Value.ref a' from r');obtain⟨_,its,n,rv,hg⟩:=(show ObjOk X.prog X.w H s.heap a (.lst xs) from I.hok a _ h1);obtain⟨_,its',n',rv',hg'⟩:=(show ObjOk X.prog X.w H s.heap a' (.lst xs') from I.hok a' _ h1');have l1:=h2.length;have l2:=h2'.length;have l3:=rv.length;have l4:=rv'.length;rw[IA] at z;refine OL ⟨_,hg,rfl,_,rfl⟩ ⟨_,hg',rfl,_,rfl⟩ (by simp only[Au];omega) (by omega) (λj k1 k2=>?_) q;have:=MA I A.in1 ds xs xs' its its' h2 h2' rv rv' (by rw[Bs];omega) j (by simpa using k1) (by simpa using k2);simpa using this
 | tup ds=> rw[RepY] at h h';obtain⟨a,xs,rfl,h1,_,h2⟩:=h;obtain⟨a',xs',rfl,h1',_,h2'⟩:=h';cases(show u=Value.ref a from r);cases(show u'=Value.ref a' from r');obtain⟨_,its,rv,o,hg,hc,_,n,hd⟩:=(show ObjOk X.prog X.w H s.heap a (.tup xs) from I.hok a _ h1);obtain⟨_,its',rv',o',hg',hc',_,n',hd'⟩:=(show ObjOk X.prog X.w H s.heap a' (.tup xs') from I.hok a' _ h1');have l1:=h2.length;have l2:=h2'.length;have l3:=rv.length;have l4:=rv'.length;rw[IA] at z;refine RJ ⟨_,hg,hc,_,hd⟩ ⟨_,hg',hc',_,hd'⟩ (by simp only[Au];omega) (by omega) (λj k1 k2=>?_) q;have:=MA I A.in1 ds xs xs' its its' h2 h2' rv rv' (by rw[Bs];omega) j (by simpa using k1) (by simpa using k2);simpa using this
 | dic=> rw[RepY] at h h';obtain⟨a,rfl,h1⟩:=h;obtain⟨a',rfl,h1'⟩:=h';cases(show u=Value.ref a from r);cases(show u'=Value.ref a' from r');obtain⟨_,hS,vs,rk,dd⟩:=Kg I.hok h1;obtain⟨_,hS',vs',rk',dd'⟩:=Kg I.hok h1';cases rk;cases rk';exact Nx hS hS' dd dd' (by omega) rfl (λi k v e=>by simp at e) q
 | da d=>
  rw[RepY] at h h';obtain⟨a,y,rfl,h1,h2⟩:=h;obtain⟨a',y',rfl,h1',h2'⟩:=h';cases(show u=Value.ref a from r);cases(show u'=Value.ref a' from r');obtain⟨_,hS,vs,rk,dd⟩:=Kg I.hok h1;obtain⟨_,hS',vs',rk',dd'⟩:=Kg I.hok h1';rw[IA] at z;have l1:1=vs.length:=KV.length rk;have l2:1=vs'.length:=KV.length rk';refine Nx hS hS' dd dd' (by omega) (by omega) (λi k w e=>?_) q;cases rk with
  | cons p1 p2=>
   cases p2;cases rk' with
   | cons p1' p2'=>
    cases p2';rename_i kw kw';obtain⟨k0,w0⟩:=kw;obtain⟨k0',w0'⟩:=kw';obtain⟨e1,r1⟩:=p1;obtain⟨e1',r1'⟩:=p1';dsimp only at e1 e1' r1 r1';subst e1 e1';cases i with
    | succ i=>simp at e
    | zero=> simp at e;obtain⟨rfl,rfl⟩:=e;refine⟨w0',by simp[valueAt],OM I A.in1 d y y' w0 w0' h2 h2' r1 r1' (by rw[Bs];omega)⟩
def Qe:R2:=λx y H Q=>∃d,RepY H d x∧RepY H d y∧IA d<60∧Q (.bl true) H
theorem UO(hr:La X):Iu X (BH .Eq) Qe:=by intro pins s σ H x y v u Q I rx ry h;obtain⟨d,h1,h2,h3,q⟩:=h;unfold La at hr;exact Wn I X.A d x y v u h1 h2 rx ry (by omega) ⟨.bl true,H,I,rfl,q⟩
theorem Tq:J9 X (.builtin "isinstance") (λxs H Q=>∃x t tp cs b,xs=[x,.ref tp]∧TyOf X.K H x (.type t)∧H tp=some (.tup cs)∧cs.all O0=true∧PySem.W.kitAny X.K (.type t) (cs.map KZ)=some b∧Q (.bl b) H):=by
 intro pins s σ H xs us Q I r h;obtain⟨x,t,tp,cs,b,rfl,ty,ht,hc,e,q⟩:=h;obtain⟨u,w',rfl,ru,rw'⟩:=Mt r;cases(show w'=Value.ref tp from rw');obtain⟨_,its,rv,o,h1,h2,h3,n,h4⟩:=(show ObjOk X.prog X.w H s.heap tp (.tup cs) from I.hok tp _ ht);obtain⟨oc,od,oda,osl⟩:=o;dsimp only at h2 h3 h4;subst h2 h3 h4;have hi:its=cs.map KZ:=Sh hc rv;subst hi;have fin:∀tk,EP X pins σ Q (.bool b) {s with toks:=tk}:=λtk=>⟨.bl b,H,I.tok tk,rfl,q⟩
 generalize ht':(Value.type t)=T at ty e;cases ty with
 | non=>cases(show u=Value.none from ru);exact Ci PySem.W.kitx_none I.kIn True.intro h1 e (λz=>nomatch z) fin
 | bl y=>cases(show u=Value.bool y from ru);exact Ci PySem.W.kitx_bool I.kIn True.intro h1 e (λz=>nomatch z) fin
 | int i=>obtain⟨t,q⟩:=(show ∃t,u=Value.int i t from ru);cases q;exact Ci PySem.W.kitx_int I.kIn True.intro h1 e (λz=>nomatch z) fin
 | str y=>obtain⟨t,q⟩:=(show ∃t,u=Value.str y t from ru);cases q;exact Ci PySem.W.kitx_str I.kIn True.intro h1 e (λz=>nomatch z) fin
 | flt y=>obtain⟨t,q⟩:=(show ∃t,u=Value.float y t from ru);cases q;exact Ci PySem.W.kitx_float I.kIn True.intro h1 e (λz=>nomatch z) fin
 | @lst a xs ea=> cases(show u=Value.ref a from ru);obtain⟨_,_,n,_,g1⟩:=(show ObjOk X.prog X.w H s.heap a (.lst xs) from I.hok a _ ea);exact Ci DO I.kIn ⟨_,g1,rfl⟩ h1 e (λz=>nomatch z) fin
 | @tup a xs ea=> cases(show u=Value.ref a from ru);obtain⟨_,_,_,o,g1,g2,_⟩:=(show ObjOk X.prog X.w H s.heap a (.tup xs) from I.hok a _ ea);exact Ci PySem.W.kitx_tuple I.kIn ⟨o,g1,g2⟩ h1 e (λz=>nomatch z) fin
 | @dK a kvs ea=> cases(show u=Value.ref a from ru);obtain⟨_,_,vs,_,p⟩:=(show ObjOk X.prog X.w H s.heap a (.dK kvs) from I.hok a _ ea);obtain⟨o,es,ep,g1,g2,_⟩:=p;exact Ci DP I.kIn ⟨o,g1,g2.1⟩ h1 e (λz=>nomatch z) fin
 | @frz a ob xs ea=> cases(show u=Value.ref a from ru);obtain⟨_,_,_,n,_,g1⟩:=(show ObjOk X.prog X.w H s.heap a (.frz ob (.lst xs)) from I.hok a _ ea);exact Ci DO I.kIn ⟨_,g1,rfl⟩ h1 e (λz=>nomatch z) fin
 | @dT a kvs ea=> cases(show u=Value.ref a from ru);obtain⟨_,_,xs,_,o,es,ep,g1,g2,_⟩:=(show ObjOk X.prog X.w H s.heap a (.dT kvs) from I.hok a _ ea);exact Ci DP I.kIn ⟨o,g1,g2.1⟩ h1 e (λz=>nomatch z) fin
 | ins=>cases ht'
def Mn(b g:Addr)(H:Hp):Hp:=λa=>if a=b∨a=g then none else H a
def O3(D:Nat)(sp:Nat→Sp):Sp:=λvs H Q E=>∃n,n≤D∧sp n vs H Q E
section
variable{K:Ae}{mg:Str→Option Value}{base:Heap}
def Ui:Sp:=λ_ _ _ _=>False
theorem QU{st:Stmt}{f:Addr}{fd:BG}{N ps:List Str}(F:Fun K x x st f fd)(S:FnScope N ps (HI st))(b:Binds K fd ps [])(M:mg x=some (.ref f))(L:Nat)(sp:Nat→Sp)
 (step:∀n sp0,(∀m,n=m+1→sp0=sp m)→Ip P w K mg base (L+1+n) x ps sp0→FnOk P w K mg base HY (L+1+n+1) f fd ps (sp n)):∀n,FnOk P w K mg base HY (L+1+n+1) f fd ps (sp n)
 | 0=>step 0 Ui (λm z=>by cases z) ⟨f,fd,F.ok (k:=L) S (λ_ _ _ _ h=>h.elim) (λ_ _ _ _ _ _ _ _ _ h=>h.elim),b,F.kp,M⟩
 | n+1=>step (n+1) (sp n) (λm z=>by cases z;rfl) ⟨f,fd,QU F S b M L sp step n,b,F.kp,M⟩
theorem Vy{f:Addr}{fd:BG}{ps:List Str}{L D:Nat}{sp:Nat→Sp}(h:∀n,FnOk P w K mg base HY (L+1+n+1) f fd ps (sp n)):FnOk P w K mg base HY (L+D+2) f fd ps (O3 D sp):=
 ⟨λvs H Q E ⟨n,_,q⟩=>(h n).len vs H Q E q,λA outer s H args us vs Q E hr he hb hv ⟨n,hn,q⟩=>(h n).run A outer s H args us vs Q E (hr.mono (by omega)) he hb hv q⟩
end
def MO(K:Ae):R2:=λx y H Q=>∃p xs i v,x= .ref p∧y= .int i∧(SqL K H p xs∨SqT K H p xs)∧IS xs i=some v∧Q v H
theorem UD:LQ X (MO X.K):=by
 intro value slice pins s σ H x y v u Q I rx ry h hs;obtain⟨p,xs,i,z,rfl,rfl,hq,he,q⟩:=h;rcases hq with hq | hq
 · exact ID value slice pins s σ H _ _ v u Q I rx ry ⟨p,xs,i,z,rfl,rfl,hq,he,q⟩ hs
 · exact Jg value slice pins s σ H _ _ v u Q I rx ry ⟨p,xs,i,z,rfl,rfl,hq,he,q⟩ hs
theorem R0(K:Ae)(h:X.K=K):LQ X (MO K):=by subst h;exact UD
def eD:Option Int→DY
 | none=> .non
 | some i=> .int i
theorem Rs(H:Hp)(o:Option Int):RepY H (eD o) (eV o):=by
 cases o with
 | none=>show RepY H .non .non;rw[RepY]
 | some i=>show RepY H (.int i) (.int i);rw[RepY]
theorem Wr(o:Option Int):IA (eD o)=0:=by cases o<;>rfl
theorem RepYs.nil:RepYs H [] []:=by rw[RepYs]
theorem RepYs.cons{d:DY}{ds:List DY}{x:V}(h:RepY H d x)(hs:RepYs H ds xs):RepYs H (d::ds) (x::xs):=by rw[RepYs];exact⟨x,xs,rfl,h,hs⟩
theorem Vl{ds:List DY}(h:H a=some (.lst xs))(hs:RepYs H ds xs)(hl:xs.length≤900):RepY H (.lst ds) (.ref a):=by rw[RepY];exact⟨a,xs,rfl,h,by rw[←hs.length];exact hl,hs⟩
theorem Ny{ds:List DY}(h:H a=some (.tup xs))(hs:RepYs H ds xs)(hl:xs.length≤900):RepY H (.tup ds) (.ref a):=by rw[RepY];exact⟨a,xs,rfl,h,by rw[←hs.length];exact hl,hs⟩
theorem NN:∀{ds:List DY}{m:Nat},(∀d∈ds,IA d≤m)→JF ds≤m
 | [],m,_=>by rw[JF];exact AQ _
 | d::ds,m,h=>by rw[JF];have h1:=h d (Az ..);have h2:=NN λe he=>h e (AE _ he);omega
theorem Pm:∀{ds:List DY}{d:DY},d∈ds→IA d≤JF ds
 | [],d,h=>nomatch h
 | e::ds,d,h=>by
  rw[JF];rcases As.mp h with rfl | h
  · omega
  · have:=Pm h;omega
theorem QL{a b:Option Int}(h:eV a=eV b):a=b:=by cases a<;>cases b<;>simp[eV] at h ⊢;exact h
theorem JL{t u:TS}{D:Ends}(M:St→Hp→Prop)(h1:∀Z:St→Hp→Prop,(∀σ' H',M σ' H'→Z σ' H')→t {D with nx:=Z} σ H)(h2:∀σ' H',M σ' H'→u D σ' H'):LH t u D σ H:=h1 (u D) h2
theorem Kp{v:V}{Q:St→Hp→Prop}(h:Q (σ.set i (some v)) H):JA i v σ H Q:=h
structure WsAt(H:Hp)(l:Addr)(ws:List (Addr×List WP)):Prop where
 at':H l=some (.lst (ws.map λx=>V.ref x.1))
 ok:∀x∈ws,WishAt H x.1 x.2∧WOk x.2
 len:ws.length≤800
theorem WsAt.same{H':Hp}{l:Addr}{ws:List (Addr×List WP)}(h:WsAt H l ws)(s:Same H H'):WsAt H' l ws:=⟨s _ _ h.at',λx hx=>⟨(h.ok x hx).1.same s,(h.ok x hx).2⟩,h.len⟩
def Rw:Sp:=λvs H Q _=>∃(l:Addr)(ws:List (Addr×List WP)),vs=[.ref l]∧WsAt H l ws∧∀H',Same H H'→Q (.bl true) H'
def RN:Sp:=λvs H Q _=>∃(l:Addr)(ws:List (Addr×List WP)),vs=[.ref l]∧WsAt H l ws∧∀H',Same H H'→Q .non H'
def KU(p:WP):DY:= .tup [.str p.1,eD p.2.1,eD p.2.2]
def LJ(w:List WP):DY:= .tup (w.map KU)
theorem SY:∀ps:List (Addr×WP),(∀p∈ps,H p.1=some (.tup [.str p.2.1,eV p.2.2.1,eV p.2.2.2]))→(∀p∈ps,p.2.1.length≤8)→RepYs H ((ps.map (·.2)).map KU) (ps.map λp=>V.ref p.1)
 | [],_,_=>RepYs.nil
 | p::ps,h,hl=>by refine RepYs.cons ?_ (SY ps (λx hx=>h x (AE _ hx)) λx hx=>hl x (AE _ hx));refine Ny (h p Az) (RepYs.cons ?_ (RepYs.cons (Rs H _) (RepYs.cons (Rs H _) RepYs.nil))) (by simp);rw[RepY];exact⟨rfl,AY (hl p Az) (by decide)⟩
theorem WF{w:List WP}(h:WishAt H a w)(ok:WOk w):RepY H (LJ w) (.ref a):=by obtain⟨ps,rfl,e,f⟩:=h;refine Ny e (SY ps f λp hp=>?_) (by have:=ok.len;rw[Ab] at*;omega);exact(ok.ok p.2 (Ax hp)).1.eight
theorem Tv:∀ws:List (Addr×List WP),(∀x∈ws,WishAt H x.1 x.2∧WOk x.2)→RepYs H ((ws.map (·.2)).map LJ) (ws.map λp=>V.ref p.1)
 | [],_=>RepYs.nil
 | x::ws,h=>RepYs.cons (WF (h x Az).1 (h x Az).2) (Tv ws λy hy=>h y (AE _ hy))
theorem WsAt.repY{l:Addr}{ws:List (Addr×List WP)}(h:WsAt H l ws):RepY H (.lst ((ws.map (·.2)).map LJ)) (.ref l):=
 Vl h.at' (Tv ws h.ok) (by have:=h.len;rw[Ab];omega)
theorem VO(w:List WP):IA (LJ w)≤2:=by
 unfold LJ;rw[IA];have:JF (w.map KU)≤1:=NN λd hd=>by obtain⟨p,_,rfl⟩:=AN.mp hd;unfold KU;simp only[IA,JF,Wr];omega
 omega
theorem X7(ws:List (List WP)):IA (.lst (ws.map LJ))≤3:=by
 rw[IA];have:JF (ws.map LJ)≤2:=NN λd hd=>by obtain⟨p,_,rfl⟩:=AN.mp hd;exact VO p
 omega
open PySem.AutoSeq1 (wpAny_loadPart')
open PySem.MeetsSeq PySem.MeetsSeq2 PySem.MeetsSeq3 PySem.SeqRoads2 PySem.Calls
theorem Yj(l b:Addr)(items items2:Array Value)(n n2:Nat)(dd dd2:Option Addr)(sl sl2:Array (Option Value))(hsz:items.size=items2.size)(k:Nat):
 ∀i:Nat,items.size - i=k→∀(A:Bu)(R:Result→Shared→Prop)(s:Shared),s.heap.get? l=some {cls:= .type "list",dict:=dd,data:= .seq items n,slots:=sl}→s.heap.get? b=some {cls:= .type "list",dict:=dd2,data:= .seq items2 n2,slots:=sl2}→
  (∀j(h1:j<items.size)(h2:j<items2.size),EqIn P w A.in1 s items[j] items2[j])→R (.ok (.ret (.bool false))) s→
  wpAny (model P w) A.in1 (Builtin.«list.__eq__.loop» ⟨[.ref l,.ref b,rawInt i,rawInt 3],[]⟩) (λfin s'=>match fin with | .done f=>R (.ok f) s' | .again c'=>c'.quiet=true∧codeAny (model P w) A c' R s') (λe s'=>R (.error e) s') s:=by
 induction k with
 | zero=>
  intro i hk A R s hl hb he h;obtain⟨hp,g,d,tk,os⟩:=s
  wp_walk using AG hl,AG hb
  have o1:items[((i:Nat):Int).toNat]?=none:=by simp;omega
  have o2:items2[((i:Nat):Int).toNat]?=none:=by simp;omega
  rw[o1,o2]
  wp_walk using AG hl,AG hb
  show R (.ok (.ret (.bool (items.size !=items2.size)))) _;rw[hsz];simpa using h
 | succ k ih=>
  intro i hk A R s hl hb he h;obtain⟨hp,g,d,tk,os⟩:=s
  wp_walk using AG hl,AG hb
  have lt1:i<items.size:=by omega
  have KP:i<items2.size:=by omega
  have o1:items[((i:Nat):Int).toNat]?=some items[i]:=by simp[lt1]
  have o2:items2[((i:Nat):Int).toNat]?=some items2[i]:=by simp[KP]
  have hc:((i:Int)+1)=((i+1:Nat):Int):=by push_cast;rfl
  rw[o1,o2];refine Aa (he i lt1 KP _ _ ?_)
  wp_walk
  rw[hc];exact⟨Bi plain_eq_loop _,Be entry_eq_loop (by rw[AO plain_eq_loop _];exact ih (i+1) (by omega) A R _ hl hb he h)⟩
theorem UK(l b:Addr)(items items2:Array Value)(n n2:Nat)(dd dd2:Option Addr)(sl sl2:Array (Option Value))(hsz:items.size=items2.size)(A:Bu)(R:Result→Shared→Prop)(s:Shared)
 (hl:s.heap.get? l=some {cls:= .type "list",dict:=dd,data:= .seq items n,slots:=sl}) (hb:s.heap.get? b=some {cls:= .type "list",dict:=dd2,data:= .seq items2 n2,slots:=sl2})
 (he:∀j(h1:j<items.size)(h2:j<items2.size),EqIn P w A.in1 s items[j] items2[j]) (h:R (.ok (.ret (.bool false))) s):
 wpAny (model P w) A.in1 (Builtin.«list.__ne__» ⟨[.ref l,.ref b],[]⟩) (λfin s'=>match fin with | .done f=>R (.ok f) s' | .again c'=>c'.quiet=true∧codeAny (model P w) A c' R s') (λe s'=>R (.error e) s') s:=by
 obtain⟨hp,g,d,tk,os⟩:=s;have f3:=DW;have hne:¬(items.size !=items2.size)=true:=by simp[hsz]
 wp_walk using AG hl,AG hb
 exact⟨Bi plain_eq_loop _,Be entry_eq_loop (by rw[AO plain_eq_loop _];exact Yj l b items items2 n n2 dd dd2 sl sl2 hsz _ 0 rfl A R _ hl hb he h)⟩
theorem Vo{l:Addr}{items items2:Array Value}{E:Value→Shared→Prop}{Q:Value→Shared→Prop}(hl:s.heap.IsList l items)(hb:s.heap.IsList b items2)(hsz:items.size=items2.size)(hu:A.units<cLine)
 (he:∀j(h1:j<items.size)(h2:j<items2.size),EqIn P w A.in1 s items[j] items2[j]) (h:Q (.bool false) s):wpAny (model P w) A (richCompare .NotEq (.ref l) (.ref b)) Q E s:=by
 obtain⟨⟨c1,dd,data,sl⟩,ho,hc,n,hd⟩:=id hl;obtain⟨⟨c2,dd2,data2,sl2⟩,ho2,hc2,n2,hd2⟩:=id hb;simp only at hc hd hc2 hd2;subst hc hd hc2 hd2;refine Ca (op:= .NotEq) ⟨_,ho,rfl⟩ ⟨_,ho2,rfl⟩ F.slot_list_ne ?_ hu;refine Ek (Da F.slot_list_ne.plain F.entry_list_ne (F.slot_list_ne.check _ _ _ _ _ _ _ _ ⟨_,ho,rfl⟩ (F.args_list_ne_2 _ _) ?_));exact UK l b items items2 n n2 dd dd2 sl sl2 hsz A (wants (λv s'=>v≠ .notImplemented∧Q v s') E) s ho ho2 he (show Value.bool false≠Value.notImplemented∧Q (.bool false) s from⟨(λx=>nomatch x),h⟩)
section
variable{κ:Type}[DecidableEq κ]{knd:KeyKind P w κ}
end
def Qf:R2:=λx y H Q=>∃a b xs,x= .ref a∧y= .ref b∧H a=some (.lst xs)∧H b=some (.lst [])∧Q (.bl xs.isEmpty) H
def Qb:R2:=λx y H Q=>∃a b xs,x= .ref a∧y= .ref b∧H a=some (.lst xs)∧H b=some (.lst [])∧Q (.bl (!xs.isEmpty)) H
theorem UN(hr:La X):Iu X (BH .Eq) Qf:=by
 intro pins s σ H x y v u Q I rx ry h;obtain⟨a,b,xs,rfl,rfl,ha,hb,q⟩:=h;cases(show v=Value.ref a from rx);cases(show u=Value.ref b from ry);unfold La at hr;obtain⟨_,its,n,rv,hg⟩:=(show ObjOk X.prog X.w H s.heap a (.lst xs) from I.hok a _ ha);obtain⟨_,its',n',rv',hg'⟩:=(show ObjOk X.prog X.w H s.heap b (.lst []) from I.hok b _ hb);cases rv';cases xs with
 | nil=> cases rv;exact OL ⟨_,hg,rfl,_,rfl⟩ ⟨_,hg',rfl,_,rfl⟩ rfl (by omega) (λj k1 k2=>absurd k1 (by simp)) ⟨.bl true,H,I,rfl,q⟩
 | cons x xs=> have l:=rv.length;exact DF (l:=a) (b:=b) ⟨_,hg,rfl,_,rfl⟩ ⟨_,hg',rfl,_,rfl⟩ (by simp;intro z;rw[z] at l;simp at l) (by omega) X.prog X.w _ _ ⟨.bl false,H,I,rfl,q⟩
theorem QR(hr:La X):Iu X (BH .NotEq) Qb:=by
 intro pins s σ H x y v u Q I rx ry h;obtain⟨a,b,xs,rfl,rfl,ha,hb,q⟩:=h;cases(show v=Value.ref a from rx);cases(show u=Value.ref b from ry);unfold La at hr;obtain⟨_,its,n,rv,hg⟩:=(show ObjOk X.prog X.w H s.heap a (.lst xs) from I.hok a _ ha);obtain⟨_,its',n',rv',hg'⟩:=(show ObjOk X.prog X.w H s.heap b (.lst []) from I.hok b _ hb);cases rv';cases xs with
 | nil=> cases rv;exact Vo ⟨_,hg,rfl,_,rfl⟩ ⟨_,hg',rfl,_,rfl⟩ rfl (by omega) (λj k1 k2=>absurd k1 (by simp)) ⟨.bl false,H,I,rfl,q⟩
 | cons x xs=> have l:=rv.length;exact EI (l:=a) (b:=b) ⟨_,hg,rfl,_,rfl⟩ ⟨_,hg',rfl,_,rfl⟩ (by simp;intro z;rw[z] at l;simp at l) (by omega) X.prog X.w _ _ ⟨.bl true,H,I,rfl,q⟩
theorem Ow:Bf "abs"=some (.builtin "abs"):=by decide+kernel
abbrev wM:Int:=2147483563
structure Well(H:Hp)(b g l:Addr)(n:Int):Prop where
 ex:∃(gs ls:List Int)(sd c:Int),H b=some (.lst [.ref g,.ref l,.int sd,.int c])∧H g=some (.lst (gs.map V.int))∧H l=some (.lst (ls.map V.int))∧
  gs.length≤63∧ls.length≤63∧(∀x∈ls,0≤x∧x<wM)∧0≤sd∧sd<wM∧0≤c∧c≤n
 gl:g≠l
 bg:b≠g
 bl:b≠l
theorem Well.mono{g l:Addr}{n m:Int}(B:Well H b g l n)(h:n≤m):Well H b g l m:=by obtain⟨⟨gs,ls,sd,c,h1,h2,h3,h4,h5,h6,h7,h8,h9,h10⟩,gl,bg,bl⟩:=B;exact⟨⟨gs,ls,sd,c,h1,h2,h3,h4,h5,h6,h7,h8,h9,Int.le_trans h10 h⟩,gl,bg,bl⟩
theorem Well.same{H':Hp}{g l:Addr}{n:Int}(B:Well H b g l n)(h:Same H H'):Well H' b g l n:=by obtain⟨⟨gs,ls,sd,c,h1,h2,h3,h4⟩,gl,bg,bl⟩:=B;exact⟨⟨gs,ls,sd,c,h _ _ h1,h _ _ h2,h _ _ h3,h4⟩,gl,bg,bl⟩
theorem Well.tup{g l:Addr}{n:Int}{H':Hp}(B:Well H b g l n)(s:SameB b g H H')(h:H a=some (.tup xs)):H' a=some (.tup xs):=by obtain⟨gs,ls,c,st,h1,h2,_⟩:=B.ex;exact s a _ h (K1 h h1 (by intro z;cases z)) (K1 h h2 (by intro z;cases z))
theorem Well.free{g l:Addr}{n:Int}(B:Well H b g l n){p:Addr}(h:H p=none):p≠b∧p≠g∧p≠l:=by obtain⟨gs,ls,c,st,h1,h2,h3,_⟩:=B.ex;exact⟨(IT h1 h).symm,(IT h2 h).symm,(IT h3 h).symm⟩
theorem Well.trk{g l:Addr}{n:Int}(B:Well H b g l n):H b≠none∧H g≠none:=by
 obtain⟨gs,ls,c,st,h1,h2,_⟩:=B.ex;refine⟨?_,?_⟩
 · rw[h1];exact Gn _
 · rw[h2];exact Gn _
theorem Well.back{H':Hp}{g l:Addr}{n:Int}(B:Well H' b g l n)(s:SameB b g H H'):∀a,H' a=Option.none→H a=Option.none:=λa h=>by
 cases e:H a with
 | none=>rfl
 | some o=> have h1:a≠b:=λz=>B.trk.1 (z ▸ h);have h2:a≠g:=λz=>B.trk.2 (z ▸ h);rw[s a o e h1 h2] at h;cases h
theorem Well.off{g l p:Addr}{n:Int}{o:HO}(B:Well H b g l n)(pb:p≠b)(pg:p≠g)(pl:p≠l):Well (Hr H p o) b g l n:=by obtain⟨gs,ls,c,st,e1,e2,e3,r⟩:=B.ex;exact⟨⟨gs,ls,c,st,by rw[HD pb.symm];exact e1,by rw[HD pg.symm];exact e2,by rw[HD pl.symm];exact e3,r⟩,B.gl,B.bg,B.bl⟩
theorem WishAt.sameW{H':Hp}{g l:Addr}{n:Int}{w:List WP}(h:WishAt H a w)(B:Well H b g l n)(s:SameB b g H H'):WishAt H' a w:=h.keep λ_ _ e=>B.tup s e
theorem WsAt.sameW{H':Hp}{g m:Addr}{n:Int}{l:Addr}{ws:List (Addr×List WP)}(h:WsAt H l ws)(B:Well H b g m n)(lb:l≠b)(lg:l≠g)(s:SameB b g H H'):WsAt H' l ws:=⟨s _ _ h.at' lb lg,λx hx=>⟨(h.ok x hx).1.sameW B s,(h.ok x hx).2⟩,h.len⟩
theorem JW{m:Int}(h:m≤10^6):m<2^500:=Int.lt_of_le_of_lt h (by decide)
def Rc(K:Ae):Sp:=λvs H Q _=>∃(a:Addr)(ns:List Int),vs=[.ref a]∧SqL K H a (ns.map V.int)∧ns.length≤63∧
 ∀(b g l:Addr)(H':Hp),Well H' b g l 0→Same H H'→H b=none→H g=none→Q (.ref b) H'
def Rb:Sp:=λvs H Q _=>∃(b g l:Addr)(n many:Int),vs=[.ref b,.int many]∧Well H b g l n∧n≤2^40∧0<many∧many<2^500∧
 ∀(r:Int)(H':Hp),0≤r→r<many→Well H' b g l (n+1)→SameB b g H H'→Q (.int r) H'
def Ra:Sp:=λvs H Q _=>∃(b g l:Addr)(n most:Int),vs=[.ref b,.int most]∧Well H b g l n∧n≤10^8∧1≤most∧most≤8∧
 ∀(x:Str)(H':Hp),FieldOk x→Well H' b g l (n+12)→SameB b g H H'→Q (.str x) H'
def SC:Sp:=λvs H Q _=>∃(b g l:Addr)(n many:Int),vs=[.ref b,.int many]∧Well H b g l n∧n≤10^7∧1≤many∧many≤6∧
 ∀(r:Addr)(fs:List Str)(H':Hp),H r=none→H' r=some (.lst (fs.map V.str))→fs.Pairwise Ik→(∀f∈fs,FieldOk f)→1≤fs.length→(fs.length:Int)≤many→Well H' b g l (n+200)→SameB b g H H'→Q (.ref r) H'
def QW:Sp:=λvs H Q _=>∃(b g l:Addr)(n:Int),vs=[.ref b]∧Well H b g l n∧n≤10^9∧∀(r:Int)(H':Hp), -(10^15)<r→r<10^15→Well H' b g l (n+5)→SameB b g H H'→Q (.int r) H'
def Js(fs:List Str)(w:List WP):Prop:=∀p∈w,p.1∈fs
def Vi:V→Option Int→Option Int→Hp→VK→Prop:=λx lo hi H Q=>∃y:Str,x= .str y∧y.length≤100000∧∀z:Str,z.length≤y.length→(∀j,hi=some j→0≤j→(z.length:Int)≤j)→(∀c∈z.cps.toList,c∈y.cps.toList)→(∀j,lo=none→hi=some j→1≤j→1≤y.length→1≤z.length)→Q (.str z) H
theorem Xm(lo hi:Option Int)(n:Nat):(Bc lo hi 1 n).length≤n∧(∀j,hi=some j→0≤j→((Bc lo hi 1 n).length:Int)≤j)∧(∀j,lo=none→hi=some j→1≤j→1≤n→0∈Bc lo hi 1 n):=by
 refine⟨indices_len_le lo hi n,λj e h0=>?_,λj e1 e2 h1 h2=>?_⟩
 · subst e;unfold Bc sliceRange;cases lo<;>simp only[show(1:Int)>0 by decide,if_true,Ab,CZ]<;>(split<;>(try split)<;>(try split)<;>(try simp only[Int.ediv_one])<;>omega)
 · subst e1 e2;unfold Bc sliceRange;simp only[show(1:Int)>0 by decide,if_true];refine AN.mpr ⟨0,Dc.mpr ?_,?_⟩
   · have:¬j<0:=by omega
     simp only[this,if_false,Int.ediv_one]
     split<;>omega
   · simp
theorem OF:Mp X Vi:=by
 intro pins s σ H x v vl vu lo hi sl Q I rx hs pl pu h;obtain⟨y,rfl,hl,q⟩:=h;obtain⟨t,rfl⟩:=(show ∃t,v=Value.str y t from rx);obtain⟨l,el,e1⟩:∃l:Option (Int×Tok),vl=partValue l∧l.map (·.1)=lo:=by
  cases pl with
  | none=>exact⟨none,rfl,rfl⟩
  | int i t=>exact⟨some (i,t),rfl,rfl⟩
 obtain⟨u,eu,e2⟩:∃l:Option (Int×Tok),vu=partValue l∧l.map (·.1)=hi:=by
  cases pu with
  | none=>exact⟨none,rfl,rfl⟩
  | int i t=>exact⟨some (i,t),rfl,rfl⟩
 have hS:s.heap.IsSlice sl l u none:=by obtain⟨o,h1,h2,h3⟩:=hs;exact⟨o,h1,h2,by rw[h3,el,eu];rfl⟩
 have pk:slicePicked y l u none=Bc lo hi 1 y.length:=by unfold slicePicked;rw[e1,e2];rfl
 obtain⟨p1,p2,p3⟩:=Xm lo hi y.length;have hsz:(100000:Nat)≤Av:=by decide
 refine⟨"str",_,F.slot_str_getitem.lookup,typeIs_str s y t,?_⟩;refine getItem_meets (typeIs_str s y t) (by decide) F.slot_str_getitem F.entry_str_getitem (F.args_str_getitem_2 _ _) (meets_str_getitem_slice y t sl l u none rfl) ⟨hS,?_⟩;unfold sliceMade;rw[pk]
 split
 · rename_i hc;have hc:(Bc lo hi 1 y.length).length=y.length:=by simpa using hc
   exact⟨.str y,H,I,⟨t,rfl⟩,q y (Ah _) (λj e h0=>by have:=p2 j e h0;omega) (λc hc=>hc) λ_ _ _ _ z=>z⟩
 · have hz:(⟨((Bc lo hi 1 y.length).filterMap (y.cps[·]?)).toArray⟩:Str).length≤(Bc lo hi 1 y.length).length:=by
    show(List.filterMap _ _).toArray.size≤_;rw[Au];exact List.length_filterMap_le _ _
   refine⟨by omega,⟨.str _,H,I.tok _,⟨_,rfl⟩,q _ (by omega) (λj e h0=>by have:=p2 j e h0;omega) (λc hc=>?_) λj f1 f2 f3 f4=>?_⟩⟩
   · have hc:c∈(Bc lo hi 1 y.length).filterMap (y.cps[·]?):=by simpa using hc
     obtain⟨i,_,hi'⟩:=DB.mp hc;exact Array.mem_toList_iff.mpr (Array.mem_of_getElem? hi')
   · have m0:=p3 j f1 f2 f3 f4;show 1≤(List.filterMap _ _).toArray.size;rw[Au];have h0:0<y.cps.size:=f4;have:y.cps[0]'h0∈(Bc lo hi 1 y.length).filterMap (y.cps[·]?):=DB.mpr ⟨0,m0,by simp[h0]⟩;exact Ea this
theorem YM(elt t0 i0 t1 i1:Expr)(f0 f1:List Expr)(scope:Scope)(pos:Pos)(it acc:Value)(env:Env):
 compTurn (.ListComp elt [⟨t0,i0,f0,0⟩,⟨t1,i1,f1,0⟩] scope pos) 0 it acc env=(do
  standAt i0.pos
  match ←pyNext it with
  | none=>pure (.done .next)
  | some v=>
   BL t0 it v
   assign t0 env v
   let mut ok:=true
   for c in f0 do
    if ok then ok ←isTrue c env (eval c env)
   if ok then
    let x ←eval i1 env
    standAt i1.pos
    let x ←Bj i1 env x
    let _ ←runOwn (.compStart (.ListComp elt [⟨t0,i0,f0,0⟩,⟨t1,i1,f1,0⟩] scope pos) 1 (←holding [x] (pyIter x)) acc env) env
   again (.compLoop (.ListComp elt [⟨t0,i0,f0,0⟩,⟨t1,i1,f1,0⟩] scope pos) 0 it acc env)):=by rfl
theorem YN(elt t0 i0 t1 i1:Expr)(f0 f1:List Expr)(scope:Scope)(pos:Pos)(it acc:Value)(env:Env):
 compTurn (.ListComp elt [⟨t0,i0,f0,0⟩,⟨t1,i1,f1,0⟩] scope pos) 1 it acc env=(do
  standAt i1.pos
  match ←pyNext it with
  | none=>pure (.done .next)
  | some v=>
   BL t1 it v
   assign t1 env v
   let mut ok:=true
   for c in f1 do
    if ok then ok ←isTrue c env (eval c env)
   if ok then
    (do let _ ←call (.builtin "list.append") [acc,←eval elt env])
   again (.compLoop (.ListComp elt [⟨t0,i0,f0,0⟩,⟨t1,i1,f1,0⟩] scope pos) 1 it acc env)):=by rfl
section
variable{R:Result→Shared→Prop}
variable{elt t0 i0 t1 i1:Expr}{f0 f1:List Expr}{it acc:Value}{env:Env}
theorem YL(I:Nat→Shared→Prop)
 (turn:∀n s,I n s→wpAny (model prog w) A (pyNext it) (λr s₁=>match r with
  | none=>R (.ok .next) s₁
  | some v=>wpAny (model prog w) A (BL t1 it v) (λ_ s₁'=>wpAny (model prog w) A (assign t1 env v) (λ_ s₂=>
   wpAny (model prog w) A (forIn f1 true λc r=>if r=true then do let ok ←isTrue c env (eval c env);pure (ForInStep.yield ok) else pure (ForInStep.yield r)) (λok s₃=>
    if ok=true then wpAny (model prog w) A (eval elt env) (λx s₄=> wpAny (model prog w) A (call (.builtin "list.append") [acc,x]) (λ_ s₅=>∃m,m<n∧I m s₅) (λ_ _=>False) s₄) (λ_ _=>False) s₃
    else ∃m,m<n∧I m s₃) (λ_ _=>False) s₂) (λ_ _=>False) s₁') (λ_ _=>False) s₁) (λ_ _=>False) s)
 (n:Nat) (h:I n s):
 codeAny (model prog w) A (.compLoop (.ListComp elt [⟨t0,i0,f0,0⟩,⟨t1,i1,f1,0⟩] scope pos) 1 it acc env) R s:=by
 refine DE rfl I (λn s hI=>?_) n h;show wpAny _ A ((compTurn (.ListComp elt [⟨t0,i0,f0,0⟩,⟨t1,i1,f1,0⟩] scope pos) 1 it acc env).onRaise (λx=>do noteFrame x env;theTreesLotGoes x)) _ _ s
 refine DT ?_;rw[YN];refine Aa (Bv (Aa (Ay (turn n s hI) (λr s₁ h₁=>?_) λ_ _ h'=>h'.elim)));cases r with
 | none=>exact Ac h₁
 | some v=>
  refine Aa (Ay h₁ (λ_ s₁' h₁'=>?_) λ_ _ h'=>h'.elim);refine Aa (Ay h₁' (λ_ s₂ h₂=>Aa (Ay h₂ (λok s₃ h₃=>?_) λ_ _ h'=>h'.elim)) λ_ _ h'=>h'.elim);cases ok with
  | false=>exact Ac ⟨rfl,h₃⟩
  | true=> exact Aa (Aa (Ay h₃ (λx s₄ h₄=>Aa (Ay h₄ (λ_ s₅ h₅=>Ac (Ac ⟨rfl,h₅⟩)) λ_ _ h'=>h'.elim)) λ_ _ h'=>h'.elim))
theorem YK(hs:∀x,Bj i1 env x=pure x)(I:Nat→Shared→Prop)
 (turn:∀n s,I n s→wpAny (model prog w) A (pyNext it) (λr s₁=>match r with
  | none=>R (.ok .next) s₁
  | some v=>wpAny (model prog w) A (BL t0 it v) (λ_ s₁'=>wpAny (model prog w) A (assign t0 env v) (λ_ s₂=>
   wpAny (model prog w) A (forIn f0 true λc r=>if r=true then do let ok ←isTrue c env (eval c env);pure (ForInStep.yield ok) else pure (ForInStep.yield r)) (λok s₃=>
    if ok=true then wpAny (model prog w) A (eval i1 env) (λx s₄=>wpAny (model prog w) A (pyIter x) (λj s₅=> codeAny (model prog w) A (.compStart (.ListComp elt [⟨t0,i0,f0,0⟩,⟨t1,i1,f1,0⟩] scope pos) 1 j acc env) (λr s₆=>r= .ok .next∧∃m,m<n∧I m s₆) s₅) (λ_ _=>False) s₄) (λ_ _=>False) s₃
    else ∃m,m<n∧I m s₃) (λ_ _=>False) s₂) (λ_ _=>False) s₁') (λ_ _=>False) s₁) (λ_ _=>False) s)
 (n:Nat) (h:I n s):
 codeAny (model prog w) A (.compLoop (.ListComp elt [⟨t0,i0,f0,0⟩,⟨t1,i1,f1,0⟩] scope pos) 0 it acc env) R s:=by
 refine DE rfl I (λn s hI=>?_) n h;show wpAny _ A ((compTurn (.ListComp elt [⟨t0,i0,f0,0⟩,⟨t1,i1,f1,0⟩] scope pos) 0 it acc env).onRaise (λx=>do noteFrame x env;theTreesLotGoes x)) _ _ s
 refine DT ?_;rw[YM];refine Aa (Bv (Aa (Ay (turn n s hI) (λr s₁ h₁=>?_) λ_ _ h'=>h'.elim)));cases r with
 | none=>exact Ac h₁
 | some v=>
  refine Aa (Ay h₁ (λ_ s₁' h₁'=>?_) λ_ _ h'=>h'.elim);refine Aa (Ay h₁' (λ_ s₂ h₂=>Aa (Ay h₂ (λok s₃ h₃=>?_) λ_ _ h'=>h'.elim)) λ_ _ h'=>h'.elim);cases ok with
  | false=>exact Ac ⟨rfl,h₃⟩
  | true=> refine Aa (Ay h₃ (λx s₄ h₄=>?_) λ_ _ h'=>h'.elim);refine Aa (Bv ?_);rw[hs];refine Aa (Ac ?_);refine Aa (AT (Ay h₄ (λj s₅ h₅=>?_) λ_ _ h'=>h'.elim));refine Aa (wpAny_runOwn (Cd h₅ λr s₆ h₆=>?_));obtain⟨rfl,h₆⟩:=h₆;exact Ac ⟨rfl,h₆⟩
theorem Zq(h0:codeAny (model prog w) A (.compLoop (.ListComp elt [⟨t0,i0,f0,0⟩,⟨t1,i1,f1,0⟩] scope pos) 1 it acc env) R s)
 (h:wpAny (model prog w) A (pyIter it) (λit' s'=>codeAny (model prog w) A (.compLoop (.ListComp elt [⟨t0,i0,f0,0⟩,⟨t1,i1,f1,0⟩] scope pos) 1 it' acc env) R s')
  (notedBy (model prog w) A env λx s'=>R (.error x) s') s):
 codeAny (model prog w) A (.compStart (.ListComp elt [⟨t0,i0,f0,0⟩,⟨t1,i1,f1,0⟩] scope pos) 1 it acc env) R s:=by
 refine F0 ?_;show wpAny _ _ ((Cr (.ListComp elt [⟨t0,i0,f0,0⟩,⟨t1,i1,f1,0⟩] scope pos) 1 it acc env).onRaise (λx=>do noteFrame x env;standAt theWindowsPlace)) _ _ s
 refine wpAny_notedAt ?_;unfold Cr;show wpAny _ _ (ask>>=_) _ _ s;refine Aa (Df (wpAny_ite ?_))
 split
 · first
    | exact Aa (Ac (Ac (And.intro rfl h0)))
    | exact Ac (And.intro rfl h0)
 · first
    | exact Aa (BI (Aa (Bv (Aa (Ay h (λit' s' h'=>Ac (And.intro rfl h')) λ_ _ x=>x)))))
    | (refine Aa (BI ?_);show wpAny _ _ (standAt i1.pos>>=_) _ _ s;exact Aa (Bv (Aa (Ay h (λit' s' h'=>Ac (And.intro rfl h')) λ_ _ x=>x))))
end
def Rf(J:It)(p:Addr)(g:TG)(tc:TT)(te:TE)(σ:St)(ys:List V)(H:Hp)(M:St→List V→Hp→Prop):Prop:=
 ∃W:Nat→Nat→St→List V→Hp→Prop,(∃m,W 0 m σ ys H)∧∀i m σ' zs H,W i m σ' zs H→H p=some (.lst zs)∧
  ((J.stop i H∧M σ' zs H)∨(J.go i H∧zs.length<Av∧∀x H',J.yld i H x H'→g x σ' H' λσ2 H2=>tc σ2 H2 λb H3=>
    if b=true then te σ2 H3 λy H4=>H4 p=some (.lst zs)∧∃m',m'<m∧W (i+1) m' σ2 (zs++[y]) (Hr H4 p (.lst (zs++[y])))
    else ∃m',m'<m∧W (i+1) m' σ2 zs H3))
def O8(J:It)(p:Addr)(js:Iz)(g:TG)(tc:TT)(wi1:TI)(g1:TG)(tc1:TT)(te:TE)(σ:St)(H:Hp)(Q:VK):Prop:=
 ∃W:Nat→Nat→St→List V→Hp→Prop,(∃m,W 0 m (inn js σ) [] (Hr H p (.lst [])))∧∀i m σ' ys H,W i m σ' ys H→H p=some (.lst ys)∧
  ((J.stop i H∧Q (.ref p) H)∨(J.go i H∧∀x H',J.yld i H x H'→g x σ' H' λσ2 H2=>tc σ2 H2 λb H3=>
    if b=true then wi1 σ2 H3 λJ1 H4=>Rf J1 p g1 tc1 te σ2 ys H4 λσ3 zs H5=>∃m',m'<m∧W (i+1) m' σ3 zs H5
    else ∃m',m'<m∧W (i+1) m' σ2 ys H3))
def PU(wi:TI)(js:Iz)(g:TG)(tc:TT)(wi1:TI)(g1:TG)(tc1:TT)(te:TE):TE:=λσ H Q=>wi σ H λJ H1=>∀p,H1 p=none→O8 J p js g tc wi1 g1 tc1 te σ H1 Q
theorem VS{X:Cx}{elt t0 i0 t1 i1:Expr}{f0 f1:List Expr}{scope:Scope}{pos:Pos}{g1:TG}{tc1:TT}{te:TE}{pins:List (Addr×Obj)}{σ:St}{H:Hp}{s:Shared}{p:Addr}{ys:List V}{J:It}{it:Addr}{fp:List Addr}{tn:Nat→Heap→Prop}{M:St→List V→Hp→Prop}
 (hc:X.calm=true) (hx:X.xe=λ_ _=>False) (hg:PG X t1 g1) (ht:Ic X f1 tc1) (he:PE X elt te) (I:Inv X pins σ H s) (T:Turn X.prog X.w X.K t1 J fp it tn) (st:tn 0 s.heap) (hf:∀b∈fp,HA X pins H b) (hw:Rf J p g1 tc1 te σ ys H M):
 codeAny (model X.prog X.w) X.A (.compStart (.ListComp elt [⟨t0,i0,f0,0⟩,⟨t1,i1,f1,0⟩] scope pos) 1 (.ref it) (.ref p) X.env) (λr s'=>r= .ok .next∧∃σ' zs H',Inv X pins σ' H' s'∧M σ' zs H') s:=by
 obtain⟨W,⟨m0,w0⟩,turn⟩:=hw;have stat:∀{H':Hp},(∀b∈fp,H' b=none)→∀b∈fp,HA X pins H' b:=λhn b hb=>⟨hn b hb,(hf b hb).2⟩;have loop:codeAny (model X.prog X.w) X.A (.compLoop (.ListComp elt [⟨t0,i0,f0,0⟩,⟨t1,i1,f1,0⟩] scope pos) 1 (.ref it) (.ref p) X.env) (λr s'=>r= .ok .next∧∃σ' zs H',Inv X pins σ' H' s'∧M σ' zs H') s:=by
  refine YL (λn s'=>∃i σ' ys H',Inv X pins σ' H' s'∧tn i s'.heap∧(∀b∈fp,H' b=none)∧W i n σ' ys H') ?_ m0 ⟨0,σ,ys,H,I,st,λb hb=>(hf b hb).1,w0⟩;rintro n s5 ⟨i,σ5,zs,H5,I5,st5,fr5,w5⟩;obtain⟨hp5,tu⟩:=turn i n σ5 zs H5 w5;rcases tu with⟨stop,qn⟩ | ⟨go,hz,step⟩
  · refine Hx (T.done X rfl rfl rfl hc i pins s5 σ5 H5 (λ_ _=>False) I5 (stat fr5) st5 stop) λr s6 ⟨hr,I6⟩=>?_;subst hr;exact⟨rfl,σ5,zs,H5,I6,qn⟩
  · refine Hx (T.item X rfl rfl rfl hc i pins s5 σ5 H5 (λ_ _=>False) I5 (stat fr5) st5 go) λr s6 ⟨u,hr,h6⟩=>?_;subst hr;refine Hx h6 λ_ s7 ⟨x,H7,I7,r7,y7,st7,fr7⟩=>?_;have I7':=I7.pinned (stat fr7) (T.obj _ _ st7);have G:=hg _ s7 σ5 H7 x u _ I7' r7 (step x H7 y7);rw[hx] at G;refine Hx G λ_ s8 ⟨σ8,H8,I8,q8⟩=>?_;have Tt:=ht _ s8 σ8 H8 _ I8 q8;rw[hx] at Tt;refine Hx Tt λb s9 ⟨H9,I9,q9⟩=>?_;have again:∀{s':Shared}{ys':List V}{H':Hp},Inv X (pins++Jb fp s7.heap) σ8 H' s'→(∃m',m'<n∧W (i+1) m' σ8 ys' H')→
     ∃m,m<n∧∃i σ' ys H',Inv X pins σ' H' s'∧tn i s'.heap∧(∀b∈fp,H' b=none)∧W i m σ' ys H':=λ{s' ys' H'}I' ⟨m',hm,w'⟩=>by
     refine⟨m',hm,i+1,σ8,ys',H',I'.unpinned,T.keep _ _ _ st7 λb hb o e=>(I'.pin (b,o) (Ag _ (Ag _ (J8 hb e)))).1,λb hb=>?_,w'⟩;obtain⟨o,e,d⟩:=T.obj _ _ st7 b hb;exact(I'.pin (b,o) (Ag _ (Ag _ (J8 hb e)))).2.1
    cases b with
    | false=>exact again I9 q9
    | true=> have Ee:=he _ s9 σ8 H9 _ I9 q9;rw[hx] at Ee;show wpAny _ _ _ _ _ _;refine Hx Ee λxv s10 ⟨y,H10,I10,r10,hp10,q10⟩=>?_;have Ap:=LF (X:=X) _ s10 σ8 H10 (.ref p) [y] (.ref p) [xv] (λ_ H'=>H'=Hr H10 p (.lst (zs++[y]))) I10 rfl (.cons r10 .nil) ⟨p,zs,y,rfl,rfl,hp10,hz,rfl⟩;rw[hx] at Ap;refine Hx Ap λ_ s11 ⟨_,H11,I11,_,e11⟩=>?_;subst e11;exact again I11 q10
 exact Zq loop (T.self _ 0 _ _ _ st loop)
section
variable{tg iter tg1 iter1 elt:Expr}{ifs ifs1:List Expr}{wi wi1:TI}{js:Iz}{g g1:TG}{tc tc1:TT}{te:TE}{N':List Str}
theorem WV{pins:List (Addr×Obj)}{σ:St}{H:Hp}{s:Shared}{E:Value→Shared→Prop}{Q:VK}{J:It}{it:Addr}{fp:List Addr}{tn:Nat→Heap→Prop}{cl:List (Str×Addr)}
 (hc:X.calm=true) (ok:CapOk X N' js scope) (hs1:∀(e:Env)x,Bj iter1 e x=pure x)
 (h2:∀x c,cl.lookup x=some c→X.env.cells.lookup x=some c) (h3:∀p∈scope.names,p.2= .free→(cl.lookup p.1).isSome=true)
 (hg:∀cl C s₀ H₀ ex,PG (Ib X N' scope cl C s₀ H₀ ex) tg g) (ht:∀cl C s₀ H₀ ex,Ic (Ib X N' scope cl C s₀ H₀ ex) ifs tc) (hi1:∀cl C s₀ H₀ ex,PI (Ib X N' scope cl C s₀ H₀ ex) tg1 iter1 wi1) (hg1:∀cl C s₀ H₀ ex,PG (Ib X N' scope cl C s₀ H₀ ex) tg1 g1) (ht1:∀cl C s₀ H₀ ex,Ic (Ib X N' scope cl C s₀ H₀ ex) ifs1 tc1) (he:∀cl C s₀ H₀ ex,PE (Ib X N' scope cl C s₀ H₀ ex) elt te)
 (I:Inv X pins σ H s) (T:Turn X.prog X.w X.K tg J fp it tn) (st:tn 0 s.heap) (hf:∀b∈fp,HA X pins H b)
 (hw:∀p,H p=none→O8 J p js g tc wi1 g1 tc1 te σ H Q):
 wpAny (model X.prog X.w) X.A (newList []) (λacc s₃=>wpAny (model X.prog X.w) X.A (newFunctionEnv scope X.env.globals cl [] X.env.qual none .none (some X.env)) (λcenv s₄=>
  codeAny (model X.prog X.w) X.A (.compStart (.ListComp elt [⟨tg,iter,ifs,0⟩,⟨tg1,iter1,ifs1,0⟩] scope pos) 0 (.ref it) acc {cenv with scope:=relabel scope X.env})
   (λr s'=>r= .ok .next∧(∃m,s'.heap.Ns cenv.locals m)∧∃v H',RelV v acc∧Inv X pins σ H' s'∧HA X pins H' cenv.locals∧Q v H') s₄) E s₃) E s:=by
 have objs:=T.obj _ _ st;refine AW ?_ (by show 0≤Av;decide);obtain⟨W,⟨m0,w0⟩,turn⟩:=hw s.heap.objs.size (I.hok.fresh (Ah _));generalize hp:s.heap.objs.size=p at*;have kp:∀b u,s.heap.get? b=some u→(s.heap.push {cls:= .type "list",dict:=none,data:= .seq ([]:List Value).toArray}).get? b=some u:=λb u e=>Ad _ e;have I3:Inv X pins σ (Hr H p (.lst [])) {s with heap:=s.heap.push {cls:= .type "list",dict:=none,data:= .seq ([]:List Value).toArray}}:=by refine I.laid (t':=s.toks) kp (by rw[hp];exact Ah _) ⟨AQ _,[],0,.nil,?_⟩;have:=An s.heap (o:={cls:= .type "list",dict:=none,data:= .seq ([]:List Value).toArray}) rfl;rw[hp] at this;exact this
 have fne:∀b∈fp,b≠p:=λb hb=>by obtain⟨o,e,_⟩:=objs b hb;have:=Ao e;rw[←hp];exact Ar this
 have hf3:∀b∈fp,HA X pins (Hr H p (.lst [])) b:=λb hb=>⟨by rw[HD (fne b hb)];exact(hf b hb).1,(hf b hb).2⟩;have st3:tn 0 (s.heap.push {cls:= .type "list",dict:=none,data:= .seq ([]:List Value).toArray}):=T.keep _ _ _ st λb _ o e=>kp b o e;have lt3:∀b∈fp,b<(s.heap.push {cls:= .type "list",dict:=none,data:= .seq ([]:List Value).toArray}).objs.size:=λb hb=>by obtain⟨o,e,_⟩:=objs b hb;exact Ao (kp b o e)
 generalize hs3:({s with heap:=s.heap.push {cls:= .type "list",dict:=none,data:= .seq ([]:List Value).toArray}}:Shared)=s3 at*
 have eh:s.heap.push {cls:= .type "list",dict:=none,data:= .seq ([]:List Value).toArray}=s3.heap:=by rw[←hs3]
 rw[eh] at st3 lt3;refine Og ok.cells λcl h₁ hns₁ k4 oc=>?_;have I4:=N8 (cl:=cl) (h₁:=h₁) (t':=s3.toks+([]:List (Str×Value)).length) ok I3 h2 h3 hf3 lt3 k4 hns₁ oc;have st4:tn 0 h₁:=T.keep _ _ _ st3 λb _ o e=>k4 b o e;generalize hX:Ib X N' scope cl s3.heap.objs.size s3 (Hr H p (.lst [])) fp=X' at I4;have hg':PG X' tg g:=by rw[←hX];exact hg _ _ _ _ _
 have ht':Ic X' ifs tc:=by rw[←hX];exact ht _ _ _ _ _
 have he':PE X' elt te:=by rw[←hX];exact he _ _ _ _ _
 have hi1':PI X' tg1 iter1 wi1:=by rw[←hX];exact hi1 _ _ _ _ _
 have hg1':PG X' tg1 g1:=by rw[←hX];exact hg1 _ _ _ _ _
 have ht1':Ic X' ifs1 tc1:=by rw[←hX];exact ht1 _ _ _ _ _
 have hs1':∀x,Bj iter1 (compEnvC scope cl s3.heap.objs.size X.env) x=pure x:=hs1 _;have eP:X'.prog=X.prog:=by rw[←hX];rfl
 have ew:X'.w=X.w:=by rw[←hX];rfl
 have eK:X'.K=X.K:=by rw[←hX];rfl
 have ec:X'.calm=true:=by rw[←hX];exact hc
 have eA:X'.A=X.A:=by rw[←hX];rfl
 have ex:X'.xe=λ_ _=>False:=by rw[←hX];rfl
 have eE:X'.env=compEnvC scope cl s3.heap.objs.size X.env:=by rw[←hX];rfl
 have eEx:X'.ex=fp:=by rw[←hX];rfl
 have eN:X'.pn=[]:=by rw[←hX];rfl
 have stat:∀{H':Hp},(∀b∈fp,H' b=none)→∀b∈fp,HA X' [] H' b:=λ{H'}hn b hb=>by have okc:=I4.ok;refine⟨hn b hb,(okc.exf b (by rw[eEx];exact hb)).1,okc.exfs b (by rw[eEx];exact hb),.inl (by rw[eEx];exact hb),(okc.exf b (by rw[eEx];exact hb)).2,λq hq=>?_⟩;rw[eN] at hq;cases hq
 have loop:∀s₄:Shared,s₄={s3 with heap:=h₁,toks:=s3.toks+([]:List (Str×Value)).length}→
  codeAny (model X.prog X.w) X.A (.compLoop (.ListComp elt [⟨tg,iter,ifs,0⟩,⟨tg1,iter1,ifs1,0⟩] scope pos) 0 (.ref it) (.ref p) (compEnvC scope cl s3.heap.objs.size X.env))
   (λr s'=>r= .ok .next∧(∃m,s'.heap.Ns s3.heap.objs.size m)∧∃v H',RelV v (.ref p)∧Inv X pins σ H' s'∧HA X pins H' s3.heap.objs.size∧Q v H') s₄:=by
  rintro s₄ rfl;refine YK hs1' (λn s'=>∃i σ' ys H',Inv X' [] σ' H' s'∧tn i s'.heap∧(∀b∈fp,H' b=none)∧W i n σ' ys H') ?_ m0 ⟨0,_,[],_,I4,st4,λb hb=>(hf3 b hb).1,w0⟩;rintro n s5 ⟨i,σ5,ys,H5,I5,st5,fr5,w5⟩;obtain⟨hp5,tu⟩:=turn i n σ5 ys H5 w5;rcases tu with⟨stop,qn⟩ | ⟨go,step⟩
  · have D:=T.done X' eP ew eK ec i [] s5 σ5 H5 (λ_ _=>False) I5 (stat fr5) st5 stop;rw[eA] at D;refine Hx D λr s6 ⟨hr,I6⟩=>?_;subst hr;refine⟨rfl,?_,.ref p,H5,rfl,?_,?_,qn⟩
    · obtain⟨m,hm,_⟩:=I6.loc;rw[eE] at hm;exact⟨m,hm⟩
    · have b6:=I6.base;have ho:=I6.os;have hk:=I6.hok;have hb:=I6.bare;subst hX;exact I3.call' (ch:=fp) ho b6 hk hb λb hb'=>⟨(hf b hb').2.2.2.1,(hf b hb').2.1,(hf b hb').2.2.2.2.1,(hf b hb').2.2.2.2.2⟩
    · have fr:=I6.free;rw[eE] at fr;exact I3.fpOk (Ah _) fr
  · have D:=T.item X' eP ew eK ec i [] s5 σ5 H5 (λ_ _=>False) I5 (stat fr5) st5 go;rw[eA] at D;refine Hx D λr s6 ⟨u,hr,h6⟩=>?_;subst hr;refine Hx h6 λ_ s7 ⟨x,H7,I7,r7,y7,st7,fr7⟩=>?_;have I7':=I7.pinned (stat fr7) (T.obj _ _ st7);have G:=hg' _ s7 σ5 H7 x u _ I7' r7 (step x H7 y7);rw[eP,ew,eA,ex,eE] at G;refine Hx G λ_ s8 ⟨σ8,H8,I8,q8⟩=>?_;have Tt:=ht' _ s8 σ8 H8 _ I8 q8;rw[eP,ew,eA,ex,eE] at Tt;refine Hx Tt λb s9 ⟨H9,I9,q9⟩=>?_;have again:∀{s':Shared}{σ8:St}{ys':List V}{H':Hp},Inv X' ([]++Jb fp s7.heap) σ8 H' s'→(∃m',m'<n∧W (i+1) m' σ8 ys' H')→
     ∃m,m<n∧∃i σ' ys H',Inv X' [] σ' H' s'∧tn i s'.heap∧(∀b∈fp,H' b=none)∧W i m σ' ys H':=λ{s' σ8 ys' H'}I' ⟨m',hm,w'⟩=>by
     refine⟨m',hm,i+1,σ8,ys',H',I'.unpinned,T.keep _ _ _ st7 λb hb o e=>(I'.pin (b,o) (Ag _ (Ag _ (J8 hb e)))).1,λb hb=>?_,w'⟩;obtain⟨o,e,d⟩:=T.obj _ _ st7 b hb;exact(I'.pin (b,o) (Ag _ (Ag _ (J8 hb e)))).2.1
    cases b with
    | false=>exact again I9 q9
    | true=> have Ei:=hi1' _ s9 σ8 H9 _ I9 q9;rw[eP,ew,eA,ex,eE] at Ei;show wpAny _ _ _ _ _ _;refine Hx Ei λxv s10 h10=>Hx h10 λitv s11 h11=>?_;obtain⟨it1,fp1,tn1,J1,H11,e11,I11,T1,st11,f11,hw11⟩:=h11;subst e11;have In:=VS (X:=X') (elt:=elt) (t0:=tg) (i0:=iter) (t1:=tg1) (i1:=iter1) (f0:=ifs) (f1:=ifs1) (scope:=scope) (pos:=pos) ec ex hg1' ht1' he' I11 T1 st11 f11 hw11;rw[eP,ew,eA,eE] at In;refine Cd In λr s12 ⟨hr,σ12,zs,H12,I12,m12⟩=>⟨hr,?_⟩;exact again I12 m12
 exact F9 (loop _ rfl) (T.self _ 0 _ _ _ st4 (loop _ rfl))
theorem WD{px:Pos}{spos:Pos}(hN:X.N.Nodup)(hi':X.N[i]?=some x)(hx:Mq X.env.scope x)(hc:X.calm=true)(ok:CapOk X N' js scope)(hi:PI X tg iter wi)
 (hg:∀cl C s₀ H₀ ex,PG (Ib X N' scope cl C s₀ H₀ ex) tg g) (ht:∀cl C s₀ H₀ ex,Ic (Ib X N' scope cl C s₀ H₀ ex) ifs tc) (hi1:∀cl C s₀ H₀ ex,PI (Ib X N' scope cl C s₀ H₀ ex) tg1 iter1 wi1) (hg1:∀cl C s₀ H₀ ex,PG (Ib X N' scope cl C s₀ H₀ ex) tg1 g1) (ht1:∀cl C s₀ H₀ ex,Ic (Ib X N' scope cl C s₀ H₀ ex) ifs1 tc1) (he:∀cl C s₀ H₀ ex,PE (Ib X N' scope cl C s₀ H₀ ex) elt te)
 (hsw:swapsWith (.ListComp elt [⟨tg,iter,ifs,0⟩,⟨tg1,iter1,ifs1,0⟩] scope pos) (some (.Name x px)) spos.line X.env=pure true:=by rfl)
 (hs:∀x,Bj iter X.env x=pure x:=by intro _;rfl) (hs1:∀(e:Env)x,Bj iter1 e x=pure x:=by intro _ _;rfl) (hf:X.fn x=true∨X.env.scope.names.lookup x=some .local:=by first | exact .inl rfl | exact .inr rfl | assumption):
 PS X (.Assign [.Name x px] (.ListComp elt [⟨tg,iter,ifs,0⟩,⟨tg1,iter1,ifs1,0⟩] scope pos) spos) (JR (PU wi js g tc wi1 g1 tc1 te) (JA i)):=by
 intro pins s σ H D I h;obtain⟨cl,c1,c2,c3⟩:=M0 (scope:=scope) I.ok.has ok.free;rw[exec_Assign_Name_used _ _ _ _ hsw];refine Aa (Bv (Aa ?_));show wpAny _ X.A (do let _ ←comprehension (.ListComp elt [⟨tg,iter,ifs,0⟩,⟨tg1,iter1,ifs1,0⟩] scope pos) scope X.env _ (newList []) false (eval iter X.env) (some (assign (.Name x px) X.env))) _ _ s
 refine Aa (Ay (CD (use:=some (assign (.Name x px) X.env)) (Q:=λ_ s'=>SP X pins D .next s') rfl hs c1 ok.kind ok.names
  (Hx (hi pins s σ H _ I h) λv s1 h1=>Hx h1 λitv s2 h2=>?_)) (λ_ s' hq=>Ac (Ac hq)) λ_ _ e=>e)
 obtain⟨it,fp,tn,J,H2,e,I2,T,st2,f2,hw⟩:=h2;subst e;refine Ay (WV (Q:=λx H1=>JA i x σ H1 D.nx) (iter:=iter) (pos:=pos) hc ok hs1 c2 c3 hg ht hi1 hg1 ht1 he I2 T st2 f2 hw) (λacc s3 h3=>Ay h3 (λcenv s4 h4=>?_) λ_ _ z=>z) λ_ _ z=>z;refine Cd h4 λr s5 h5=>?_;obtain⟨rfl,⟨m,hm⟩,v,H5,rv,I5,f5,q5⟩:=h5;obtain⟨f0,f1,f2',f3,f4,f6⟩:=f5;show wpAny _ X.A (assign (.Name x px) X.env acc) _ _ _;refine EO (Pp I5 hN hi' hx rv (λs6 I6 ch=>?_) hf);obtain⟨a,sb,ha⟩:=ch;have na:cenv.locals≠a:=by
  rcases ha with z | z
  · rw[z];exact f1
  · exact λy=>f4 x a z y.symm
 refine⟨m,hm.sameBut sb na,λh' sb'=>⟨_,H5,I6.turned (t':=s6.toks) (λb o hb e=>(sb'.2 b hb).trans e) f0 f1 f3 f4 f6,q5⟩⟩
end
theorem Vr(elt t0 i0 t1 i1:Expr)(f0 f1:List Expr)(scope:Scope)(pos:Pos)(it acc:Value)(env:Env):
 compTurn (.SetComp elt [⟨t0,i0,f0,0⟩,⟨t1,i1,f1,0⟩] scope pos) 0 it acc env=(do
  standAt i0.pos
  match ←pyNext it with
  | none=>pure (.done .next)
  | some v=>
   BL t0 it v
   assign t0 env v
   let mut ok:=true
   for c in f0 do
    if ok then ok ←isTrue c env (eval c env)
   if ok then
    let x ←eval i1 env
    standAt i1.pos
    let x ←Bj i1 env x
    let _ ←runOwn (.compStart (.SetComp elt [⟨t0,i0,f0,0⟩,⟨t1,i1,f1,0⟩] scope pos) 1 (←holding [x] (pyIter x)) acc env) env
   again (.compLoop (.SetComp elt [⟨t0,i0,f0,0⟩,⟨t1,i1,f1,0⟩] scope pos) 0 it acc env)):=by rfl
theorem Vs(elt t0 i0 t1 i1:Expr)(f0 f1:List Expr)(scope:Scope)(pos:Pos)(it acc:Value)(env:Env):
 compTurn (.SetComp elt [⟨t0,i0,f0,0⟩,⟨t1,i1,f1,0⟩] scope pos) 1 it acc env=(do
  standAt i1.pos
  match ←pyNext it with
  | none=>pure (.done .next)
  | some v=>
   BL t1 it v
   assign t1 env v
   let mut ok:=true
   for c in f1 do
    if ok then ok ←isTrue c env (eval c env)
   if ok then
    (do let v ←eval elt env;standAt elt.pos;let _ ←call (.builtin "set.add") [acc,v])
   again (.compLoop (.SetComp elt [⟨t0,i0,f0,0⟩,⟨t1,i1,f1,0⟩] scope pos) 1 it acc env)):=by rfl
section
variable{R:Result→Shared→Prop}
variable{elt t0 i0 t1 i1:Expr}{f0 f1:List Expr}{it acc:Value}{env:Env}
theorem Vq(I:Nat→Shared→Prop)
 (turn:∀n s,I n s→wpAny (model prog w) A (pyNext it) (λr s₁=>match r with
  | none=>R (.ok .next) s₁
  | some v=>wpAny (model prog w) A (BL t1 it v) (λ_ s₁'=>wpAny (model prog w) A (assign t1 env v) (λ_ s₂=>
   wpAny (model prog w) A (forIn f1 true λc r=>if r=true then do let ok ←isTrue c env (eval c env);pure (ForInStep.yield ok) else pure (ForInStep.yield r)) (λok s₃=>
    if ok=true then wpAny (model prog w) A (eval elt env) (λx s₄=> wpAny (model prog w) A (call (.builtin "set.add") [acc,x]) (λ_ s₅=>∃m,m<n∧I m s₅) (λ_ _=>False) s₄) (λ_ _=>False) s₃
    else ∃m,m<n∧I m s₃) (λ_ _=>False) s₂) (λ_ _=>False) s₁') (λ_ _=>False) s₁) (λ_ _=>False) s)
 (n:Nat) (h:I n s):
 codeAny (model prog w) A (.compLoop (.SetComp elt [⟨t0,i0,f0,0⟩,⟨t1,i1,f1,0⟩] scope pos) 1 it acc env) R s:=by
 refine DE rfl I (λn s hI=>?_) n h;show wpAny _ A ((compTurn (.SetComp elt [⟨t0,i0,f0,0⟩,⟨t1,i1,f1,0⟩] scope pos) 1 it acc env).onRaise (λx=>do noteFrame x env;theTreesLotGoes x)) _ _ s
 refine DT ?_;rw[Vs];refine Aa (Bv (Aa (Ay (turn n s hI) (λr s₁ h₁=>?_) λ_ _ h'=>h'.elim)));cases r with
 | none=>exact Ac h₁
 | some v=>
  refine Aa (Ay h₁ (λ_ s₁' h₁'=>?_) λ_ _ h'=>h'.elim);refine Aa (Ay h₁' (λ_ s₂ h₂=>Aa (Ay h₂ (λok s₃ h₃=>?_) λ_ _ h'=>h'.elim)) λ_ _ h'=>h'.elim);cases ok with
  | false=>exact Ac ⟨rfl,h₃⟩
  | true=> exact Aa (Aa (Ay h₃ (λx s₄ h₄=>Aa (Bv (Aa (Ay h₄ (λ_ s₅ h₅=>Ac (Ac ⟨rfl,h₅⟩)) λ_ _ h'=>h'.elim)))) λ_ _ h'=>h'.elim))
theorem Vp(hs:∀x,Bj i1 env x=pure x)(I:Nat→Shared→Prop)
 (turn:∀n s,I n s→wpAny (model prog w) A (pyNext it) (λr s₁=>match r with
  | none=>R (.ok .next) s₁
  | some v=>wpAny (model prog w) A (BL t0 it v) (λ_ s₁'=>wpAny (model prog w) A (assign t0 env v) (λ_ s₂=>
   wpAny (model prog w) A (forIn f0 true λc r=>if r=true then do let ok ←isTrue c env (eval c env);pure (ForInStep.yield ok) else pure (ForInStep.yield r)) (λok s₃=>
    if ok=true then wpAny (model prog w) A (eval i1 env) (λx s₄=>wpAny (model prog w) A (pyIter x) (λj s₅=> codeAny (model prog w) A (.compStart (.SetComp elt [⟨t0,i0,f0,0⟩,⟨t1,i1,f1,0⟩] scope pos) 1 j acc env) (λr s₆=>r= .ok .next∧∃m,m<n∧I m s₆) s₅) (λ_ _=>False) s₄) (λ_ _=>False) s₃
    else ∃m,m<n∧I m s₃) (λ_ _=>False) s₂) (λ_ _=>False) s₁') (λ_ _=>False) s₁) (λ_ _=>False) s)
 (n:Nat) (h:I n s):
 codeAny (model prog w) A (.compLoop (.SetComp elt [⟨t0,i0,f0,0⟩,⟨t1,i1,f1,0⟩] scope pos) 0 it acc env) R s:=by
 refine DE rfl I (λn s hI=>?_) n h;show wpAny _ A ((compTurn (.SetComp elt [⟨t0,i0,f0,0⟩,⟨t1,i1,f1,0⟩] scope pos) 0 it acc env).onRaise (λx=>do noteFrame x env;theTreesLotGoes x)) _ _ s
 refine DT ?_;rw[Vr];refine Aa (Bv (Aa (Ay (turn n s hI) (λr s₁ h₁=>?_) λ_ _ h'=>h'.elim)));cases r with
 | none=>exact Ac h₁
 | some v=>
  refine Aa (Ay h₁ (λ_ s₁' h₁'=>?_) λ_ _ h'=>h'.elim);refine Aa (Ay h₁' (λ_ s₂ h₂=>Aa (Ay h₂ (λok s₃ h₃=>?_) λ_ _ h'=>h'.elim)) λ_ _ h'=>h'.elim);cases ok with
  | false=>exact Ac ⟨rfl,h₃⟩
  | true=> refine Aa (Ay h₃ (λx s₄ h₄=>?_) λ_ _ h'=>h'.elim);refine Aa (Bv ?_);rw[hs];refine Aa (Ac ?_);refine Aa (AT (Ay h₄ (λj s₅ h₅=>?_) λ_ _ h'=>h'.elim));refine Aa (wpAny_runOwn (Cd h₅ λr s₆ h₆=>?_));obtain⟨rfl,h₆⟩:=h₆;exact Ac ⟨rfl,h₆⟩
theorem Rt(d:Nat)(hd:d=0∨d=1)(h0:codeAny (model prog w) A (.compLoop (.SetComp elt [⟨t0,i0,f0,0⟩,⟨t1,i1,f1,0⟩] scope pos) d it acc env) R s)
 (h:wpAny (model prog w) A (pyIter it) (λit' s'=>codeAny (model prog w) A (.compLoop (.SetComp elt [⟨t0,i0,f0,0⟩,⟨t1,i1,f1,0⟩] scope pos) d it' acc env) R s')
  (notedBy (model prog w) A env λx s'=>R (.error x) s') s):
 codeAny (model prog w) A (.compStart (.SetComp elt [⟨t0,i0,f0,0⟩,⟨t1,i1,f1,0⟩] scope pos) d it acc env) R s:=by
 rcases hd with rfl | rfl
 all_goals
  refine F0 ?_;show wpAny _ _ ((Cr (.SetComp elt [⟨t0,i0,f0,0⟩,⟨t1,i1,f1,0⟩] scope pos) _ it acc env).onRaise (λx=>do noteFrame x env;standAt theWindowsPlace)) _ _ s
  refine wpAny_notedAt ?_;unfold Cr;show wpAny _ _ (ask>>=_) _ _ s;refine Aa (Df (wpAny_ite ?_))
  split
  · first
     | exact Aa (Ac (Ac (And.intro rfl h0)))
     | exact Ac (And.intro rfl h0)
  · first
     | exact Aa (BI (Aa (Bv (Aa (Ay h (λit' s' h'=>Ac (And.intro rfl h')) λ_ _ x=>x)))))
     | (refine Aa (BI ?_);show wpAny _ _ (standAt _>>=_) _ _ s;exact Aa (Bv (Aa (Ay h (λit' s' h'=>Ac (And.intro rfl h')) λ_ _ x=>x))))
theorem Pf{ks:List Str}(T:TxSet prog w h a ks):∃o,h.get? a=some o∧∀v,o.data≠ .cell v:=by obtain⟨es,ep,t,ho,_⟩:=T.at';exact⟨_,ho,λv z=>by cases z⟩
theorem XU{ks:List Str}(T:TxSet prog w s.heap a ks):s.TypeIs (.ref a) "set":=by obtain⟨es,ep,t,ho,_⟩:=T.at';exact⟨_,ho,rfl⟩
theorem Zg{ks:List Str}{k:Str}{tk:Tok}{Q:Value→Shared→Prop}(T:TxSet prog w s.heap a ks)(hroom:ks.length+1<scanBound)
 (h:∀h' ks',BD a s.heap h'→TxSet prog w h' a ks'→ks'.length≤ks.length+1→(∀x,x∈ks'↔x∈ks∨x=k)→Q .none {s with heap:=h',toks:=s.toks+1}):
 wpAny (model prog w) A (call (.builtin "set.add") [.ref a,.str k tk]) Q E s:=by
 refine AV PySem.F.slot_set_add (XU T) PySem.F.entry_set_add ?_ (PySem.F.args_set_add_2 _ _);unfold Builtin.«set.add» Builtin.Frozenset.oneOther;simp only[List.isEmpty_nil,bind_assoc];unfold Builtin.Frozenset.addrOf setAdd;refine Aa (Ac ?_)
 try dsimp only
 refine Aa (Ac ?_)
 try dsimp only
 refine Aa ?_;refine AT ?_;refine Aa ((strKind prog w).pyHash (OH k tk) ?_);refine VB (s:={s with toks:=s.toks+1}) T hroom λh' ks' sb T' l m b=>?_
 show wpAny _ _ (ret Value.none) _ _ _;exact Ac ⟨_,rfl,h h' ks' sb T' l m⟩
theorem Xa{Q:Value→Shared→Prop}(h:Q (.ref s.heap.objs.size) {s with heap:=s.heap.push {cls:= .type "set",dict:=none,data:= .set #[] 0 (.fresh 0 0 (!Ih w))}}):
 wpAny (model prog w) A (newSet (.type "set")) Q E s:=by
 unfold newSet;obtain⟨hp,g,d,tk,os⟩:=s;dsimp only
 wp_walk
 refine Df (Ac ?_);dsimp only;simp only[newObj];refine Aa (wpAny_alloc (Ac ?_));exact h
end
def Ri(J:It)(g:TG)(tc:TT)(te:TE)(σ:St)(ks:List Str)(H:Hp)(M:St→List Str→Hp→Prop):Prop:=
 ∃W:Nat→Nat→St→List Str→Hp→Prop,(∃m,W 0 m σ ks H)∧∀i m σ' zs H,W i m σ' zs H→
  ((J.stop i H∧M σ' zs H)∨(J.go i H∧zs.length<200∧∀x H',J.yld i H x H'→g x σ' H' λσ2 H2=>tc σ2 H2 λb H3=>
    if b=true then te σ2 H3 λy H4=>∃k,y= .str k∧∀zs',zs'.length≤zs.length+1→(∀x,x∈zs'↔x∈zs∨x=k)→zs'.Nodup→∃m',m'<m∧W (i+1) m' σ2 zs' H4
    else ∃m',m'<m∧W (i+1) m' σ2 zs H3))
def O9(J:It)(js:Iz)(g:TG)(tc:TT)(wi1:TI)(g1:TG)(tc1:TT)(te:TE)(σ:St)(H:Hp)(M:List Str→Hp→Prop):Prop:=
 ∃W:Nat→Nat→St→List Str→Hp→Prop,(∃m,W 0 m (inn js σ) [] H)∧∀i m σ' ys H,W i m σ' ys H→
  ((J.stop i H∧M ys H)∨(J.go i H∧∀x H',J.yld i H x H'→g x σ' H' λσ2 H2=>tc σ2 H2 λb H3=>
    if b=true then wi1 σ2 H3 λJ1 H4=>Ri J1 g1 tc1 te σ2 ys H4 λσ3 zs H5=>∃m',m'<m∧W (i+1) m' σ3 zs H5
    else ∃m',m'<m∧W (i+1) m' σ2 ys H3))
section
variable{p:Addr}{ks:List Str}
theorem Sk(I:Inv X pins σ H s)(f:HA X pins H p)(T:TxSet X.prog X.w s.heap p ks):Inv X (pins++Jb [p] s.heap) σ H s:=
 I.pinned (λb hb=>by rw[Af.mp hb];exact f) (λb hb=>by rw[Af.mp hb];exact Pf T)
theorem N7{s':Shared}{σ':St}{H':Hp}(I:Inv X (pins++Jb [p] s.heap) σ' H' s')(f:HA X pins H p)(T:TxSet X.prog X.w s.heap p ks):Inv X pins σ' H' s'∧HA X pins H' p∧TxSet X.prog X.w s'.heap p ks:=by obtain⟨o,ho,_⟩:=Pf T;have hp:=I.pin (p,o) (Ag _ (Ag _ (J8 (Af.mpr rfl) ho)));exact⟨I.unpinned,⟨hp.2.1,f.2⟩,T.kept λo' e=>by rw[ho] at e;cases e;exact hp.1⟩
theorem R7(f:HA X pins H b)(n:b≠p):HA X (pins++Jb [p] h) H b:=by
 obtain⟨f0,f1,f2,f3,f4,f5⟩:=f;refine⟨f0,f1,f2,f3,f4,λq hq=>?_⟩;rcases Aq.mp hq with z | z
 · exact f5 q (BB _ z)
 · rcases Aq.mp z with z | z
   · exact f5 q (Ag _ z)
   · have:=(OY z).1;rw[Af.mp this];exact n.symm
theorem WK{elt t0 i0 t1 i1:Expr}{f0 f1:List Expr}{scope:Scope}{pos:Pos}{g1:TG}{tc1:TT}{te:TE}{J:It}{it:Addr}{fp:List Addr}{tn:Nat→Heap→Prop}{M:St→List Str→Hp→Prop}
 (hc:X.calm=true) (hx:X.xe=λ_ _=>False) (hg:PG X t1 g1) (ht:Ic X f1 tc1) (he:PE X elt te) (I:Inv X pins σ H s) (T:Turn X.prog X.w X.K t1 J fp it tn) (st:tn 0 s.heap) (hf:∀b∈fp,HA X pins H b) (hnp:p ∉ fp) (fp0:HA X pins H p) (Tx:TxSet X.prog X.w s.heap p ks) (hw:Ri J g1 tc1 te σ ks H M):
 codeAny (model X.prog X.w) X.A (.compStart (.SetComp elt [⟨t0,i0,f0,0⟩,⟨t1,i1,f1,0⟩] scope pos) 1 (.ref it) (.ref p) X.env) (λr s'=>r= .ok .next∧∃σ' zs H',Inv X pins σ' H' s'∧HA X pins H' p∧TxSet X.prog X.w s'.heap p zs∧M σ' zs H') s:=by
 obtain⟨W,⟨m0,w0⟩,turn⟩:=hw;have nep:∀b∈fp,b≠p:=λb hb z=>hnp (z ▸ hb);have stat:∀{H':Hp}{h:Heap},(∀b∈fp,H' b=none)→∀b∈fp,HA X (pins++Jb [p] h) H' b:=λhn b hb=>R7 ⟨hn b hb,(hf b hb).2⟩ (nep b hb);have loop:codeAny (model X.prog X.w) X.A (.compLoop (.SetComp elt [⟨t0,i0,f0,0⟩,⟨t1,i1,f1,0⟩] scope pos) 1 (.ref it) (.ref p) X.env) (λr s'=>r= .ok .next∧∃σ' zs H',Inv X pins σ' H' s'∧HA X pins H' p∧TxSet X.prog X.w s'.heap p zs∧M σ' zs H') s:=by
  refine Vq (λn s'=>∃i σ' ys H',Inv X pins σ' H' s'∧tn i s'.heap∧(∀b∈fp,H' b=none)∧HA X pins H' p∧TxSet X.prog X.w s'.heap p ys∧W i n σ' ys H') ?_ m0 ⟨0,σ,ks,H,I,st,λb hb=>(hf b hb).1,fp0,Tx,w0⟩;rintro n s5 ⟨i,σ5,zs,H5,I5,st5,fr5,fp5,T5,w5⟩;have I5p:=Sk I5 fp5 T5;rcases turn i n σ5 zs H5 w5 with⟨stop,qn⟩ | ⟨go,hz,step⟩
  · refine Hx (T.done X rfl rfl rfl hc i _ s5 σ5 H5 (λ_ _=>False) I5p (stat fr5) st5 stop) λr s6 ⟨hr,I6⟩=>?_;subst hr;obtain⟨I6',f6,T6⟩:=N7 I6 fp5 T5;exact⟨rfl,σ5,zs,H5,I6',f6,T6,qn⟩
  · refine Hx (T.item X rfl rfl rfl hc i _ s5 σ5 H5 (λ_ _=>False) I5p (stat fr5) st5 go) λr s6 ⟨u,hr,h6⟩=>?_;subst hr;refine Hx h6 λ_ s7 ⟨x,H7,I7,r7,y7,st7,fr7⟩=>?_;have I7':=I7.pinned (stat fr7) (T.obj _ _ st7);have G:=hg _ s7 σ5 H7 x u _ I7' r7 (step x H7 y7);rw[hx] at G;refine Hx G λ_ s8 ⟨σ8,H8,I8,q8⟩=>?_;have Tt:=ht _ s8 σ8 H8 _ I8 q8;rw[hx] at Tt;refine Hx Tt λb s9 ⟨H9,I9,q9⟩=>?_;have again:∀{s':Shared}{H':Hp},Inv X (pins++Jb [p] s5.heap++Jb fp s7.heap) σ8 H' s'→tn (i+1) s'.heap∧(∀b∈fp,H' b=none)∧Inv X pins σ8 H' s'∧HA X pins H' p∧TxSet X.prog X.w s'.heap p zs:=λ{s' H'}I'=>by
     obtain⟨a1,a2,a3⟩:=N7 I'.unpinned fp5 T5;refine⟨T.keep _ _ _ st7 λb hb o e=>(I'.pin (b,o) (Ag _ (Ag _ (J8 hb e)))).1,λb hb=>?_,a1,a2,a3⟩;obtain⟨o,e,d⟩:=T.obj _ _ st7 b hb;exact(I'.pin (b,o) (Ag _ (Ag _ (J8 hb e)))).2.1
    cases b with
    | false=> obtain⟨m',hm,w'⟩:=q9;obtain⟨a1,a2,a3,a4,a5⟩:=again I9;exact⟨m',hm,i+1,σ8,zs,H9,a3,a1,a2,a4,a5,w'⟩
    | true=> have Ee:=he _ s9 σ8 H9 _ I9 q9;rw[hx] at Ee;show wpAny _ _ _ _ _ _;refine Hx Ee λxv s10 ⟨y,H10,I10,r10,k,hk,q10⟩=>?_;subst hk;obtain⟨tk,rfl⟩:=(show ∃t,xv=Value.str k t from r10);obtain⟨a1,a2,a3,a4,a5⟩:=again I10;refine Zg a5 (by unfold scanBound;omega) λh' zs' sb T' l m=>?_;obtain⟨m',hm,w'⟩:=q10 zs' l m T'.nodup;obtain⟨g0,g1',g2,g3,g4,g5⟩:=a4;refine⟨m',hm,i+1,σ8,zs',H10,a3.turned (t':=s10.toks+1) (λb o hb e=>(sb.2 b hb).trans e) g0 g1' g3 g4 g5,T.keep _ _ _ a1 λb hb o e=>(sb.2 b (nep b hb)).trans e,a2,⟨g0,g1',g2,g3,g4,g5⟩,T',w'⟩
 exact Rt 1 (.inr rfl) loop (T.self _ 0 _ _ _ st loop)
end
section
variable{tg iter tg1 iter1 elt:Expr}{ifs ifs1:List Expr}{wi wi1:TI}{js:Iz}{g g1:TG}{tc tc1:TT}{te:TE}{N':List Str}
theorem WG{pins:List (Addr×Obj)}{σ:St}{H:Hp}{s:Shared}{E:Value→Shared→Prop}{M:List Str→Hp→Prop}{J:It}{it:Addr}{fp:List Addr}{tn:Nat→Heap→Prop}{cl:List (Str×Addr)}
 (hc:X.calm=true) (ok:CapOk X N' js scope) (hs1:∀(e:Env)x,Bj iter1 e x=pure x)
 (h2:∀x c,cl.lookup x=some c→X.env.cells.lookup x=some c) (h3:∀p∈scope.names,p.2= .free→(cl.lookup p.1).isSome=true)
 (hg:∀cl C s₀ H₀ ex,PG (Ib X N' scope cl C s₀ H₀ ex) tg g) (ht:∀cl C s₀ H₀ ex,Ic (Ib X N' scope cl C s₀ H₀ ex) ifs tc) (hi1:∀cl C s₀ H₀ ex,PI (Ib X N' scope cl C s₀ H₀ ex) tg1 iter1 wi1) (hg1:∀cl C s₀ H₀ ex,PG (Ib X N' scope cl C s₀ H₀ ex) tg1 g1) (ht1:∀cl C s₀ H₀ ex,Ic (Ib X N' scope cl C s₀ H₀ ex) ifs1 tc1) (he:∀cl C s₀ H₀ ex,PE (Ib X N' scope cl C s₀ H₀ ex) elt te)
 (I:Inv X pins σ H s) (T:Turn X.prog X.w X.K tg J fp it tn) (st:tn 0 s.heap) (hf:∀b∈fp,HA X pins H b)
 (hw:O9 J js g tc wi1 g1 tc1 te σ H M):
 wpAny (model X.prog X.w) X.A (newSet (.type "set")) (λacc s₃=>wpAny (model X.prog X.w) X.A (newFunctionEnv scope X.env.globals cl [] X.env.qual none .none (some X.env)) (λcenv s₄=>
  codeAny (model X.prog X.w) X.A (.compStart (.SetComp elt [⟨tg,iter,ifs,0⟩,⟨tg1,iter1,ifs1,0⟩] scope pos) 0 (.ref it) acc {cenv with scope:=relabel scope X.env})
   (λr s'=>r= .ok .next∧(∃m,s'.heap.Ns cenv.locals m)∧∃p ks H',acc= .ref p∧p≠cenv.locals∧Inv X pins σ H' s'∧HA X pins H' cenv.locals∧TxSet X.prog X.w s'.heap p ks∧M ks H') s₄) E s₃) E s:=by
 have objs:=T.obj _ _ st;refine Xa ?_;obtain⟨W,⟨m0,w0⟩,turn⟩:=hw;have fpP:HA X pins H s.heap.objs.size:=I.fpOk (Ah _) (I.hok.fresh (Ah _));have kp:∀b u,s.heap.get? b=some u→(s.heap.push {cls:= .type "set",dict:=none,data:= .set #[] 0 (.fresh 0 0 (!Ih X.w))}).get? b=some u:=λb u e=>Ad _ e;have T3:TxSet X.prog X.w (s.heap.push {cls:= .type "set",dict:=none,data:= .set #[] 0 (.fresh 0 0 (!Ih X.w))}) s.heap.objs.size []:=Xw (An s.heap rfl);have lt0:s.heap.objs.size<(s.heap.push {cls:= .type "set",dict:=none,data:= .set #[] 0 (.fresh 0 0 (!Ih X.w))}).objs.size:=Ao (An s.heap (o:={cls:= .type "set",dict:=none,data:= .set #[] 0 (.fresh 0 0 (!Ih X.w))}) rfl);have I3:Inv X pins σ H {s with heap:=s.heap.push {cls:= .type "set",dict:=none,data:= .set #[] 0 (.fresh 0 0 (!Ih X.w))}}:=I.kept (t':=s.toks) kp
 generalize hp:s.heap.objs.size=p at*;have fne:∀b∈fp,b≠p:=λb hb=>by obtain⟨o,e,_⟩:=objs b hb;have:=Ao e;rw[←hp];exact Ar this
 have hf3:∀b∈p::fp,HA X pins H b:=λb hb=>(As.mp hb).elim (λz=>z ▸ fpP) (hf b);have st3:tn 0 (s.heap.push {cls:= .type "set",dict:=none,data:= .set #[] 0 (.fresh 0 0 (!Ih X.w))}):=T.keep _ _ _ st λb _ o e=>kp b o e;have lt3:∀b∈p::fp,b<(s.heap.push {cls:= .type "set",dict:=none,data:= .set #[] 0 (.fresh 0 0 (!Ih X.w))}).objs.size:=λb hb=>by
  rcases As.mp hb with rfl | hb
  · exact lt0
  · obtain⟨o,e,_⟩:=objs b hb;exact Ao (kp b o e)
 generalize hs3:({s with heap:=s.heap.push {cls:= .type "set",dict:=none,data:= .set #[] 0 (.fresh 0 0 (!Ih X.w))}}:Shared)=s3 at*
 have eh:s.heap.push {cls:= .type "set",dict:=none,data:= .set #[] 0 (.fresh 0 0 (!Ih X.w))}=s3.heap:=by rw[←hs3]
 rw[eh] at st3 lt3 T3 lt0;refine Og ok.cells λcl h₁ hns₁ k4 oc=>?_;have I4:=N8 (cl:=cl) (h₁:=h₁) (t':=s3.toks+([]:List (Str×Value)).length) ok I3 h2 h3 hf3 lt3 k4 hns₁ oc;have T4:TxSet X.prog X.w h₁ p []:=T3.kept λo e=>k4 p o e;have st4:tn 0 h₁:=T.keep _ _ _ st3 λb _ o e=>k4 b o e;generalize hX:Ib X N' scope cl s3.heap.objs.size s3 H (p::fp)=X' at I4;have hg':PG X' tg g:=by rw[←hX];exact hg _ _ _ _ _
 have ht':Ic X' ifs tc:=by rw[←hX];exact ht _ _ _ _ _
 have he':PE X' elt te:=by rw[←hX];exact he _ _ _ _ _
 have hi1':PI X' tg1 iter1 wi1:=by rw[←hX];exact hi1 _ _ _ _ _
 have hg1':PG X' tg1 g1:=by rw[←hX];exact hg1 _ _ _ _ _
 have ht1':Ic X' ifs1 tc1:=by rw[←hX];exact ht1 _ _ _ _ _
 have hs1':∀x,Bj iter1 (compEnvC scope cl s3.heap.objs.size X.env) x=pure x:=hs1 _;have eP:X'.prog=X.prog:=by rw[←hX];rfl
 have ew:X'.w=X.w:=by rw[←hX];rfl
 have eK:X'.K=X.K:=by rw[←hX];rfl
 have ec:X'.calm=true:=by rw[←hX];exact hc
 have eA:X'.A=X.A:=by rw[←hX];rfl
 have ex:X'.xe=λ_ _=>False:=by rw[←hX];rfl
 have eE:X'.env=compEnvC scope cl s3.heap.objs.size X.env:=by rw[←hX];rfl
 have eEx:X'.ex=p::fp:=by rw[←hX];rfl
 have eN:X'.pn=[]:=by rw[←hX];rfl
 have stat:∀{H':Hp}{b:Addr},b∈p::fp→H' b=none→HA X' [] H' b:=λ{H' b}hb hn=>by have okc:=I4.ok;refine⟨hn,(okc.exf b (by rw[eEx];exact hb)).1,okc.exfs b (by rw[eEx];exact hb),.inl (by rw[eEx];exact hb),(okc.exf b (by rw[eEx];exact hb)).2,λq hq=>?_⟩;rw[eN] at hq;cases hq
 have loop:∀s₄:Shared,s₄={s3 with heap:=h₁,toks:=s3.toks+([]:List (Str×Value)).length}→
  codeAny (model X.prog X.w) X.A (.compLoop (.SetComp elt [⟨tg,iter,ifs,0⟩,⟨tg1,iter1,ifs1,0⟩] scope pos) 0 (.ref it) (.ref p) (compEnvC scope cl s3.heap.objs.size X.env))
   (λr s'=>r= .ok .next∧(∃m,s'.heap.Ns s3.heap.objs.size m)∧∃p' ks H',Value.ref p= .ref p'∧p'≠s3.heap.objs.size∧Inv X pins σ H' s'∧HA X pins H' s3.heap.objs.size∧TxSet X.prog X.w s'.heap p' ks∧M ks H') s₄:=by
  rintro s₄ rfl;have wpin:∀{h:Heap}{H':Hp},(∀b∈fp,H' b=none)→∀b∈fp,HA X' ([]++Jb [p] h) H' b:=λ{h H'}hn b hb=>R7 (stat (AE _ hb) (hn b hb)) (fne b hb);refine Vp hs1' (λn s'=>∃i σ' ys H',Inv X' [] σ' H' s'∧tn i s'.heap∧(∀b∈fp,H' b=none)∧HA X' [] H' p∧TxSet X'.prog X'.w s'.heap p ys∧W i n σ' ys H') ?_ m0 ⟨0,_,[],_,I4,st4,λb hb=>(hf b hb).1,stat Az fpP.1,by rw[eP,ew];exact T4,w0⟩;rintro n s5 ⟨i,σ5,ys,H5,I5,st5,fr5,fp5,T5,w5⟩;have I5p:=Sk I5 fp5 T5;rcases turn i n σ5 ys H5 w5 with⟨stop,qn⟩ | ⟨go,step⟩
  · have D:=T.done X' eP ew eK ec i _ s5 σ5 H5 (λ_ _=>False) I5p (wpin fr5) st5 stop;rw[eA] at D;refine Hx D λr s6 ⟨hr,I6p⟩=>?_;subst hr;obtain⟨I6,f6,T6⟩:=N7 I6p fp5 T5;refine⟨rfl,?_,p,ys,H5,rfl,Ar lt0,?_,?_,by rw[eP,ew] at T6;exact T6,qn⟩
    · obtain⟨m,hm,_⟩:=I6.loc;rw[eE] at hm;exact⟨m,hm⟩
    · have b6:=I6.base;have ho:=I6.os;have hk:=I6.hok;have hb:=I6.bare;subst hX;exact I3.call' (ch:=p::fp) ho b6 hk hb λb hb'=>⟨(hf3 b hb').2.2.2.1,(hf3 b hb').2.1,(hf3 b hb').2.2.2.2.1,(hf3 b hb').2.2.2.2.2⟩
    · have fr:=I6.free;rw[eE] at fr;exact I3.fpOk (Ah _) fr
  · have D:=T.item X' eP ew eK ec i _ s5 σ5 H5 (λ_ _=>False) I5p (wpin fr5) st5 go;rw[eA] at D;refine Hx D λr s6 ⟨u,hr,h6⟩=>?_;subst hr;refine Hx h6 λ_ s7 ⟨x,H7,I7,r7,y7,st7,fr7⟩=>?_;have I7':=I7.pinned (wpin fr7) (T.obj _ _ st7);have G:=hg' _ s7 σ5 H7 x u _ I7' r7 (step x H7 y7);rw[eP,ew,eA,ex,eE] at G;refine Hx G λ_ s8 ⟨σ8,H8,I8,q8⟩=>?_;have Tt:=ht' _ s8 σ8 H8 _ I8 q8;rw[eP,ew,eA,ex,eE] at Tt;refine Hx Tt λb s9 ⟨H9,I9,q9⟩=>?_;have again:∀{s':Shared}{σ8:St}{ys':List Str}{H':Hp},Inv X' ([]++Jb fp s7.heap) σ8 H' s'→HA X' [] H' p→TxSet X'.prog X'.w s'.heap p ys'→(∃m',m'<n∧W (i+1) m' σ8 ys' H')→
     ∃m,m<n∧∃i σ' ys H',Inv X' [] σ' H' s'∧tn i s'.heap∧(∀b∈fp,H' b=none)∧HA X' [] H' p∧TxSet X'.prog X'.w s'.heap p ys∧W i m σ' ys H':=λ{s' σ8 ys' H'}I' f' T' ⟨m',hm,w'⟩=>by
     refine⟨m',hm,i+1,σ8,ys',H',I'.unpinned,T.keep _ _ _ st7 λb hb o e=>(I'.pin (b,o) (Ag _ (Ag _ (J8 hb e)))).1,λb hb=>?_,f',T',w'⟩;obtain⟨o,e,d⟩:=T.obj _ _ st7 b hb;exact(I'.pin (b,o) (Ag _ (Ag _ (J8 hb e)))).2.1
    have drop:∀{s':Shared}{σ8:St}{H':Hp},Inv X' ([]++Jb [p] s5.heap++Jb fp s7.heap) σ8 H' s'→Inv X' ([]++Jb fp s7.heap) σ8 H' s'∧HA X' [] H' p∧TxSet X'.prog X'.w s'.heap p ys:=λ{s' σ8 H'}I'=>by obtain⟨a1,a2,a3⟩:=N7 I'.unpinned fp5 T5;exact⟨I'.pins_of λq hq=>I'.pin q (Ag _ ((Aq.mp hq).elim (λz=>nomatch z) λz=>Ag _ z)),a2,a3⟩
    cases b with
    | false=> obtain⟨a1,a2,a3⟩:=drop I9;exact again a1 a2 a3 q9
    | true=>
     have Ei:=hi1' _ s9 σ8 H9 _ I9 q9;rw[eP,ew,eA,ex,eE] at Ei;show wpAny _ _ _ _ _ _;refine Hx Ei λxv s10 h10=>Hx h10 λitv s11 h11=>?_;obtain⟨it1,fp1,tn1,J1,H11,e11,I11,T1,st11,f11,hw11⟩:=h11;subst e11;obtain⟨a1,a2,a3⟩:=drop I11;obtain⟨o5,ho5,_⟩:=Pf T5;have npp:p ∉ fp1:=λhb=>(f11 p hb).2.2.2.2.2 (p,o5) (Ag _ (BB _ (Ag _ (J8 (Af.mpr rfl) ho5)))) rfl;have f11':∀b∈fp1,HA X' ([]++Jb fp s7.heap) H11 b:=λb hb=>by
      obtain⟨g0,g1',g2,g3,g4,g5⟩:=f11 b hb;refine⟨g0,g1',g2,g3,g4,λq hq=>g5 q ?_⟩;rcases Aq.mp hq with z | z
      · exact BB _ z
      · exact Ag _ ((Aq.mp z).elim (λz=>nomatch z) λz=>Ag _ z)
     have a2':HA X' ([]++Jb fp s7.heap) H11 p:=by
      obtain⟨g0,g1',g2,g3,g4,g5⟩:=a2;refine⟨g0,g1',g2,g3,g4,λq hq=>?_⟩;rcases Aq.mp hq with z | z
      · exact g5 q (BB _ z)
      · have:=(OY ((Aq.mp z).elim (λz=>nomatch z) id)).1;exact fne _ this
     have In:=WK (X:=X') (elt:=elt) (t0:=tg) (i0:=iter) (t1:=tg1) (i1:=iter1) (f0:=ifs) (f1:=ifs1) (scope:=scope) (pos:=pos) ec ex hg1' ht1' he' a1 T1 st11 f11' npp a2' a3 hw11;rw[eP,ew,eA,eE] at In;refine Cd In λr s12 ⟨hr,σ12,zs,H12,I12,f12,T12,m12⟩=>⟨hr,?_⟩;exact again I12 (stat Az f12.1) (by rw[eP,ew];exact T12) m12
 exact Rt 0 (.inl rfl) (loop _ rfl) (T.self _ 0 _ _ _ st4 (loop _ rfl))
def VA(wi:TI)(js:Iz)(g:TG)(tc:TT)(wi1:TI)(g1:TG)(tc1:TT)(te:TE):TE:=λσ H Q=>wi σ H λJ H1=>O9 J js g tc wi1 g1 tc1 te σ H1 λks H2=>ks.length<64∧
 ∀(p:Addr)(ms:List Str),ms.Perm ks→ms.Nodup→sortedS ms=true→H2 p=none→Q (.ref p) (Hr H2 p (.lst (ms.map V.str)))
theorem Xl{p4 pos':Pos}(hg0:Gl X "sorted")(hm0:X.mg "sorted"=none)(hc:X.calm=true)(ok:CapOk X N' js scope)(hi:PI X tg iter wi)
 (hg:∀cl C s₀ H₀ ex,PG (Ib X N' scope cl C s₀ H₀ ex) tg g) (ht:∀cl C s₀ H₀ ex,Ic (Ib X N' scope cl C s₀ H₀ ex) ifs tc) (hi1:∀cl C s₀ H₀ ex,PI (Ib X N' scope cl C s₀ H₀ ex) tg1 iter1 wi1) (hg1:∀cl C s₀ H₀ ex,PG (Ib X N' scope cl C s₀ H₀ ex) tg1 g1) (ht1:∀cl C s₀ H₀ ex,Ic (Ib X N' scope cl C s₀ H₀ ex) ifs1 tc1) (he:∀cl C s₀ H₀ ex,PE (Ib X N' scope cl C s₀ H₀ ex) elt te)
 (hs:∀x,Bj iter X.env x=pure x:=by intro _;rfl) (hs1:∀(e:Env)x,Bj iter1 e x=pure x:=by intro _ _;rfl)
 (h2:AR [.SetComp elt [⟨tg,iter,ifs,0⟩,⟨tg1,iter1,ifs1,0⟩] scope pos'] X.env=(false,eval (.SetComp elt [⟨tg,iter,ifs,0⟩,⟨tg1,iter1,ifs1,0⟩] scope pos') X.env)::AR [] X.env:=by rfl)
 (h4:(backTo pos (AR [] X.env)).any (·.1)=false:=by rfl):
 PE X (.Call (.Name "sorted" p4) [.SetComp elt [⟨tg,iter,ifs,0⟩,⟨tg1,iter1,ifs1,0⟩] scope pos'] [] pos) (VA wi js g tc wi1 g1 tc1 te):=by
 intro pins s σ H Q I h;refine C9 (Lg I hg0 hm0 N4 ?_ (by decide) (by decide));refine Em ?_ h2 h4;rw[h2];show wpAny _ _ (spliced ((false,eval (.SetComp elt [⟨tg,iter,ifs,0⟩,⟨tg1,iter1,ifs1,0⟩] scope pos') X.env)::backTo pos (AR [] X.env))) _ _ s;refine DC ?_;obtain⟨cl,c1,c2,c3⟩:=M0 (scope:=scope) I.ok.has ok.free;rw[arm_eval_SetComp];refine CD (use:=none) rfl hs c1 ok.kind ok.names (Hx (hi pins s σ H _ I h) λv s1 h1=>Hx h1 λitv s2 h2=>?_);obtain⟨it,fp,tn,J,H2,e,I2,T,st2,f2,hw⟩:=h2;subst e;refine Ay (WG (iter:=iter) (pos:=pos') hc ok hs1 c2 c3 hg ht hi1 hg1 ht1 he I2 T st2 f2 hw) (λacc s3 h3=>Ay h3 (λcenv s4 h4=>?_) λ_ _ z=>z) λ_ _ z=>z;refine Cd h4 λr s5 h5=>?_;obtain⟨rfl,⟨m,hm⟩,p,ks,H5,rfl,npl,I5,f5,T5,h64,q5⟩:=h5;refine⟨m,hm,λh' sb=>?_⟩;obtain⟨f0,f1,_,f3,f4,f6⟩:=f5;have I6:Inv X pins σ H5 {s5 with heap:=h',toks:=s5.toks}:=I5.turned (t':=s5.toks) (λb o hb e=>(sb.2 b hb).trans e) f0 f1 f3 f4 f6
 have T6:TxSet X.prog X.w h' p ks:=T5.kept λo e=>(sb.2 p npl).trans e;refine EQ ?_;refine Y9 (s:={s5 with heap:=h'}) (I.ok.hd hc) T6 h64 λp' h2 d2 tk2 out ms ee a1 a2 a3 a4 a5 a6=>?_
 have hn1:H5 p'=none:=I6.hok.fresh a4;have I7:Inv X pins σ H5 {s5 with heap:=h',drawn:=d2,toks:=s5.toks}:=⟨I6.ok,I6.os,I6.bare,I6.base,I6.loc,I6.cell,I6.free,I6.freeC,I6.pin,I6.hok,I6.len⟩
 refine⟨.ref p',Hr H5 p' (.lst (ms.map V.str)),I7.laid (t':=tk2) a6 a4 ?_,rfl,q5 p' ms a2 (a2.nodup_iff.mpr T6.nodup) a3 hn1⟩;have hlen:ms.length<64:=by rw[a2.length_eq];exact h64
 exact⟨by rw[Ab,sizeLine_eq];omega,out.toList,ee,Oa a1,by simpa [Bm] using a5⟩
end
open PySem.AutoSeq1 (wpAny_loadPart')
theorem Xc(l:Addr)(xs:Array Value):
 Meets (Builtin.«enumerate.__new__» ⟨[.type "enumerate",.ref l],[]⟩) (λ_ R s=>s.heap.IsTuple l xs∧R (.ok (.ret (.ref (s.heap.push {cls:= .type "tuple_iterator",data:= .fields #[.ref l,.int 0 0]}).objs.size)))
  {s with heap:=(s.heap.push {cls:= .type "tuple_iterator",data:= .fields #[.ref l,.int 0 0]}).push {cls:= .type "enumerate",data:= .fields #[.none,.bool false,.ref s.heap.objs.size,rawInt 0,.none,.none]}}):=
 .of_wp λprog w A R s h=>by
  obtain⟨hp,g,d,tk,os⟩:=s;have f0:=sub_enumerate;have f1:Heap.IsTuple (Shared.heap ⟨hp,g,d,tk,os⟩) l xs:=h.1
  wp_walk
  refine wpAny_stack_any λst=>Ac ?_
  split
  · rename_i c _ _ _ _ _;by_cases hc:(c==Value.type "enumerate")=true
    · rw[hc]
      wp_walk using C8 f1
      exact⟨_,rfl,h.2⟩
    · have hc':(c==Value.type "enumerate")=false:=by simpa using hc
      rw[hc']
      wp_walk using C8 f1
      exact⟨_,rfl,h.2⟩
  · wp_walk using C8 f1
    exact⟨_,rfl,h.2⟩
section
variable{it l e:Addr}{xs:Array Value}{x old:Value}
theorem V6{Q:Value→Shared→Prop}(hi:s.heap.IsTupleIter it l i)(hl:s.heap.IsTuple l xs)(hx:xs[i]?=some x)
 (q:∀h',h'.IsTupleIter it l (i+1)→BD it s.heap h'→Q x {s with heap:=h'}):wpAny (model prog w) A (A_ (.ref it)) Q E s:=by
 obtain⟨o,h1,h2,h3⟩:=id hi;obtain⟨u,g1,_,n,g2⟩:=hl;unfold A_;refine Aa (Bb (name:=BE "__next__") hi.typeIs Bn (AV Bn hi.typeIs C4 ?go (Cy _)))
 case go=> show wpAny _ _ (field (Value.ref it) 0>>=_) _ _ s;refine Aa (AZ h1 h3 (x:= .ref l) rfl ?_);rw[if_neg (by intro z;cases z)];show wpAny _ _ (field (Value.ref it) 1>>=_) _ _ s;refine Aa (AZ h1 h3 (x:= .int i 0) rfl ?_);show wpAny _ _ (seqItems? (Value.ref l)>>=_) _ _ s;refine Aa (Bd g1 g2 ?_);simp only[Bk,hx];refine Aa (BP h1 h3 (by simp) (Ac ⟨x,rfl,Ac (q _ ⟨_,Bh _ h1 (FJ (DG h3 _)),(Obj.cls_mapFields ..).trans h2,?_⟩ (AU ..))⟩));rw[DG h3];simp[rawInt]
theorem Yi{Q:Value→Shared→Prop}(hh:A.handled=none)(hi:s.heap.IsTupleIter it l i)(hl:s.heap.IsTuple l xs)(hx:xs[i]?=none)
 (q:∀h' e,DU it s.heap h'→(∃o,h'.get? e=some o∧o.cls= .type "StopIteration")→E (.ref e) {s with heap:=h'}):wpAny (model prog w) A (A_ (.ref it)) Q E s:=by
 obtain⟨o,h1,h2,h3⟩:=id hi;obtain⟨u,g1,_,n,g2⟩:=hl;unfold A_;refine Aa (Bb (name:=BE "__next__") hi.typeIs Bn (AV Bn hi.typeIs C4 ?go (Cy _)))
 case go=>
  show wpAny _ _ (field (Value.ref it) 0>>=_) _ _ s;refine Aa (AZ h1 h3 (x:= .ref l) rfl ?_);rw[if_neg (by intro z;cases z)];show wpAny _ _ (field (Value.ref it) 1>>=_) _ _ s;refine Aa (AZ h1 h3 (x:= .int i 0) rfl ?_);show wpAny _ _ (seqItems? (Value.ref l)>>=_) _ _ s;refine Aa (Bd g1 g2 ?_);simp only[Bk,hx];refine Aa (BI (Aa (BP h1 h3 (by simp) ?_)));show wpAny _ _ (newExc (Value.type "StopIteration") []>>=_) _ _ _;refine Aa ?_;unfold newExc newTuple;refine Aa (AW ?_ (by size_fits));refine Aa (m:=firstArgMember _ _) (D3 (a:=Value.none) (by first | rfl | (simp only[firstArgMember];rfl)) ?_)
  refine AW ?_ (by size_fits);unfold raiseNew;refine Aa (wpAny_handled ?_)
  first | rw[show A.in1.handled=none from hh] | rw[hh]
  exact Aa (Ac (wpAny_throw (q _ _ (((AU ..).extBut.push _).push _) ⟨_,An _ rfl,rfl⟩)))
theorem X8{Q:Option Value→Shared→Prop}(he:IsEnum s.heap e it i old)(hi:s.heap.IsTupleIter it l i)(hl:s.heap.IsTuple l xs)(hx:xs[i]?=some x)(ne:e≠it)
 (q:∀h',IsEnumOut h' e it ((i:Int)+1) x s.heap.objs.size→h'.IsTupleIter it l (i+1)→h'.get? s.heap.objs.size=some {cls:= .type "tuple",data:= .seq #[.int i s.toks,x]}→
  (∀b o,b≠e→b≠it→s.heap.get? b=some o→h'.get? b=some o)→Q (some (.ref s.heap.objs.size)) {s with heap:=h',toks:=s.toks+1}):
 wpAny (model prog w) A (pyNext (.ref e)) Q E s:=by
 have ty:s.TypeIs (.ref e) "enumerate":=⟨_,he,rfl⟩;unfold pyNext;refine Aa (Do (Bb (name:=BE "__next__") ty CU (AV CU ty E4 ?go (Es _))))
 case go=>
  obtain⟨hp,g,d,tk,os⟩:=s;have lte:e<hp.objs.size:=Ao he;have nT:hp.objs.size≠e:=C1 lte;show wpAny _ _ (field (Value.ref e) 2>>=_) _ _ _;refine Aa (AZ he rfl (x:= .ref it) rfl ?_);refine Aa (V6 hi hl hx λk1 i1 b1=>?_)
  replace b1:BD it hp k1:=b1
  have e1:IsEnum k1 e it i old:=(b1.2 e ne).trans he;show wpAny _ _ (field (Value.ref e) 3>>=_) _ _ ⟨k1,g,d,tk,os⟩;refine Aa (AZ e1 rfl (x:=rawInt i) rfl ?_);show wpAny _ _ (field (Value.ref e) 4>>=_) _ _ ⟨k1,g,d,tk,os⟩;refine Aa (AZ e1 rfl (x:= .none) rfl ?_);show wpAny _ _ (mkInt i>>=_) _ _ ⟨k1,g,d,tk,os⟩;refine Aa (wpAny_mkInt ?_);show wpAny _ _ (setField (Value.ref e) 3 (rawInt ((i:Int)+1))>>=_) _ _ ⟨k1,g,d,tk+1,os⟩;refine Aa (BJ e1 (by simp) λk2 e2 b2=>?_)
  replace b2:BD e k1 k2:=b2
  replace e2:IsEnum k2 e it ((i:Int)+1) old:=e2
  show wpAny _ _ (setField (Value.ref e) 4 .none>>=_) _ _ ⟨k2,g,d,tk+1,os⟩;refine Aa (BJ e2 (by simp) λk3 e3 b3=>?_)
  replace b3:BD e k2 k3:=b3
  replace e3:IsEnum k3 e it ((i:Int)+1) old:=e3
  show wpAny _ _ (newTuple [.int i tk,x]>>=_) _ _ ⟨k3,g,d,tk+1,os⟩;refine Aa (E2 ?_);have z3:k3.objs.size=hp.objs.size:=by rw[b3.1,b2.1,b1.1]
  have k13:∀b o,b≠e→k1.get? b=some o→k3.get? b=some o:=λb o n h=>b3.extBut b o n (b2.extBut b o n h);have e4:IsEnum (k3.push {cls:= .type "tuple",data:= .seq #[.int i tk,x]}) e it ((i:Int)+1) old:=Ad _ e3;have t4:(k3.push {cls:= .type "tuple",data:= .seq #[.int i tk,x]}).get? hp.objs.size=some {cls:= .type "tuple",data:= .seq #[.int i tk,x]}:=by rw[←z3];exact An _ rfl
  have k4:∀b o,b≠e→k1.get? b=some o→(k3.push {cls:= .type "tuple",data:= .seq #[.int i tk,x]}).get? b=some o:=λb o n h=>Ad _ (k13 b o n h);show wpAny _ _ (BF (.ref e)>>=_) _ _ ⟨k3.push {cls:= .type "tuple",data:= .seq #[.int i tk,x]},g,d,tk+1,os⟩;rw[z3];generalize k3.push {cls:= .type "tuple",data:= .seq #[.int i tk,x]}=h4 at*;refine Aa ?_;unfold BF;refine Aa (AZ e4 rfl (x:= .none) rfl (Ac ?_));rw[if_pos rfl];refine Aa (BI (Aa (AZ e4 rfl (x:=old) rfl (Aa (BJ e4 (by simp) λh5 e5 b5=>?_)))))
  replace b5:BD e h4 h5:=b5
  replace e5:IsEnum h5 e it ((i:Int)+1) x:=e5
  show wpAny _ _ (Cs (.ref e) (.ref hp.objs.size)>>=_) _ _ ⟨h5,g,d,tk+1,os⟩;refine Aa ?_;unfold Cs;refine Aa (BJ e5 (by simp) λh6 e6 b6=>?_)
  replace b6:BD e h5 h6:=b6
  replace e6:IsEnumOut h6 e it ((i:Int)+1) x hp.objs.size:=e6
  refine BJ e6 (by simp) λh7 e7 b7=>?_
  replace b7:BD e h6 h7:=b7
  replace e7:IsEnumOut h7 e it ((i:Int)+1) x hp.objs.size:=e7
  have k7:∀b o,b≠e→h4.get? b=some o→h7.get? b=some o:=λb o n h=>b7.extBut b o n (b6.extBut b o n (b5.extBut b o n h));obtain⟨oi,g1,g2⟩:=i1;exact Aa (Ce (Ac ⟨_,rfl,Ac (q h7 e7 ⟨oi,k7 _ _ ne.symm (k4 _ _ ne.symm g1),g2⟩ (k7 _ _ nT t4) λb o n1 n2 h=>k7 b o n1 (k4 b o n1 (b1.extBut b o n2 h)))⟩))
theorem Xb{Q:Option Value→Shared→Prop}(hh:A.handled=none)(he:IsEnum s.heap e it i old)(hi:s.heap.IsTupleIter it l i)(hl:s.heap.IsTuple l xs)(hx:xs[i]?=none)
 (q:∀h',DU it s.heap h'→Q none {s with heap:=h'}):wpAny (model prog w) A (pyNext (.ref e)) Q E s:=by
 have ty:s.TypeIs (.ref e) "enumerate":=⟨_,he,rfl⟩;unfold pyNext;refine Aa (Do (Bb (name:=BE "__next__") ty CU (AV CU ty E4 ?go (Es _))))
 case go=> show wpAny _ _ (field (Value.ref e) 2>>=_) _ _ _;refine Aa (AZ he rfl (x:= .ref it) rfl (Aa (Yi hh hi hl hx λh' x k ⟨o,g1,g2⟩=>?_)));exact Aa (De (T:="StopIteration") (b:=true) ⟨o,g1,g2⟩ isSubtype_stop (Ac (q _ k)))
end
def Ky(K:Ae)(a:Addr):It:=
 ⟨λk H=>∃(xs:List V)(x:V),SqT K H a xs∧xs[k]?=some x,
  λk H v H'=>∃p,v= .ref p∧H p=none∧∀(xs:List V)(x:V),SqT K H a xs→xs[k]?=some x→H'=Hr H p (.tup [.int k,x]),
  λk H=>∃(xs:List V),SqT K H a xs∧xs.length≤k⟩
theorem Xx{P:Br}{w:World}{K:Ae}{es:List Expr}{kk:Nat}{pos:Pos}(a e it:Addr)(D:e≠it):
 Turn P w K (.Tuple es kk pos) (Ky K a) [e,it] e (λk h=>(∃old,IsEnum h e it k old)∧h.IsTupleIter it a k) where
 mem:=by simp
 obj:=λk h st c hc=>by
  obtain⟨⟨old,hz⟩,⟨oi,ei,_,di⟩⟩:=st;simp only[As,Bo,or_false] at hc;rcases hc with rfl | rfl
  · exact⟨_,hz,λv e=>by cases e⟩
  · exact⟨oi,ei,λv e=>by rw[di] at e;cases e⟩
 keep:=λk h h' st kp=>by obtain⟨⟨old,hz⟩,⟨oi,ei,ri⟩⟩:=st;exact⟨⟨old,kp e (by simp) _ hz⟩,⟨oi,kp it (by simp) _ ei,ri⟩⟩
 item:=by
  intro X hP hw hK hc k pins s σ H E I hf st hg;subst hP hw hK;obtain⟨xs,x,q1,hx⟩:=hg;obtain⟨⟨old,hz⟩,h1⟩:=st;obtain⟨its1,r1,g1,_⟩:=I.tuple q1;obtain⟨u1,hu1,v1⟩:=r1.get hx;have fz:=hf e (by simp);have fi:=hf it (by simp);refine X8 hz h1 g1 (by simpa using hu1) D λg a1 a2 a3 a5=>?_;refine⟨_,rfl,wpAny_letOwnedTupleGo_enum a1 λg' z' m'=>?_⟩;have zT:e≠s.heap.objs.size:=Ar (Ao hz);have up:∀c o,c≠e→g.get? c=some o→g'.get? c=some o:=λc o hc e=>m'.extBut c o hc e;have fr:H s.heap.objs.size=none:=I.hok.fresh (Ah _);have I1:Inv X pins σ (Hr H s.heap.objs.size (.tup [.int k,x])) {s with heap:=g',toks:=s.toks+1}:=by
   refine I.newTup (t':=s.toks+1) [e,it] (λc hc=>?_) (λc o hc e=>?_) (Ah _) ⟨[.int k s.toks,u1],.cons ⟨_,rfl⟩ (.cons v1 .nil),_,up _ _ zT.symm a3,rfl,rfl,_,rfl⟩
   · simp only[As,Bo,or_false] at hc;rcases hc with rfl | rfl
     · exact fz
     · exact fi
   · simp only[As,Bo,or_false,not_or] at hc;exact up c o hc.1 (a5 c o hc.1 hc.2 e)
  obtain⟨oi,ei,ri⟩:=a2;refine⟨.ref s.heap.objs.size,_,I1,rfl,⟨_,rfl,fr,λxs' x' s1 e1=>?_⟩,⟨⟨_,z'⟩,⟨oi,up _ _ D.symm ei,ri⟩⟩,λc hc=>?_⟩
  · rw[I.tuple_inj s1 q1,hx] at e1;cases e1;rfl
  · have fc:=hf c hc;have:c≠s.heap.objs.size:=by
     simp only[As,Bo,or_false] at hc;obtain⟨oi',ei',_⟩:=h1;rcases hc with rfl | rfl
     · exact zT
     · exact Ar (Ao ei')
    rw[HD this];exact fc.1
 done:=by
  intro X hP hw hK hc k pins s σ H E I hf st hg;subst hP hw hK;obtain⟨xs,q1,hend⟩:=hg;obtain⟨⟨old,hz⟩,h1⟩:=st;obtain⟨its1,r1,g1,_⟩:=I.tuple q1;have l1:=r1.length;refine Xb (I.ok.hd hc) hz h1 g1 (by simp;omega) λg kp=>?_;refine⟨rfl,I.turnedN (t':=s.toks) [it] (λc hc=>?_) (λc o hc e=>?_)⟩
  · simp only[As,Bo,or_false] at hc;subst hc;exact hf c (by simp)
  · simp only[As,Bo,or_false] at hc;exact kp c o hc e
 self:=λ_ _ _ _ _ st h=>by obtain⟨⟨old,hz⟩,_⟩:=st;exact wpAny_pyIter_enum hz h
def Vb(K:Ae)(ta:TA):TI:=λσ H R=>ta σ H λvs H1=>∃t,vs=[.ref t]∧(∃xs,SqT K H1 t xs)∧R (Ky K t) H1
theorem Wg{es:List Expr}{kk:Nat}{tpos:Pos}{a:Expr}{ta:TA}{p pos:Pos}(hg:Gl X "enumerate")(hm:X.mg "enumerate"=none)(ha:PA X [a] ta)
 (he:AR [a] X.env=(false,eval a X.env)::AR [] X.env:=by rfl) (hpl:(backTo pos (AR [] X.env)).any (·.1)=false:=by rfl):
 PI X (.Tuple es kk tpos) (.Call (.Name "enumerate" p) [a] [] pos) (Vb X.K ta):=by
 intro pins s σ H R I h;refine C9 (Lg I hg hm YE ?_ (by decide) (by decide));refine CO (Hx (ha pos pins s σ H _ I h) λus s1 ⟨vs,H1,I1,r1,t,e,⟨xs,q1⟩,q⟩=>?_) he hpl;subst e;obtain⟨u1,rfl,v1⟩:=Jx r1;cases v1;obtain⟨its1,rv1,g0,_⟩:=I1.tuple q1;refine callType_new PySem.F.called_enumerate (by decide) (PySem.F.typeCall_enumerate_1 _) (PySem.F.newCall_enumerate_1 _) (λobj=>PySem.F.args_object_init_2 obj _) PySem.F.entry_enumerate_new (Xc t its1.toArray) ⟨g0,?_⟩;generalize hh5:((s1.heap.push {cls:= .type "tuple_iterator",data:= .fields #[.ref t,.int 0 0]}).push {cls:= .type "enumerate",data:= .fields #[.none,.bool false,.ref s1.heap.objs.size,rawInt 0,.none,.none]})=h5;have y1:(s1.heap.push {cls:= .type "tuple_iterator",data:= .fields #[.ref t,.int 0 0]}).objs.size=s1.heap.objs.size+1:=BA ..;have k5:∀c o,s1.heap.get? c=some o→h5.get? c=some o:=λc o e=>by rw[←hh5];exact Ad _ (Ad _ e)
 have e5:IsEnum h5 (s1.heap.objs.size+1) s1.heap.objs.size 0 .none:=by have:=An (s1.heap.push {cls:= .type "tuple_iterator",data:= .fields #[.ref t,.int 0 0]}) (o:={cls:= .type "enumerate",data:= .fields #[.none,.bool false,.ref s1.heap.objs.size,rawInt 0,.none,.none]}) rfl;rw[y1,hh5] at this;exact this
 have e1:h5.IsTupleIter s1.heap.objs.size t 0:=by rw[←hh5];exact⟨_,Ad _ (An _ rfl),rfl,rfl⟩
 have I2:Inv X pins σ H1 {s1 with heap:=h5}:=I1.kept (t':=s1.toks) k5
 have fp:∀c,s1.heap.objs.size≤c→HA X pins H1 c:=λc hc=>I1.fpOk hc (I1.hok.fresh hc);show _∧_;rw[y1];refine⟨⟨_,e5,rfl⟩,wpAny_pyIter_enum e5 ?_⟩;refine⟨_,_,_,_,H1,rfl,I2,Xx t _ _ (C1 (C7 _)),⟨⟨_,e5⟩,e1⟩,λc hc=>fp c ?_,q⟩;simp only[As,Bo,or_false] at hc;rcases hc with rfl | rfl
 · exact CN _
 · exact Ah _
theorem Xf{K:Ae}{g:TG}{tb:TS}{D:Ends}(Pv:Nat→St→Hp→Prop)(h0:Pv 0 σ H)(hl:∀i σ H,i≤xs.length→Pv i σ H→SqT K H a xs)
 (hs:∀i x q σ H,xs[i]?=some x→H q=none→Pv i σ H→g (.ref q) σ (Hr H q (.tup [.int i,x])) λσ2 H2=>tb {D with nx:=Pv (i+1),ct:=Pv (i+1),bk:=D.nx} σ2 H2) (hd:∀σ H,Pv xs.length σ H→D.nx σ H):
 ∃W:Nat→Nat→St→Hp→Prop,(∃m,W 0 m σ H)∧∀i m σ H,W i m σ H→
  ((Ky K a).stop i H∧D.nx σ H)∨((Ky K a).go i H∧∃N:St→Hp→Prop,(∀σ' H',N σ' H'→∃m',m'<m∧W (i+1) m' σ' H')∧∀x H',(Ky K a).yld i H x H'→g x σ H' λσ2 H2=>tb {D with nx:=N,ct:=N,bk:=D.nx} σ2 H2):=by
 refine⟨λi m σ H=>m=xs.length - i∧i≤xs.length∧Pv i σ H,⟨xs.length,by simp,AQ _,h0⟩,?_⟩;rintro i m σ H ⟨rfl,hi,p⟩;have q:=hl i σ H hi p;by_cases hlt:i<xs.length
 · have e1:xs[i]?=some (xs[i]'hlt):=by simp
   refine .inr ⟨⟨xs,_,q,e1⟩,Pv (i+1),λσ' H' p'=>⟨xs.length - (i+1),by omega,rfl,hlt,p'⟩,λx H' y=>?_⟩;obtain⟨c,rfl,hc,y⟩:=y;rw[y xs _ q e1];exact hs i _ c σ H e1 hc p
 · have e:i=xs.length:=by omega
   subst e;exact .inl ⟨⟨xs,q,Ah _⟩,hd σ H p⟩
def below(s t:IE):List IE:=match t.1 with
 | none=>[]
 | some l=>if s.1=some l then [] else [(s.1,some (l - 1))]
def above(s t:IE):List IE:=match t.2 with
 | none=>[]
 | some h=>if s.2=some h then [] else [(some (h+1),s.2)]
def JK(s t:IE):List IE:=below s t++above s t
structure Within(s t:IE):Prop where
 lo:∀l,s.1=some l→∃k,t.1=some k∧l≤k
 hi:∀h,s.2=some h→∃k,t.2=some k∧k≤h
 le:IV t.1 t.2=true
theorem VD{s t r:IE}(W:Within s t)(hr:r∈JK s t){n:Int}(h:Ia r.1 r.2 n=true):Ia s.1 s.2 n=true∧Ia t.1 t.2 n=false:=by
 obtain⟨a,b⟩:=s;obtain⟨c,d⟩:=t;obtain⟨w1,w2,w3⟩:=W;unfold JK below above at hr;rcases Aq.mp hr with z | z
 · cases c with
   | none=>simp at z
   | some l=>
    by_cases e:a=some l
    · simp[e] at z
    · simp[e] at z;subst z;cases a with
      | none=>
       cases b with
       | none=>cases d<;>simp[Ia,IK,IR] at h ⊢ <;>omega
       | some b=> obtain⟨k,hk,hk2⟩:=w2 b rfl;simp at hk;subst hk;simp[Ia,IK,IR,IV] at h w3 ⊢;omega
      | some a=>
       obtain⟨k0,hk0,hk02⟩:=w1 a rfl;simp at hk0;subst hk0;cases b with
       | none=>cases d<;>simp[Ia,IK,IR] at h ⊢ <;>omega
       | some b=> obtain⟨k,hk,hk2⟩:=w2 b rfl;simp at hk;subst hk;simp[Ia,IK,IR,IV] at h w3 ⊢;omega
 · cases d with
   | none=>simp at z
   | some u=>
    by_cases e:b=some u
    · simp[e] at z
    · simp[e] at z;subst z;cases b with
      | none=>
       cases a with
       | none=>cases c<;>simp[Ia,IK,IR] at h ⊢ <;>omega
       | some a=> obtain⟨k,hk,hk2⟩:=w1 a rfl;simp at hk;subst hk;simp[Ia,IK,IR,IV] at h w3 ⊢;omega
      | some b=>
       obtain⟨k0,hk0,hk02⟩:=w2 b rfl;simp at hk0;subst hk0;cases a with
       | none=>cases c<;>simp[Ia,IK,IR] at h ⊢ <;>omega
       | some a=> obtain⟨k,hk,hk2⟩:=w1 a rfl;simp at hk;subst hk;simp[Ia,IK,IR,IV] at h w3 ⊢;omega
theorem VF{s t:IE}(W:Within s t){n:Int}(h:Ia s.1 s.2 n=true)(h':Ia t.1 t.2 n=false):∃r∈JK s t,Ia r.1 r.2 n=true:=by
 obtain⟨a,b⟩:=s;obtain⟨c,d⟩:=t;obtain⟨w1,w2,w3⟩:=W;unfold JK below above;have:IK c n=false∨IR d n=false:=by
  unfold Ia at h';cases e:IK c n with
  | false=>exact .inl rfl
  | true=>rw[e] at h';exact .inr h'
 have ha:IK a n=true:=((AB _ _).mp h).1;have hb:IR b n=true:=((AB _ _).mp h).2;rcases this with z | z
 · cases c with
   | none=>simp[IK] at z
   | some l=>
    have e:a≠some l:=λe=>by rw[e] at ha;rw[ha] at z;cases z
    refine⟨(a,some (l - 1)),BB _ (by simp[e]),?_⟩;unfold Ia;rw[ha];simp[IK,IR] at z ⊢;omega
 · cases d with
   | none=>simp[IR] at z
   | some u=>
    have e:b≠some u:=λe=>by rw[e] at hb;rw[hb] at z;cases z
    refine⟨(some (u+1),b),Ag _ (by simp[e]),?_⟩;unfold Ia;rw[hb];simp[IK,IR] at z ⊢;omega
theorem VE{s t r:IE}(W:Within s t)(hr:r∈JK s t):IV r.1 r.2=true:=by
 obtain⟨a,b⟩:=s;obtain⟨c,d⟩:=t;obtain⟨w1,w2,w3⟩:=W;unfold JK below above at hr;rcases Aq.mp hr with z | z
 · cases c with
   | none=>simp at z
   | some l=>
    by_cases e:a=some l
    · simp[e] at z
    · simp[e] at z;subst z;cases a with
      | none=>rfl
      | some a=> obtain⟨k0,hk0,hk02⟩:=w1 a rfl;simp at hk0 e;subst hk0;simp[IV];omega
 · cases d with
   | none=>simp at z
   | some u=>
    by_cases e:b=some u
    · simp[e] at z
    · simp[e] at z;subst z;cases b with
      | none=>rfl
      | some b=> obtain⟨k0,hk0,hk02⟩:=w2 b rfl;simp at hk0 e;subst hk0;simp[IV];omega
theorem ME(s t:IE):(JK s t).length≤2:=by
 obtain⟨a,b⟩:=s;obtain⟨c,d⟩:=t;unfold JK below above;rw[Aw];have h1:(match c with | none=>([]:List IE) | some l=>if a=some l then [] else [(a,some (l - 1))]).length≤1:=by
  cases c with
  | none=>simp
  | some l=>by_cases e:a=some l<;>simp[e]
 have h2:(match d with | none=>([]:List IE) | some h=>if b=some h then [] else [(some (h+1),b)]).length≤1:=by
  cases d with
  | none=>simp
  | some l=>by_cases e:b=some l<;>simp[e]
 exact Nat.add_le_add h1 h2
theorem X2{s u:IE}(h:Ir (Jq s.1 u.1) (Jr s.2 u.2)=false):Within s (Jq s.1 u.1,Jr s.2 u.2):=by
 obtain⟨a,b⟩:=s;obtain⟨c,d⟩:=u;refine⟨λl e=>?_,λl e=>?_,by rw[Sn,h];rfl⟩
 · have e:a=some l:=e;subst e;cases c with
   | none=>exact⟨l,rfl,D4 _⟩
   | some c=>exact⟨_,rfl,by split<;>omega⟩
 · have e:b=some l:=e;subst e;cases d with
   | none=>exact⟨l,rfl,D4 _⟩
   | some c=>exact⟨_,rfl,by split<;>omega⟩
theorem YD{s:IE}(h:IV s.1 s.2=true):Within s s:=⟨λl e=>⟨l,e,D4 _⟩,λl e=>⟨l,e,D4 _⟩,h⟩
theorem Nz:∀(b a:List Str),a.Pairwise Ik→b.Pairwise Ik→(∀x∈a,x∈b)→a.Sublist b
 | [],a,_,_,h=>by
  cases a with
  | nil=>exact .slnil
  | cons x a=>exact absurd (h x Az) (by simp)
 | y::b,a,ha,hb,h=>by
  rw[BQ] at hb;cases a with
  | nil=>exact List.nil_sublist _
  | cons x a=>
   have ha':=ha;rw[BQ] at ha;rcases As.mp (h x Az) with e | e
   · subst e;refine List.Sublist.cons₂ _ (Nz b a ha.2 hb.2 λz hz=>?_);rcases As.mp (h z (AE _ hz)) with e | e
     · exact absurd e.symm (Lh (ha.1 z hz))
     · exact e
   · refine List.Sublist.cons _ (Nz b (x::a) ha' hb.2 λz hz=>?_);have lt:Ik y z:=by
      rcases As.mp hz with rfl | hz
      · exact hb.1 _ e
      · exact N9 (hb.1 _ e) (ha.1 z hz)
     rcases As.mp (h z hz) with e2 | e2
     · exact absurd e2.symm (Lh lt)
     · exact e2
theorem XI{w o m m':List WP}(h:IsMet w o m)(h':IsMet w o m'):m=m':=RX h.asc h'.asc λf=>by rw[h.sp,h'.sp]
theorem Mi{w:List WP}{f:Str}{s:IE}(h:HH w f=some s):f∈w.map (·.1):=by obtain⟨p,hp,e,_⟩:=L9 h;exact e ▸ Ax hp
theorem MF{w:List WP}{f:Str}(h:f∈w.map (·.1)):∃s,HH w f=some s:=V9 h
theorem SV{w o m:List WP}(kw:WOk w)(h:IsMet w o m)(hl:m.length≤w.length):m.map (·.1)=w.map (·.1):=by
 have sub:(w.map (·.1)).Sublist (m.map (·.1)):=Nz _ _ kw.asc h.asc λf hf=>by
  obtain⟨s,hs⟩:=MF hf;have:=h.sp f;rw[hs] at this;cases e:HH o f with
  | none=>rw[e] at this;exact Mi this
  | some u=>rw[e] at this;exact Mi this
 exact(sub.eq_of_length_le (by simpa using hl)).symm
theorem VZ{w o m:List WP}(h:IsMet w o m)(hw:(w.map (·.1)).Pairwise Ik)(hl:w.length<m.length):∃f∈o.map (·.1),f ∉ w.map (·.1):=by
 by_cases c:∃f∈m.map (·.1),f ∉ w.map (·.1)
 · obtain⟨f,h1,h2⟩:=c;obtain⟨s,hs⟩:=MF h1;have hf:=h.sp f;rw[hs] at hf;cases e:HH w f with
   | some t=>exact absurd (Mi e) h2
   | none=> rw[e] at hf;exact⟨f,Mi hf.symm,h2⟩
 · have sub:=Nz (w.map (·.1)) (m.map (·.1)) h.asc hw λf hf=>by
    by_cases z:f∈w.map (·.1)
    · exact z
    · exact absurd ⟨f,hf,z⟩ c
   have:=sub.length_le;simp at this;omega
def JV(w m:List WP)(i:Nat):List (List WP):=match w[i]?,m[i]? with
 | some p,some q=>(JK p.2 q.2).map λr=>m.take i++[(p.1,r)]++w.drop (i+1)
 | _,_=>[]
def M5(w m:List WP):List (List WP):=(BV w.length).flatMap (JV w m)
open Classical in
noncomputable def IG(w o:List WP):List WP:=if h:∃m,IsMet w o m then Classical.choose h else []
theorem SK{w o m:List WP}(h:IsMet w o m):IG w o=m:=by unfold IG;rw[dif_pos ⟨m,h⟩];exact XI (Classical.choose_spec (⟨m,h⟩:∃m,IsMet w o m)) h
noncomputable def one(w o:List WP):List (List WP):=if JP w o=true then [w] else if w.length<(IG w o).length then [w] else M5 w (IG w o)
structure OneOk(w o:List WP)(ps:List (List WP)):Prop where
 ok:∀p∈ps,WOk p∧p.map (·.1)=w.map (·.1)
 sound:∀p∈ps,∀P,HE p P=true→HE w P=true∧(P.map (·.1)=w.map (·.1)→HE o P=false)
 full:∀P,HE w P=true→(∃p∈ps,HE p P=true)∨HE o P=true
 len:ps.length≤2*w.length+1
theorem KL(a b:List WP)(P:List PP):HE (a++b) P=(HE a P && HE b P):=List.all_append
theorem M8(p:WP)(P:List PP):HE [p] P=JE P p:=by unfold HE;simp
theorem Sq{P:List PP}{f:Str}{n:Int}(h:IH P f=some n):f∈P.map (·.1):=by
 unfold IH at h;cases e:P.find? (λx=>decide (x.1=f)) with
 | none=>rw[e] at h;cases h
 | some x=> have:decide (x.1=f)=true:=F3 (p:=λ(x:PP)=>decide (x.1=f)) e;exact(of_decide_eq_true this) ▸ Ax (DA e)
theorem takesP_iff{P:List PP}{p:WP}:JE P p=true↔∃n,IH P p.1=some n∧Ia p.2.1 p.2.2 n=true:=by
 cases e:IH P p.1 with
 | none=>rw[T7 e];simp
 | some n=>rw[NM e];simp
theorem Sr{w o:List WP}(kw:WOk w)(ko:WOk o)(h:JP w o=true):OneOk w o [w]:=by
 refine⟨λp hp=>?_,λp hp P t=>?_,λP t=> .inl ⟨w,by simp,t⟩,by simp⟩
 · rw[Af.mp hp];exact⟨kw,rfl⟩
 · rw[Af.mp hp] at t;refine⟨t,λ_=>?_⟩;cases e:HE o P with
   | false=>rfl
   | true=>
    obtain⟨y,hy,ha⟩:=CM.mp h;unfold My at ha;cases e1:HH w y.1 with
    | none=>rw[e1] at ha;cases ha
    | some s=> rw[e1] at ha;obtain⟨n,n1,n2⟩:=(M7 kw.asc P).mp t y.1 s e1;obtain⟨n',n1',n2'⟩:=takesP_iff.mp (Cc.mp e y hy);rw[n1] at n1';cases n1';have:=Vd ha n;rw[Mw,n2,n2'] at this;cases this
theorem RH{w o m:List WP}(kw:WOk w)(ko:WOk o)(h:IsMet w o m)(hl:w.length<m.length):OneOk w o [w]:=by
 refine⟨λp hp=>?_,λp hp P t=>?_,λP t=> .inl ⟨w,by simp,t⟩,by simp⟩
 · rw[Af.mp hp];exact⟨kw,rfl⟩
 · rw[Af.mp hp] at t;refine⟨t,λhf=>?_⟩;cases e:HE o P with
   | false=>rfl
   | true=> obtain⟨f,f1,f2⟩:=VZ h kw.asc hl;obtain⟨s,hs⟩:=MF f1;obtain⟨n,n1,_⟩:=(M7 ko.asc P).mp e f s hs;exact absurd (hf ▸ Sq n1) f2
section
variable{w o m:List WP}
theorem LZ(kw:WOk w)(ko:WOk o)(h:IsMet w o m)(ap:JP w o=false)(hf:m.map (·.1)=w.map (·.1)){p q:WP}(hp:w[i]?=some p)(hq:m[i]?=some q):q.1=p.1∧Within p.2 q.2∧(∀n,Ia q.2.1 q.2.2 n=true→Ia p.2.1 p.2.2 n=true):=by
 have e1:q.1=p.1:=by
  have h1:(m.map (·.1))[i]?=some q.1:=by rw[Ai,hq];rfl
  have h2:(w.map (·.1))[i]?=some p.1:=by rw[Ai,hp];rfl
  rw[hf,h2] at h1;exact(A5 h1).symm
 have mp:=Am hp;have s1:=NK kw.asc mp;have s2:=NK h.asc (Am hq);rw[h.sp,e1,s1] at s2;refine⟨e1,?_⟩;cases e:HH o p.1 with
 | none=> rw[e] at s2;have:p.2=q.2:=A5 s2;rw[←this];exact⟨YD (kw.ok p mp).2,λn z=>z⟩
 | some u=>
  rw[e] at s2;have:(Jq p.2.1 u.1,Jr p.2.2 u.2)=q.2:=A5 s2;rw[←this];obtain⟨y,hy,y1,y2⟩:=L9 e;have na:Ir (Jq p.2.1 u.1) (Jr p.2.2 u.2)=false:=by
   cases e2:Ir (Jq p.2.1 u.1) (Jr p.2.2 u.2) with
   | false=>rfl
   | true=> have:JP w o=true:=CM.mpr ⟨y,hy,by unfold My;rw[y1,s1,y2];exact e2⟩;rw[ap] at this;cases this
  refine⟨X2 na,λn z=>?_⟩;rw[Mw] at z;exact((AB _ _).mp z).1
theorem Xt(kw:WOk w)(ko:WOk o)(h:IsMet w o m)(ap:JP w o=false)(hf:m.map (·.1)=w.map (·.1))(i:Nat){P:List PP}(t:HE (m.take i) P=true):HE (w.take i) P=true:=by
 have hl:m.length=w.length:=by have:=congrArg AX hf;simpa using this
 refine Cc.mpr λx hx=>?_;obtain⟨j,hj,e⟩:=Di hx;rw[AH] at hj;have hp:w[j]?=some x:=by rw[←e,List.getElem_take,Ak]
 have hq:m[j]?=some (m[j]'(by omega)):=Ak _;obtain⟨e1,_,e3⟩:=LZ kw ko h ap hf hp hq;have:=Cc.mp t (m[j]'(by omega)) (by rw[List.mem_take_iff_getElem];exact⟨j,by omega,rfl⟩);obtain⟨n,n1,n2⟩:=takesP_iff.mp this;exact takesP_iff.mpr ⟨n,by rw[←e1];exact n1,e3 n n2⟩
theorem RU{w:List WP}{p:WP}(hp:w[i]?=some p)(P:List PP):HE w P=(HE (w.take i) P && (JE P p && HE (w.drop (i+1)) P)):=by
 have e:w=w.take i++([p]++w.drop (i+1)):=by have h1:=(CV i w).symm;obtain⟨hi,e⟩:=Al.mp hp;rw[Ba hi,e] at h1;exact h1
 conv=>lhs;rw[e]
 rw[KL,KL,M8]
theorem SM(kw:WOk w)(ko:WOk o)(h:IsMet w o m)(ap:JP w o=false)(hl:m.length≤w.length):OneOk w o (M5 w m):=by
 have hf:=SV kw h hl;have hl':m.length=w.length:=by have:=congrArg AX hf;simpa using this
 have mem:∀p∈M5 w m,∃i q r s,w[i]?=some q∧m[i]?=some r∧s∈JK q.2 r.2∧p=m.take i++[(q.1,s)]++w.drop (i+1):=λp hp=>by
  obtain⟨i,hi,z⟩:=D0.mp hp;have hi:=Dc.mp hi;have e1:w[i]?=some w[i]:=by simp
  have e2:m[i]?=some (m[i]'(by omega)):=Ak _;unfold JV at z;rw[e1,e2] at z;obtain⟨s,hs,rfl⟩:=AN.mp z;exact⟨i,_,_,s,e1,e2,hs,rfl⟩
 refine⟨λp hp=>?_,λp hp P t=>?_,λP t=>?_,?_⟩
 · obtain⟨i,q,r,s,e1,e2,hs,rfl⟩:=mem p hp;obtain⟨m1,m2,m3⟩:=LZ kw ko h ap hf e1 e2;have li:=(Al.mp e1).1;have fe:((m.take i++[(q.1,s)]++w.drop (i+1)).map (·.1))=w.map (·.1):=by
    rw[Aj,Aj,Cv,hf,←Cv];have:w=w.take i++([q]++w.drop (i+1)):=by have h1:=(CV i w).symm;rw[Ba li,(Al.mp e1).2] at h1;exact h1
    conv=>rhs;rw[this]
    simp
   refine⟨⟨by have:=congrArg AX fe;simp only[Ab] at this;rw[this];exact kw.len,λx hx=>?_,by rw[fe];exact kw.asc⟩,fe⟩;rcases Aq.mp hx with z | z
   · rcases Aq.mp z with z | z
     · have fx:x.1∈w.map (·.1):=by rw[←hf];exact Ax (BC z)
       obtain⟨y,hy,ey⟩:=AN.mp fx;obtain⟨j,hj,e⟩:=Di z;rw[AH] at hj;have hq:m[j]?=some x:=by rw[←e,List.getElem_take,Ak]
       have hp':w[j]?=some (w[j]'(by omega)):=Ak _;obtain⟨e1',e2',_⟩:=LZ kw ko h ap hf hp' hq;exact⟨ey ▸ (kw.ok y hy).1,e2'.le⟩
     · rw[Af.mp z];exact⟨(kw.ok q (Am e1)).1,VE m2 hs⟩
   · exact kw.ok x (Cw z)
 · obtain⟨i,q,r,s,e1,e2,hs,rfl⟩:=mem p hp;obtain⟨m1,m2,m3⟩:=LZ kw ko h ap hf e1 e2;rw[KL,KL,M8,AB,AB] at t;obtain⟨⟨t1,t2⟩,t3⟩:=t;obtain⟨n,n1,n2⟩:=takesP_iff.mp t2;obtain⟨b1,b2⟩:=VD m2 hs n2;have tw:HE w P=true:=by
    rw[RU e1,Xt kw ko h ap hf i t1,t3,(takesP_iff (p:=q)).mpr ⟨n,n1,b1⟩];rfl
   refine⟨tw,λ_=>?_⟩;cases e:HE o P with
   | false=>rfl
   | true=> have tm:=SJ kw.asc ko.asc h P;rw[tw,e] at tm;have:=Cc.mp tm r (Am e2);obtain⟨n',n1',n2'⟩:=takesP_iff.mp this;rw[m1,n1] at n1';cases n1';rw[b2] at n2';cases n2'
 · have key:∀k,k≤w.length→HE (m.take k) P=true∨∃p∈M5 w m,HE p P=true:=by
    intro k
    induction k with
    | zero=>intro _;exact .inl rfl
    | succ k ih=>
     intro hk;rcases ih (by omega) with z | z
     · have e1:w[k]?=some (w[k]'(by omega)):=Ak _;have e2:m[k]?=some (m[k]'(by omega)):=Ak _;generalize w[k]'(by omega)=q at e1;generalize m[k]'(by omega)=r at e2;obtain⟨m1,m2,m3⟩:=LZ kw ko h ap hf e1 e2;have ts:=t;rw[RU e1,AB,AB] at ts;obtain⟨_,tq,td⟩:=ts;obtain⟨n,n1,n2⟩:=takesP_iff.mp tq;cases c:Ia r.2.1 r.2.2 n with
       | true=> refine .inl ?_;rw[IW e2,KL,z,M8,takesP_iff.mpr ⟨n,by rw[m1];exact n1,c⟩];rfl
       | false=>
        obtain⟨s,hs,hn⟩:=VF m2 n2 c;refine .inr ⟨m.take k++[(q.1,s)]++w.drop (k+1),?_,?_⟩
        · refine D0.mpr ⟨k,Dc.mpr (by omega),?_⟩;unfold JV;rw[e1,e2];exact Ax hs
        · rw[KL,KL,M8,z,td,(takesP_iff (p:=(q.1,s))).mpr ⟨n,n1,hn⟩];rfl
     · exact .inr z
   rcases key w.length (Ah _) with z | z
   · right
     rw[AL (by omega)] at z;have tm:=SJ kw.asc ko.asc h P;rw[z] at tm;exact((AB _ _).mp tm.symm).2
   · exact .inl z
 · have:∀l:List Nat,(l.flatMap (JV w m)).length≤2*l.length:=λl=>by
    induction l with
    | nil=>simp
    | cons i l ih=>
     rw[Dr,Aw,AF];have:(JV w m i).length≤2:=by
      unfold JV
      split
      · rw[Ab];exact ME _ _
      · simp
     omega
   have:=this (BV w.length);rw[CZ] at this;exact Nat.le_succ_of_le this
end
theorem UM{w o:List WP}(kw:WOk w)(ko:WOk o)(hm:JP w o=false→IsMet w o (IG w o)):OneOk w o (one w o):=by
 unfold one;cases ap:JP w o with
 | true=>rw[if_pos rfl];exact Sr kw ko ap
 | false=>
  rw[if_neg (by simp)];by_cases hl:w.length<(IG w o).length
  · rw[if_pos hl];exact RH kw ko (hm ap) hl
  · rw[if_neg hl];exact SM kw ko (hm ap) ap (by omega)
theorem VT{w o:List WP}(kw:WOk w)(ko:WOk o):∃m,IsMet w o m:=by
 have:∀(l acc:List Str),(acc.Pairwise Ik)→∃ms:List Str,ms.Pairwise Ik∧(∀f,f∈ms↔f∈l∨f∈acc)∧ms.length≤l.length+acc.length:=λl=>by
  induction l with
  | nil=>exact λacc h=>⟨acc,h,λf=>by simp,by simp⟩
  | cons x l ih=>
   intro acc h;by_cases hx:x∈acc
   · obtain⟨ms,m1,m2,m3⟩:=ih acc h;refine⟨ms,m1,λf=>?_,by rw[AF];omega⟩;rw[m2,As];constructor
     · rintro(z | z)
       · exact .inl (.inr z)
       · exact .inr z
     · rintro((z | z) | z)
       · subst z;exact .inr hx
       · exact .inl z
       · exact .inr z
   · have ins:∀acc:List Str,acc.Pairwise Ik→x ∉ acc→∃bs:List Str,bs.Pairwise Ik∧(∀f,f∈bs↔f=x∨f∈acc)∧bs.length=acc.length+1:=λacc=>by
      induction acc with
      | nil=>exact λ_ _=>⟨[x],by simp,λf=>by simp,rfl⟩
      | cons y acc ih2=>
       intro h2 n2;rw[BQ] at h2;have nx:x≠y:=λe=>n2 (by rw[e];exact Az);by_cases lt:Ik x y
       · refine⟨x::y::acc,?_,λf=>by simp[As],rfl⟩;rw[BQ,BQ];refine⟨λz hz=>?_,h2⟩;rcases As.mp hz with rfl | hz
         · exact lt
         · exact N9 lt (h2.1 z hz)
       · obtain⟨bs,b1,b2,b3⟩:=ih2 h2.2 λz=>n2 (AE _ z);refine⟨y::bs,?_,λf=>?_,by rw[AF,AF,b3]⟩
         · rw[BQ];refine⟨λz hz=>?_,b1⟩;rcases(b2 z).mp hz with rfl | hz
           · exact O6 lt nx
           · exact h2.1 z hz
         · rw[As,b2,As];constructor
           · rintro(z | z | z)
             · exact .inr (.inl z)
             · exact .inl z
             · exact .inr (.inr z)
           · rintro(z | z | z)
             · exact .inr (.inl z)
             · exact .inl z
             · exact .inr (.inr z)
     obtain⟨bs,b1,b2,b3⟩:=ins acc h hx;obtain⟨ms,m1,m2,m3⟩:=ih bs b1;refine⟨ms,m1,λf=>?_,by rw[AF];omega⟩;rw[m2,b2,As];constructor
     · rintro(z | z | z)
       · exact .inl (.inr z)
       · exact .inl (.inl z)
       · exact .inr z
     · rintro((z | z) | z)
       · exact .inr (.inl z)
       · exact .inl z
       · exact .inr (.inr z)
 obtain⟨ms,m1,m2,m3⟩:=this (w.map (·.1)) (o.map (·.1)) ko.asc;refine⟨K0 w o ms,Sc m1 (λf=>?_) (by simpa using m3)⟩;rw[m2];constructor
 · rintro(z | z)
   · obtain⟨s,hs⟩:=MF z;rw[hs];cases HH o f<;>rfl
   · obtain⟨s,hs⟩:=MF z;rw[hs];cases HH w f<;>rfl
 · intro h;cases e1:HH w f with
   | some s=>exact .inl (Mi e1)
   | none=>
    cases e2:HH o f with
    | some s=>exact .inr (Mi e2)
    | none=>rw[e1,e2] at h;cases h
theorem Wa{w o:List WP}(kw:WOk w)(ko:WOk o):OneOk w o (one w o):=by obtain⟨m,hm⟩:=VT kw ko;exact UM kw ko λ_=>by rw[SK hm];exact hm
noncomputable def HR(w:List WP)(os:List (List WP)):List (List WP):=os.foldl (λps o=>ps.flatMap λp=>one p o) [w]
theorem SR(w:List WP)(os:List (List WP))(o:List WP):HR w (os++[o])=(HR w os).flatMap λp=>one p o:=by unfold HR;rw[List.foldl_append];rfl
structure AllOk(w:List WP)(os:List (List WP))(ps:List (List WP)):Prop where
 ok:∀p∈ps,WOk p∧p.map (·.1)=w.map (·.1)
 sound:∀p∈ps,∀P,HE p P=true→HE w P=true∧(P.map (·.1)=w.map (·.1)→∀o∈os,HE o P=false)
 full:∀P,HE w P=true→(∃p∈ps,HE p P=true)∨∃o∈os,HE o P=true
 len:ps.length≤7^os.length
theorem all_nil{w:List WP}(kw:WOk w):AllOk w [] [w]:=
 ⟨λp hp=>by rw[Af.mp hp];exact⟨kw,rfl⟩,λp hp P t=>by rw[Af.mp hp] at t;exact⟨t,λ_ o ho=>by simp at ho⟩,λP t=> .inl ⟨w,by simp,t⟩,by simp⟩
theorem Vc{w o:List WP}{os ps:List (List WP)}{f:List WP→List (List WP)}(h:AllOk w os ps)(hw:w.length≤3)(hf:∀p∈ps,OneOk p o (f p)):AllOk w (os++[o]) (ps.flatMap f):=by
 have lp:∀p∈ps,p.length=w.length:=λp hp=>by have:=congrArg AX (h.ok p hp).2;simpa using this
 refine⟨λp hp=>?_,λp hp P t=>?_,λP t=>?_,?_⟩
 · obtain⟨q,hq,hp⟩:=D0.mp hp;obtain⟨a,b⟩:=(hf q hq).ok p hp;exact⟨a,b.trans (h.ok q hq).2⟩
 · obtain⟨q,hq,hp⟩:=D0.mp hp;obtain⟨a,b⟩:=(hf q hq).sound p hp P t;obtain⟨c,d⟩:=h.sound q hq P a;refine⟨c,λe o' ho'=>?_⟩;rcases Aq.mp ho' with z | z
   · exact d e o' z
   · rw[Af.mp z];exact b (e.trans (h.ok q hq).2.symm)
 · rcases h.full P t with⟨q,hq,tq⟩ | ⟨o',ho',t'⟩
   · rcases(hf q hq).full P tq with⟨p,hp,tp⟩ | z
     · exact .inl ⟨p,D0.mpr ⟨q,hq,hp⟩,tp⟩
     · exact .inr ⟨o,Ag _ (by simp),z⟩
   · exact .inr ⟨o',BB _ ho',t'⟩
 · have:∀l:List (List WP),(∀p∈l,(f p).length≤7)→(l.flatMap f).length≤7*l.length:=λl hl=>by
    induction l with
    | nil=>simp
    | cons i l ih=> rw[Dr,Aw,AF];have h1:=hl i Az;have h2:=ih λp hp=>hl p (AE _ hp);omega
   have h1:=this ps λp hp=>by have h1:=(hf p hp).len;have h2:=lp p hp;omega
   rw[Aw,Ef,Nat.pow_succ];have:=h.len;omega
def Jl(w:List WP):List PP:=w.map λp=>(p.1,Ly p.2.1 p.2.2)
theorem MI(w:List WP):(Jl w).map (·.1)=w.map (·.1):=by unfold Jl;rw[BN];rfl
theorem SX{w:List WP}(h:WOk w):POk (Jl w):=by refine⟨by unfold Jl;rw[Ab];exact h.len,λx hx=>?_,by rw[MI];exact h.asc⟩;obtain⟨p,hp,rfl⟩:=AN.mp hx;exact(h.ok p hp).1
theorem Od{w:List WP}(h:WOk w):HE w (Jl w)=true:=by
 refine Cc.mpr λp hp=>?_;have asc:((Jl w).map (·.1)).Pairwise Ik:=by rw[MI];exact h.asc
 have:=XQ asc (x:=(p.1,Ly p.2.1 p.2.2)) (AN.mpr ⟨p,hp,rfl⟩);exact takesP_iff.mpr ⟨_,this,V_ (h.ok p hp).2⟩
def LO(H:Hp)(r:Addr)(ps:List (List WP)):Prop:=∃qs:List (Addr×List WP),qs.map (·.2)=ps∧H r=some (.lst (qs.map λq=>V.ref q.1))∧∀q∈qs,WishAt H q.1 q.2
def Tp:Sp:=λvs H Q _=>∃(v w:V)(s t:IE),vs=[v,w]∧SpanAt H v s.1 s.2∧SpanAt H w t.1 t.2∧Within s t∧∀(r:Addr)(ss:List (Addr×IE))(H':Hp),H r=none→Same H H'→ss.map (·.2)=JK s t→H' r=some (.lst (ss.map λx=>V.ref x.1))→(∀x∈ss,H' x.1=some (.tup [eV x.2.1,eV x.2.2]))→Q (.ref r) H'
def Tc:Sp:=λvs H Q _=>∃(a b:Addr)(w o:List WP),vs=[.ref a,.ref b]∧WishAt H a w∧WishAt H b o∧WOk w∧WOk o∧w.length≤6∧o.length≤6∧
 ∀(r:Addr)(H':Hp),H r=none→Same H H'→LO H' r (one w o)→OneOk w o (one w o)→Q (.ref r) H'
def RB:Sp:=λvs H Q _=>∃(a l:Addr)(w:List WP)(os:List (Addr×List WP)),vs=[.ref a,.ref l]∧WishAt H a w∧WOk w∧w.length≤3∧WsAt H l os∧os.length≤7∧(∀x∈os,x.2.length≤6)∧
 ∀(r:Addr)(H':Hp),Same H H'→LO H' r (HR w (os.map (·.2)))→AllOk w (os.map (·.2)) (HR w (os.map (·.2)))→Q (.ref r) H'
def ToldPc(H:Hp)(v:V)(ps:List (List WP)):Prop:=match ps with
 | []=>v= .non
 | p::_=>∃t,v= .ref t∧PieceAt H t (Jl p)
theorem ToldPc.same{H':Hp}{v:V}{ps:List (List WP)}(h:ToldPc H v ps)(s:Same H H'):ToldPc H' v ps:=by
 cases ps with
 | nil=>exact h
 | cons p ps=>obtain⟨t,h1,h2⟩:=h;exact⟨t,h1,h2.same s⟩
def To:Sp:=λvs H Q _=>∃(a l:Addr)(w:List WP)(os:List (Addr×List WP)),vs=[.ref a,.ref l]∧WishAt H a w∧WOk w∧w.length≤3∧WsAt H l os∧os.length≤7∧(∀x∈os,x.2.length≤6)∧
 ∀(v:V)(H':Hp),Same H H'→ToldPc H' v (HR w (os.map (·.2)))→AllOk w (os.map (·.2)) (HR w (os.map (·.2)))→Q v H'
def Ta:Sp:=λvs H Q _=>∃(l:Addr)(ws:List (Addr×List WP))(fs:List Str),vs=[.ref l]∧WsAt H l ws∧fs.length≤6∧(∀x∈ws,Js fs x.2)∧
 ∀(r:Addr)(ms:List Str)(H':Hp),Same H H'→H r=none→H' r=some (.lst (ms.map V.str))→ms.Nodup→sortedS ms=true→(∀f,f∈ms↔∃x∈ws,f∈x.2.map (·.1))→Q (.ref r) H'
def Q7:Sp:=λvs H Q _=>∃(l f:Addr)(xs ys:List V),vs=[.ref l,.ref f]∧H l=some (.lst xs)∧H f=some (.lst ys)∧xs.length≤7∧ys.length≤3∧Q .non H
def SU:Sp:=λvs H Q _=>∃(a l:Addr)(w:List WP)(os:List (Addr×List WP))(fs:List Str),vs=[.ref a,.ref l]∧WishAt H a w∧WOk w∧WsAt H l os∧os.length≤7∧fs.length≤3∧Js fs w∧(∀x∈os,Js fs x.2)∧
 ∀(v:V)(H':Hp),Same H H'→ToldPc H' v (HR w (os.map (·.2)))→AllOk w (os.map (·.2)) (HR w (os.map (·.2)))→Q v H'
theorem Rz{fs:List Str}{w:List WP}(kw:WOk w)(h:Js fs w):w.length≤fs.length:=by
 have nd:(w.map (·.1)).Nodup:=Mc kw.asc;have:∀(a b:List Str),a.Nodup→(∀x∈a,x∈b)→a.length≤b.length:=λa=>by
  induction a with
  | nil=>intro b _ _;exact AQ _
  | cons x a ih=>
   intro b hn hs;rw[CC] at hn;have hx:=hs x Az;have:=ih (b.erase x) hn.2 λy hy=>by have ne:y≠x:=λe=>hn.1 (e ▸ hy);exact(Ga ne).mpr (hs y (AE _ hy))
   rw[Fo hx] at this;have:=Ea hx;rw[AF];omega
 have:=this (w.map (·.1)) fs nd λf hf=>by obtain⟨p,hp,rfl⟩:=AN.mp hf;exact h p hp
 simpa using this
theorem N6{ms fs:List Str}(hn:ms.Nodup)(hs:∀x∈ms,x∈fs):ms.length≤fs.length:=by
 induction ms generalizing fs with
 | nil=>exact AQ _
 | cons x a ih=>
  rw[CC] at hn;have hx:=hs x Az;have:=ih (fs:=fs.erase x) hn.2 λy hy=>by have ne:y≠x:=λe=>hn.1 (e ▸ hy);exact(Ga ne).mpr (hs y (AE _ hy))
  rw[Fo hx] at this;have:=Ea hx;rw[AF];omega
theorem M4{v:V}{A B:St→Hp→Prop}(h:A (σ.set i (some v)) H):JA i v σ H λσ2 H2=>Jm σ2 H2 λb H3=>if b=true then A σ2 H3 else B σ2 H3:=by
 show(if true=true then A (σ.set i (some v)) H else B (σ.set i (some v)) H)
 exact Hw h
theorem U0{A B:Hp→Prop}(h:A H):Jm σ H λb H3=>if b=true then A H3 else B H3:=by
 show(if true=true then A H else B H)
 exact Hw h
theorem Qu(h:n≤7^7*7):n<Av:=Cp h (by decide)
theorem WU{K:Ae}{p:Addr}{Q:VK}{js:Iz}{cap:St}{wi1:TI}{te:TE}(qs:List (Addr×List WP))(f:List WP→List (List WP))(hq:SqL K H a (qs.map λq=>V.ref q.1))(hp:H p=none)(hσ:inn js σ=none::none::cap)
 (hb:∀q∈qs,(f q.2).length≤7) (hn:qs.length≤7^7) (hw:∀q∈qs,WishAt H q.1 q.2)
 (hi:∀q∈qs,∀(y:Option V)(H':Hp)(R:It→Hp→Prop),Same H H'→(∀(b:Addr)(rs:List (Addr×List WP))(H'':Hp),H' b=none→Same H' H''→H'' b=some (.lst (rs.map λx=>V.ref x.1))→rs.map (·.2)=f q.2→(∀x∈rs,WishAt H'' x.1 x.2)→R (Ke K b) H'')→wi1 (some (.ref q.1)::y::cap) H' R)
 (he:∀(u:Option V)(v:V)(H':Hp)(R:VK),R v H'→te (u::some v::cap) H' R)
 (hQ:∀(H':Hp)(zs:List (Addr×List WP)),Same H H'→zs.map (·.2)=qs.flatMap (λq=>f q.2)→H' p=some (.lst (zs.map λz=>V.ref z.1))→(∀z∈zs,WishAt H' z.1 z.2)→Q (.ref p) H'):
 O8 (Ke K a) p js (JA 0) Jm wi1 (JA 1) Jm te σ H Q:=by
 have s0:=Hz hp (.lst []);have flen:∀l:List (Addr×List WP),(∀q∈l,(f q.2).length≤7)→(l.flatMap λq=>f q.2).length≤7*l.length:=λl hl=>by
  induction l with
  | nil=>simp
  | cons x l ih=> rw[Dr,Aw,AF];have h1:=hl x Az;have h2:=ih λq hq=>hl q (AE _ hq);omega
 have lq:(qs.map λq=>V.ref q.1).length=qs.length:=Ab _;refine⟨λi m σ' ys H'=>m=qs.length - i∧i≤qs.length∧(∃y0 y1,σ'=y0::y1::cap)∧Same H H'∧H' p=some (.lst ys)∧∃zs:List (Addr×List WP),ys=zs.map (λz=>V.ref z.1)∧zs.map (·.2)=(qs.take i).flatMap (λq=>f q.2)∧∀z∈zs,WishAt H' z.1 z.2,⟨qs.length,by simp,AQ _,⟨none,none,hσ⟩,s0,Hu,[],rfl,rfl,λz hz=>by simp at hz⟩,?_⟩;rintro i m σ' ys H1 ⟨rfl,hi1,⟨y0,y1,rfl⟩,s1,e1,zs,rfl,z1,z2⟩;refine⟨e1,?_⟩;by_cases hlt:i<qs.length
 · right
   have eq:qs[i]?=some qs[i]:=by simp
   have hx:(qs.map λq=>V.ref q.1)[i]?=some (V.ref qs[i].1):=by rw[Ai,eq];rfl
   have hm:=Am eq;generalize qs[i]=q at*;refine⟨⟨_,_,s1.seq hq,hx⟩,?_⟩;rintro x H2 ⟨rfl,hx2⟩;have:some (V.ref q.1)=some x:=hx.symm.trans (hx2 _ (s1.seq hq));cases this;refine M4 ?_;refine hi q hm y1 H2 _ s1 λb rs H3 nb s3 eb rf rw'=>?_;have bp:b≠p:=λz=>by rw[z,e1] at nb;cases nb
   have e3:=s3 _ _ e1;have lr:rs.length=(f q.2).length:=by rw[←rf,Ab]
   have l1:zs.length≤7*i:=by have h1:=congrArg AX z1;rw[Ab] at h1;rw[h1];have:=flen (qs.take i) λq hq=>hb q (BC hq);rw[AH] at this;omega
   refine⟨λj m1 σ3 zs' H5=>m1=rs.length - j∧j≤rs.length∧(∃y1,σ3=some (.ref q.1)::y1::cap)∧Same H H5∧H5 p=some (.lst zs')∧H5 b=some (.lst (rs.map λx=>V.ref x.1))∧(∀x∈rs,WishAt H5 x.1 x.2)∧
    ∃us:List (Addr×List WP),zs'=us.map (λz=>V.ref z.1)∧us.map (·.2)=(qs.take i).flatMap (λq=>f q.2)++(f q.2).take j∧∀z∈us,WishAt H5 z.1 z.2,⟨rs.length,by simp,AQ _,⟨_,rfl⟩,s1.trans s3,e3,eb,rw',zs,rfl,by rw[z1];simp,λz hz=>(z2 z hz).same s3⟩,?_⟩
   rintro j m1 σ3 zs' H5 ⟨rfl,hj,⟨y1',rfl⟩,s5,e5,b5,r5,us,rfl,u1,u2⟩;refine⟨e5,?_⟩;by_cases hjl:j<rs.length
   · right
     have er:rs[j]?=some rs[j]:=by simp
     have hy:(rs.map λx=>V.ref x.1)[j]?=some (V.ref rs[j].1):=by rw[Ai,er];rfl
     have ef:(f q.2)[j]?=some rs[j].2:=by rw[←rf,Ai,er];rfl
     have wr:=r5 _ (Am er);generalize rs[j]=r at*;have lu:us.length≤7*i+j:=by have h1:=congrArg AX u1;rw[Ab,Aw,AH] at h1;have h2:=flen (qs.take i) λq hq=>hb q (BC hq);rw[AH] at h2;omega
     have:=hb q hm;refine⟨⟨_,_,SqL.of b5,hy⟩,by rw[Ab];exact Qu (by omega),?_⟩;rintro x H6 ⟨rfl,hx6⟩;have:some (V.ref r.1)=some x:=hy.symm.trans (hx6 _ (SqL.of b5));cases this;have tl:=K6 (o:= .lst (us.map (λz=>V.ref z.1)++[V.ref r.1])) e5;refine M4 ?_;refine he _ _ _ _ ⟨e5,rs.length - (j+1),by omega,rfl,hjl,⟨_,rfl⟩,K7 s5 hp,Hu,by rw[HD bp];exact b5,λx hx=>(r5 x hx).keep tl,us++[r],by rw[Aj];rfl,?_,λz hz=>?_⟩
     · rw[Aj,u1,IW ef,CW];rfl
     · rcases Aq.mp hz with z | z
       · exact(u2 _ z).keep tl
       · rw[Af.mp z];exact wr.keep tl
   · left
     have e:j=rs.length:=by omega
     subst e;refine⟨⟨_,SqL.of b5,by rw[Ab];exact Ah _⟩,qs.length - (i+1),by omega,rfl,hlt,⟨_,_,rfl⟩,s5,e5,us,rfl,?_,u2⟩;have et:(f q.2).take rs.length=f q.2:=AL (by omega);rw[u1,et,IW eq,Go];simp
 · left
   have e:i=qs.length:=by omega
   subst e;refine⟨⟨_,s1.seq hq,by rw[lq];exact Ah _⟩,hQ H1 zs s1 ?_ e1 z2⟩;rw[z1,C6]
theorem Xq{K:Ae}{l:Addr}{js:Iz}{wi1:TI}{g1:TG}{te:TE}{M:List Str→Hp→Prop}(ws:List (Addr×List WP))(fs:List Str)(hl:SqL K H l (ws.map λq=>V.ref q.1))(hw:∀q∈ws,WishAt H q.1 q.2)(hin:∀x∈ws,Js fs x.2)(hf:fs.length≤6)(hσ:inn js σ=[none,none,none,none])
 (hi:∀x∈ws,∀(y1 y2 y3:Option V)(R:It→Hp→Prop),(∃xs,SqT K H x.1 xs)→R (KA K x.1) H→wi1 [some (.ref x.1),y1,y2,y3] H R)
 (hg:∀(x0 y1 y2 y3:Option V)(p:Addr×WP)(R:St→Hp→Prop),H p.1=some (.tup [.str p.2.1,eV p.2.2.1,eV p.2.2.2])→R [x0,some (.str p.2.1),some (eV p.2.2.1),some (eV p.2.2.2)] H→g1 (.ref p.1) [x0,y1,y2,y3] H R)
 (he:∀(x0 y2 y3:Option V)(f:Str)(R:VK),R (.str f) H→te [x0,some (.str f),y2,y3] H R)
 (hM:∀ks,ks.Nodup→ks.length≤6→(∀f,f∈ks↔∃x∈ws,f∈x.2.map (·.1))→M ks H):
 O9 (Ke K l) js (JA 0) Jm wi1 g1 Jm te σ H M:=by
 have lq:(ws.map λq=>V.ref q.1).length=ws.length:=Ab _;have few:∀ks:List Str,ks.Nodup→(∀f,f∈ks→∃x∈ws,f∈x.2.map (·.1))→ks.length≤6:=λks nd h=>by refine AY (N6 nd λf hf'=>?_) hf;obtain⟨x,hx,hx2⟩:=h f hf';obtain⟨p,hp,rfl⟩:=AN.mp hx2;exact hin x hx p hp
 refine⟨λi m σ' ks H'=>m=ws.length - i∧i≤ws.length∧(∃y0 y1 y2 y3,σ'=[y0,y1,y2,y3])∧H'=H∧ks.Nodup∧∀f,f∈ks↔∃x∈ws.take i,f∈x.2.map (·.1),⟨ws.length,by simp,AQ _,⟨none,none,none,none,hσ⟩,rfl,List.nodup_nil,λf=>by simp⟩,?_⟩;rintro i m σ' ks H1 ⟨rfl,hi1,⟨y0,y1,y2,y3,rfl⟩,rfl,nd,mem⟩;by_cases hlt:i<ws.length
 · right
   have eq:ws[i]?=some ws[i]:=by simp
   have hx:(ws.map λq=>V.ref q.1)[i]?=some (V.ref ws[i].1):=by rw[Ai,eq];rfl
   have hm:=Am eq;generalize ws[i]=q at*;refine⟨⟨_,_,hl,hx⟩,?_⟩;rintro x H2 ⟨rfl,hx2⟩;have:some (V.ref q.1)=some x:=hx.symm.trans (hx2 _ hl);cases this;obtain⟨ps,hps,hA,hP⟩:=hw q hm;have hS:SqT K H2 q.1 (ps.map λp=>V.ref p.1):=SqT.of hA;refine M4 ?_;refine hi q hm y1 y2 y3 _ ⟨_,hS⟩ ?_;refine⟨λj m1 σ3 zs H5=>m1=ps.length - j∧j≤ps.length∧(∃y1 y2 y3,σ3=[some (.ref q.1),y1,y2,y3])∧H5=H2∧zs.Nodup∧∀f,f∈zs↔(∃x∈ws.take i,f∈x.2.map (·.1))∨f∈((ps.map (·.2)).take j).map (·.1),⟨ps.length,by simp,AQ _,⟨_,_,_,rfl⟩,rfl,nd,λf=>by rw[mem];simp⟩,?_⟩;rintro j m1 σ3 zs H5 ⟨rfl,hj,⟨y1',y2',y3',rfl⟩,rfl,nd5,mem5⟩;by_cases hjl:j<ps.length
   · right
     have er:ps[j]?=some ps[j]:=by simp
     have hy:(ps.map λx=>V.ref x.1)[j]?=some (V.ref ps[j].1):=by rw[Ai,er];rfl
     have hpj:=hP _ (Am er);have ew:(ps.map (·.2))[j]?=some ps[j].2:=by rw[Ai,er];rfl
     generalize ps[j]=r at*;have l6:=few zs nd5 λf hf'=>by
      rcases(mem5 f).mp hf' with⟨x,hx',z⟩ | z
      · exact⟨x,BC hx',z⟩
      · refine⟨q,hm,?_⟩;rw[←hps];obtain⟨p,hp,rfl⟩:=AN.mp z;exact Ax (BC hp)
     refine⟨⟨_,_,hS,hy⟩,by omega,?_⟩;rintro x H6 ⟨rfl,hx6⟩;have:some (V.ref r.1)=some x:=hy.symm.trans (hx6 _ hS);cases this;refine hg _ _ _ _ r _ hpj ?_;refine U0 ?_;refine he _ _ _ _ _ ⟨r.2.1,rfl,λzs' l' m' nd'=>⟨ps.length - (j+1),by omega,rfl,hjl,⟨_,_,_,rfl⟩,rfl,nd',λf=>?_⟩⟩;rw[m',mem5,IW ew,Aj,Aq];simp only[AK,List.map_nil,Af];constructor
     · rintro((z | z) | z)
       · exact .inl z
       · exact .inr (.inl z)
       · exact .inr (.inr z)
     · rintro(z | z | z)
       · exact .inl (.inl z)
       · exact .inl (.inr z)
       · exact .inr z
   · left
     have e:j=ps.length:=by omega
     subst e;refine⟨⟨_,hS,by rw[Ab];exact Ah _⟩,ws.length - (i+1),by omega,rfl,hlt,⟨_,_,_,_,rfl⟩,rfl,nd5,λf=>?_⟩;have et:(ps.map (·.2)).take ps.length=ps.map (·.2):=AL (by simp);rw[mem5,et,hps,IW eq];simp only[Aq,Af];constructor
     · rintro(⟨x,h1,h2⟩ | h)
       · exact⟨x,.inl h1,h2⟩
       · exact⟨q,.inr rfl,h⟩
     · rintro⟨x,h1 | h1,h2⟩
       · exact .inl ⟨x,h1,h2⟩
       · subst h1;exact .inr h2
 · left
   have e:i=ws.length:=by omega
   subst e;rw[C6] at mem;exact⟨⟨_,hl,by rw[lq];exact Ah _⟩,hM ks nd (few ks nd λf hf'=>(mem f).mp hf') mem⟩
section
variable{lo sz m:Int}
end
theorem Xu{P:List PP}{p:WP}{n:Int}(h:IH P p.1=some n):JE P p=Ia p.2.1 p.2.2 n:=NM h
section
variable{K:Ae}{mg:Str→Option Value}{base:Heap}
def g2{α:Type}:List α→List α→List α
 | [a],[b]=>[a,b]
 | _,_=>[]
end
section
variable{k:Nat}{p1 p2:Str}{sp:Sp}{e1 e2:Expr}{t tk:TA}{p kpos:Pos}
end
structure ToldF(fs:List Str):Prop where
 len:fs.length≤3
 ok:∀f∈fs,FieldOk f
 asc:fs.Pairwise Ik
section
variable{it d:Addr}{ep:Nat}{as:List Addr}
end
section
variable{tg:Expr}
end
section
variable{d:Addr}{ks:List (Addr×List WP)}
end
section
variable{tg iter kx vx:Expr}{ifs:List Expr}{wi:TI}{js:Iz}{g:TG}{tc:TT}{tk tv:TE}{N':List Str}
end
theorem Sb(f:Str):∀fs:List Str,Mm (.str f) (fs.map V.str)=decide (f∈fs)
 | []=>rfl
 | g::fs=>by have ih:=Sb f fs;unfold Mm at ih ⊢;rw[AK,Dn,ih];have e1:Kw (V.str g) (V.str f)=decide (g=f):=rfl;rw[e1,Ch,Bool.or_eq_true,decide_eq_true_iff,decide_eq_true_iff,decide_eq_true_iff,As];exact⟨λh=>h.imp Eq.symm id,λh=>h.imp Eq.symm id⟩
theorem Xe(fs:List Str):(fs.map V.str).all Kz=true:=by rw[Fg];exact Cc.mpr λ_ _=>rfl
abbrev bL:Int:=2000000000000000
def J5(w:List WP)(ps:List (List WP)):Prop:=∀P,ps.countP (λp=>HE p P)=if HE w P=true then 1 else 0
theorem NT(w:List WP):J5 w [w]:=λP=>by rw[Dv]
theorem SZ{w:List WP}{A B C:List (List WP)}{p:List WP}(h:J5 w (A++p::B))(hc:J5 p C):J5 w (A++C++B):=λP=>by
 have h1:=h P;have h2:=hc P;rw[Cu,Fp] at h1;rw[Cu,Cu,h2,←h1]
 split<;>omega
theorem Xs{w:List WP}{ps:List (List WP)}(h:J5 w ps)(P:List PP):ps.any (λp=>HE p P)=HE w P:=by
 have:=h P;rw[Ch,CM];constructor
 · rintro⟨p,hp,t⟩;have pos:=(Ey (p:=λp=>HE p P)).mpr ⟨p,hp,t⟩;by_cases c:HE w P=true
   · exact c
   · rw[if_neg c] at this;omega
 · intro t;rw[if_pos t] at this;exact(Ey (p:=λp=>HE p P)).mp (by omega)
def HQ(w:List WP)(i:Nat)(p:WP):List WP:=w.take i++[p]++w.drop (i+1)
theorem Pa{w:List WP}{p:WP}(e:w[i]?=some p):HQ w i p=w:=by
 have hi:=(Al.mp e).1;have he:=(Al.mp e).2;unfold HQ;rw[CW]
 conv=>rhs;rw[←CV i w,Ba hi,he]
 rfl
theorem MG(w:List WP)(i:Nat)(p:WP)(P:List PP):HE (HQ w i p) P=(HE (w.take i) P && JE P p && HE (w.drop (i+1)) P):=by unfold HQ;rw[KL,KL,M8]
theorem YI{w:List WP}{p q:WP}(e:w[i]?=some p)(h:q.1=p.1):(HQ w i q).map (·.1)=w.map (·.1):=by
 conv=>rhs;rw[←Pa e]
 unfold HQ;rw[Aj,Aj,Aj,Aj];simp[h]
def RT:Sp:=λvs H Q _=>∃(b g l a:Addr)(n:Int)(xs:List V),vs=[.ref b,.ref a]∧Well H b g l n∧n≤10^6∧H a=some (.lst xs)∧a≠b∧a≠g∧xs.length≤100∧
 ∀(r:Addr)(ys:List V)(H':Hp),H r=none→H' r=some (.lst ys)→ys.Perm xs→Well H' b g l (n+100)→SameB b g H H'→Q (.ref r) H'
theorem OQ{Q:VK}{j:Nat}{tf tl th:TE}{k:Nat}{w:List WP}{f:Str}{lo hi:Option Int}(ea:σ[i]?=some (some (V.ref a)))(ej:σ[j]?=some (some (V.int (k:Int))))(hw:WishAt H a w)(hk:w.length≤10)
 (hf:∀(H':Hp)(R:VK),Same H H'→R (.str f) H'→tf σ H' R) (hl:∀(H':Hp)(R:VK),Same H H'→R (eV lo) H'→tl σ H' R) (hh:∀(H':Hp)(R:VK),Same H H'→R (eV hi) H'→th σ H' R)
 (q:∀r H',Same H H'→WishAt H' r (HQ w k (f,lo,hi))→Q (.ref r) H'):
 Jh Lf (Jh Lf (Kt Jo (HW i) Kd (Ki (HW j))) (Jn (Ji (Jn (Ji tf (Ji tl (Ji th IJ)))) IJ))) (Kt Jo (HW i) (Ki (Jh (JS λi j=>V.int (i+j)) (HW j) (tC (.int 1)))) Kd) σ H Q:=by
 obtain⟨ps,rfl,hA,hP⟩:=hw;have lp:ps.length≤10:=by simpa using hk
 refine⟨_,ea,_,ej,_,rfl,a,_,rfl,hA,λp1 H1 s1 e1=>?_⟩;rw[LC rfl,←Cv] at e1;refine hf _ _ s1 (hl _ _ s1 (hh _ _ s1 ⟨(by show 3≤Av;decide),λc1 hc1=>?_⟩));have s2:=Hz hc1 (.tup [V.str f,eV lo,eV hi]);have e2:(Hr H1 c1 (.tup [V.str f,eV lo,eV hi])) c1=some (.tup [V.str f,eV lo,eV hi]):=Hu;generalize Hr H1 c1 (.tup [V.str f,eV lo,eV hi])=H2 at*;refine⟨(by show 1≤Av;decide),λc2 hc2=>?_⟩;have s3:=Hz hc2 (.tup [V.ref c1]);have e3:(Hr H2 c2 (.tup [V.ref c1])) c2=some (.tup [V.ref c1]):=Hu;generalize Hr H2 c2 (.tup [V.ref c1])=H3 at*;refine⟨p1,c2,_,_,rfl,rfl,s3 _ _ (s2 _ _ e1),e3,(by rw[Ab,AH];exact Jt (by simp;omega)),λd1 H4 s4 e4=>?_⟩;have t3:=s1.trans (s2.trans s3);refine⟨_,ea,_,ej,_,_,rfl,rfl,_,rfl,a,_,rfl,s4 _ _ (t3 _ _ hA),λp2 H5 s5 e5=>?_⟩;rw[LB (n:=k+1) (by omega),←CI] at e5;refine⟨d1,p2,_,_,rfl,rfl,s5 _ _ e4,e5,(by rw[Aw,Ab,AH,Ab,BM];exact Jt (by simp;omega)),λd2 H6 s6 e6=>?_⟩;have t6:=t3.trans (s4.trans (s5.trans s6));have e7:((ps.take k).map λp:Addr×WP=>V.ref p.1)++[V.ref c1]++(ps.drop (k+1)).map (λp:Addr×WP=>V.ref p.1)=(ps.take k++[((c1,f,lo,hi):Addr×WP)]++ps.drop (k+1)).map λp:Addr×WP=>V.ref p.1:=by simp
 rw[e7] at e6;refine q d2 H6 t6 ⟨_,?_,e6,λy hy=>?_⟩
 · unfold HQ;rw[Aj,Aj,Cv,CI];rfl
 · rcases Aq.mp hy with y1 | y1
   · rcases Aq.mp y1 with y2 | y2
     · exact t6 _ _ (hP y (BC y2))
     · rw[Af.mp y2];exact s6 _ _ (s5 _ _ (s4 _ _ (s3 _ _ e2)))
   · exact t6 _ _ (hP y (Cw y1))
theorem UQ{o:Expr}{es:List Expr}{to:TE}{t:TA}{name:Str}{apos cpos:Pos}{T id:String}{r:V→List V→Hp→VK→Prop}(K:Ae)(hK:X.K=K)(pa:PlainAttrs T)(slot:Slot T name id)(hty:typeOf (.builtin id)=pure (.type "method_descriptor"))(hm:TQ X id r)(ho:PE X o to)(ha:PA X (e::es) t)
 (hbase:attributeBase o name X.env (eval o X.env)=eval o X.env:=by rfl)
 (hfew:((backTo cpos (AR (e::es) X.env)).all (λx=>!x.1) && (backToKw cpos (keywordEach [] X.env)).all (λx=>x.1.isSome)
  && decide ((e::es).length+([]:List Keyword).length+(if([]:List Keyword).isEmpty then 0 else 1)<30))=true:=by rfl)
 (hline:(apos.endLine==cpos.line)=true:=by rfl) (hs:AR (e::es) X.env=(false,eval e X.env)::AR es X.env:=by rfl) (hplain:(backTo cpos (AR es X.env)).any (·.1)=false:=by rfl):
 PE X (.Call (.Attribute o name apos) (e::es) [] cpos) (TF K T r to t):=by
 subst hK;exact Ld pa slot hty hm ho ha hbase hfew hline hs hplain
theorem SW{α:Type}:∀(l:List α)(k:Nat)(h:k<l.length),(l[k]::l.eraseIdx k).Perm l
 | [],_,h=>by simp at h
 | a::l,0,_=>FN _
 | a::l,k+1,h=>by have ih:=SW l k (by simpa using h);exact(List.Perm.swap a (l[k]'(by simpa using h)) (l.eraseIdx k)).trans (ih.cons a)
theorem X9{K:Ae}{Q:VK}{j:Nat}{k:Nat}(ea:σ[i]?=some (some (V.ref a)))(ej:σ[j]?=some (some (V.int (k:Int))))(ha:H a=some (.lst xs))(hx:xs.length≤100)
 (q:∀r H',H r=none→Same H H'→H' r=some (.lst (xs.eraseIdx k))→Q (.ref r) H'):
 Jh MP (Kt (LI K) (HW i) Kd (Ki (HW j))) (Kt (LI K) (HW i) (Ki (Jh (JS λi j=>V.int (i+j)) (HW j) (tC (.int 1)))) Kd) σ H Q:=by
 refine⟨_,ea,_,ej,_,rfl,a,_,rfl,SqL.of ha,λp1 hp1=>?_⟩;rw[LC rfl];have s1:=Hz hp1 (.lst (xs.take k));have e1:(Hr H p1 (.lst (xs.take k))) p1=some (.lst (xs.take k)):=Hu;generalize Hr H p1 (.lst (xs.take k))=H1 at*;refine⟨_,ea,_,ej,_,_,rfl,rfl,_,rfl,a,_,rfl,SqL.of (s1 _ _ ha),λp2 hp2=>?_⟩;rw[LB (n:=k+1) (by omega)];have s2:=Hz hp2 (.lst (xs.drop (k+1)));have e2:(Hr H1 p2 (.lst (xs.drop (k+1)))) p2=some (.lst (xs.drop (k+1))):=Hu;generalize Hr H1 p2 (.lst (xs.drop (k+1)))=H2 at*;refine⟨p1,p2,_,_,rfl,rfl,s2 _ _ e1,e2,(by rw[AH,BM];exact Jt (by omega)),λp3 hp3=>?_⟩;refine q p3 _ ((s1.trans s2).free hp3) (s1.trans (s2.trans (Hz hp3 _))) ?_;rw[Hu,Eh]
theorem YH{α β:Type}{f:α→β}{ys zs:List β}(h:ys.Perm zs):∀l:List α,zs=l.map f→∃l':List α,l'.Perm l∧l'.map f=ys:=by
 induction h with
 | nil=>intro l e;exact⟨l,FN _,e.symm⟩
 | cons x _ ih=>
  intro l e;cases l with
  | nil=>cases e
  | cons a l=>
   rw[AK] at e;injection e with e1 e2
   obtain⟨l',p,e3⟩:=ih l e2;exact⟨a::l',p.cons a,by rw[AK,e3,e1]⟩
 | swap x y r=>
  intro l e
  match l,e with
  | a::b::l,e=>
   rw[AK,AK] at e;injection e with e1 e2
   injection e2 with e2 e3
   exact⟨b::a::l,List.Perm.swap _ _ _,by rw[AK,AK,e1,e2,e3]⟩
 | trans _ _ ih1 ih2=> intro l e;obtain⟨l1,p1,e1⟩:=ih2 l e;obtain⟨l2,p2,e2⟩:=ih1 l1 e1.symm;exact⟨l2,p2.trans p1,e2⟩
theorem OW{α β:Type}(f:α→β):∀(l:List α)(k:Nat),(l.map f).eraseIdx k=(l.eraseIdx k).map f
 | [],_=>rfl
 | _::_,0=>rfl
 | a::l,k+1=>congrArg (f a:: ·) (OW f l k)
def JC(fs own:List Str):List WP:=(fs.filter λf=>!decide (f∈own)).map λf=>(f,none,none)
theorem P5(fs own:List Str):(JC fs own).map (·.1)=fs.filter λf=>!decide (f∈own):=by unfold JC;rw[BN];exact List.map_id _
theorem Vn{fs own:List Str}(t:ToldF fs):WOk (JC fs own):=by
 refine⟨?_,λp hp=>?_,?_⟩
 · unfold JC;rw[Ab];have:=Cn (λf=>!decide (f∈own)) fs;have:=t.len;omega
 · obtain⟨f,hf,rfl⟩:=AN.mp hp;exact⟨t.ok f (Dp.mp hf).1,rfl⟩
 · rw[P5];exact t.asc.sublist List.filter_sublist
theorem Vm(fs own:List Str):Js fs (JC fs own):=λp hp=>by obtain⟨f,hf,rfl⟩:=AN.mp hp;exact(Dp.mp hf).1
theorem NH{w:List WP}{f:Str}{lo hi:Option Int}{n:Int}(e:w[i]?=some (f,lo,hi))(h1:∀l,lo=some l→l≤n)(h2:∀u,hi=some u→n<u):J5 w [HQ w i (f,lo,some n),HQ w i (f,some (n+1),hi)]:=λP=>by
 conv=>rhs;rw[←Pa e]
 rw[Fp,Dv,MG,MG,MG];cases HE (w.take i) P with
 | false=>simp
 | true=>
  cases HE (w.drop (i+1)) P with
  | false=>simp
  | true=>
   simp only[Bool.true_and,Ec];cases en:IH P f with
   | none=>
    have:∀s:IE,JE P (f,s)=false:=λs=>EX.mpr λz=>by obtain⟨k,hk,_⟩:=takesP_iff.mp z;rw[show((f,s):WP).1=f from rfl,en] at hk;cases hk
    rw[this,this,this];simp
   | some k=>
    have t:∀s:IE,JE P (f,s)=Ia s.1 s.2 k:=λs=>Xu (p:=(f,s)) en;rw[t,t,t];have g1:IK lo k=true∨k<n:=by
     cases lo with
     | none=>exact .inl rfl
     | some l=>
      have:=h1 l rfl;by_cases q:l≤k
      · exact .inl (decide_eq_true q)
      · exact .inr (by omega)
    have g2:IR hi k=true∨n+1<k:=by
     cases hi with
     | none=>exact .inl rfl
     | some u=>
      have:=h2 u rfl;by_cases q:k≤u
      · exact .inl (decide_eq_true q)
      · exact .inr (by omega)
    have e1:IR (some n) k=decide (k≤n):=rfl;have e2:IK (some (n+1)) k=decide (n+1≤k):=rfl;simp only[Ia,e1,e2];by_cases q:k≤n
    · have q2:¬(n+1≤k):=by omega
      have a:IR hi k=true:=g2.resolve_right (by omega);simp[q,q2,a]
    · have q2:n+1≤k:=by omega
      have a:IK lo k=true:=g1.resolve_right (by omega);simp[q,q2,a]
structure BoxE(fs:List Str)(w:List WP):Prop where
 ok:WOk w
 fl:w.map (·.1)=fs
theorem LX{fs:List Str}{w:List WP}{p:WP}(h:BoxE fs w)(e:w[i]?=some p){lo hi:Option Int}(le:IV lo hi=true):BoxE fs (HQ w i (p.1,lo,hi)):=by
 have hp:=Am e;have hf:=YI (q:=(p.1,lo,hi)) e rfl;have mem:∀x∈HQ w i (p.1,lo,hi),x∈w∨x=(p.1,lo,hi):=λx hx=>by
  unfold HQ at hx;rcases Aq.mp hx with z | z
  · rcases Aq.mp z with z | z
    · exact .inl (BC z)
    · exact .inr (Af.mp z)
  · exact .inl (Cw z)
 refine⟨⟨?_,λx hx=>?_,by rw[hf];exact h.ok.asc⟩,hf.trans h.fl⟩
 · have:=congrArg AX hf;rw[Ab,Ab] at this;rw[this];exact h.ok.len
 · rcases mem x hx with z | z
   · exact h.ok.ok x z
   · rw[z];exact⟨(h.ok.ok p hp).1,le⟩
structure EsAt(fs:List Str)(H:Hp)(r:Addr)(ps:List (Addr×List WP)):Prop where
 at':H r=some (.lst (ps.map λx=>V.ref x.1))
 ok:∀x∈ps,WishAt H x.1 x.2∧BoxE fs x.2
theorem EsAt.same{fs:List Str}{H':Hp}{r:Addr}{ps:List (Addr×List WP)}(h:EsAt fs H r ps)(s:Same H H'):EsAt fs H' r ps:=⟨s _ _ h.at',λx hx=>⟨(h.ok x hx).1.same s,(h.ok x hx).2⟩⟩
theorem EsAt.sameW{fs:List Str}{H':Hp}{g l:Addr}{n:Int}{r:Addr}{ps:List (Addr×List WP)}(h:EsAt fs H r ps)(B:Well H b g l n)(rb:r≠b)(rg:r≠g)(s:SameB b g H H'):EsAt fs H' r ps:=⟨s _ _ h.at' rb rg,λx hx=>⟨(h.ok x hx).1.sameW B s,(h.ok x hx).2⟩⟩
def QX:Sp:=λvs H Q _=>∃(b g l a:Addr)(n:Int)(fs:List Str),vs=[.ref b,.ref a,.bl true]∧Well H b g l n∧n≤10^6∧H a=some (.lst (fs.map V.str))∧a≠b∧a≠g∧ToldF fs∧
 ∀(r:Addr)(w:List WP)(H':Hp),WishAt H' r w→BoxE fs w→Well H' b g l (n+100)→SameB b g H H'→Q (.ref r) H'
def QY:Sp:=λvs H Q _=>∃(b g l a:Addr)(n:Int)(w:List WP)(fs:List Str),vs=[.ref b,.ref a]∧Well H b g l n∧n≤10^6∧WishAt H a w∧BoxE fs w∧1≤fs.length∧fs.length≤3∧
 ∀(r:Addr)(ps:List (Addr×List WP))(H':Hp),H r=none→EsAt fs H' r ps→ps.length≤2→1≤ps.length→J5 w (ps.map (·.2))→Well H' b g l (n+10)→SameB b g H H'→Q (.ref r) H'
def RO:Sp:=λvs H Q _=>∃(b g l a:Addr)(n many:Int)(w:List WP)(fs:List Str),vs=[.ref b,.ref a,.int many]∧Well H b g l n∧n≤10^5∧WishAt H a w∧BoxE fs w∧1≤fs.length∧fs.length≤3∧0≤many∧many≤6∧
 ∀(r:Addr)(ps:List (Addr×List WP))(H':Hp),H r=none→EsAt fs H' r ps→ps.length≤7→1≤ps.length→J5 w (ps.map (·.2))→Well H' b g l (n+100)→SameB b g H H'→Q (.ref r) H'
theorem SQ{Q:VK}{j:Nat}{te:TE}{k:Nat}{w:List WP}{f:Str}{lo hi:Option Int}(ea:σ[i]?=some (some (V.ref a)))(ej:σ[j]?=some (some (V.int (k:Int))))(hw:WishAt H a w)(hk:w.length≤10)
 (he:∀(H':Hp)(R:VK),Same H H'→(∀c H'',Same H' H''→H'' c=some (.tup [V.str f,eV lo,eV hi])→R (.ref c) H'')→te σ H' R)
 (q:∀r H',Same H H'→WishAt H' r (HQ w k (f,lo,hi))→Q (.ref r) H'):
 Jh Lf (Jh Lf (Kt Jo (HW i) Kd (Ki (HW j))) (Jn (Ji te IJ))) (Kt Jo (HW i) (Ki (Jh (JS λi j=>V.int (i+j)) (HW j) (tC (.int 1)))) Kd) σ H Q:=by
 obtain⟨ps,rfl,hA,hP⟩:=hw;have lp:ps.length≤10:=by simpa using hk
 refine⟨_,ea,_,ej,_,rfl,a,_,rfl,hA,λp1 H1 s1 e1=>?_⟩;rw[LC rfl,←Cv] at e1;refine he _ _ s1 λc1 H2 s2 e2=>?_;refine⟨(by show 1≤Av;decide),λc2 hc2=>?_⟩;have s3:=Hz hc2 (.tup [V.ref c1]);have e3:(Hr H2 c2 (.tup [V.ref c1])) c2=some (.tup [V.ref c1]):=Hu;generalize Hr H2 c2 (.tup [V.ref c1])=H3 at*;refine⟨p1,c2,_,_,rfl,rfl,s3 _ _ (s2 _ _ e1),e3,(by rw[Ab,AH];exact Jt (by simp;omega)),λd1 H4 s4 e4=>?_⟩;have t3:=s1.trans (s2.trans s3);refine⟨_,ea,_,ej,_,_,rfl,rfl,_,rfl,a,_,rfl,s4 _ _ (t3 _ _ hA),λp2 H5 s5 e5=>?_⟩;rw[LB (n:=k+1) (by omega),←CI] at e5;refine⟨d1,p2,_,_,rfl,rfl,s5 _ _ e4,e5,(by rw[Aw,Ab,AH,Ab,BM];exact Jt (by simp;omega)),λd2 H6 s6 e6=>?_⟩;have t6:=t3.trans (s4.trans (s5.trans s6));have e7:((ps.take k).map λp:Addr×WP=>V.ref p.1)++[V.ref c1]++(ps.drop (k+1)).map (λp:Addr×WP=>V.ref p.1)=(ps.take k++[((c1,f,lo,hi):Addr×WP)]++ps.drop (k+1)).map λp:Addr×WP=>V.ref p.1:=by simp
 rw[e7] at e6;refine q d2 H6 t6 ⟨_,?_,e6,λy hy=>?_⟩
 · unfold HQ;rw[Aj,Aj,Cv,CI];rfl
 · rcases Aq.mp hy with y1 | y1
   · rcases Aq.mp y1 with y2 | y2
     · exact t6 _ _ (hP y (BC y2))
     · rw[Af.mp y2];exact s6 _ _ (s5 _ _ (s4 _ _ (s3 _ _ e2)))
   · exact t6 _ _ (hP y (Cw y1))
theorem XY{Q:VK}{j:Nat}{k:Nat}{w:List WP}(ea:σ[i]?=some (some (V.ref a)))(ej:σ[j]?=some (some (V.int (k:Int))))(hw:WishAt H a w)(hk:w.length≤10)
 (q:∀r H',Same H H'→WishAt H' r (w.eraseIdx k)→Q (.ref r) H'):
 Jh Lf (Kt Jo (HW i) Kd (Ki (HW j))) (Kt Jo (HW i) (Ki (Jh (JS λi j=>V.int (i+j)) (HW j) (tC (.int 1)))) Kd) σ H Q:=by
 obtain⟨ps,rfl,hA,hP⟩:=hw;have lp:ps.length≤10:=by simpa using hk
 refine⟨_,ea,_,ej,_,rfl,a,_,rfl,hA,λp1 H1 s1 e1=>?_⟩;rw[LC rfl,←Cv] at e1;refine⟨_,ea,_,ej,_,_,rfl,rfl,_,rfl,a,_,rfl,s1 _ _ hA,λp2 H2 s2 e2=>?_⟩;rw[LB (n:=k+1) (by omega),←CI] at e2;refine⟨p1,p2,_,_,rfl,rfl,s2 _ _ e1,e2,(by rw[Ab,AH,Ab,BM];exact Jt (by omega)),λd H3 s3 e3=>?_⟩;rw[←Aj,←Eh] at e3;have t:=s1.trans (s2.trans s3);exact q d H3 t ⟨ps.eraseIdx k,(OW _ _ _).symm,e3,λy hy=>t _ _ (hP y ((Dw _ _).subset hy))⟩
theorem XZ{w:List WP}{k:Nat}{P:List PP}(t:HE w P=true):HE (w.eraseIdx k) P=true:=
 Cc.mpr λp hp=>Cc.mp t p ((Dw _ _).subset hp)
theorem T8{p:List WP}{f:Str}{lo hi lo' hi':Option Int}(e:p[i]?=some (f,lo,hi))(h:∀k,Ia lo hi k=true→Ia lo' hi' k=true){P:List PP}(t:HE p P=true):HE (HQ p i (f,lo',hi')) P=true:=by rw[←Pa e,MG,AB,AB] at t;rw[MG,AB,AB];refine⟨⟨t.1.1,?_⟩,t.2⟩;obtain⟨k,hk,z⟩:=takesP_iff.mp t.1.2;exact takesP_iff.mpr ⟨k,hk,h k z⟩
def SE:Sp:=λvs H Q _=>∃(b g l a:Addr)(n:Int)(w:List WP)(fs:List Str),vs=[.ref b,.ref a]∧Well H b g l n∧n≤10^6∧WishAt H a w∧BoxE fs w∧1≤fs.length∧fs.length≤3∧
 ∀(r:Addr)(w':List WP)(H':Hp),WishAt H' r w'→WOk w'→Js fs w'→(∀P,HE w P=true→HE w' P=true)→Well H' b g l (n+2)→SameB b g H H'→Q (.ref r) H'
def SD:Sp:=λvs H Q _=>∃(b g l a:Addr)(n:Int)(w:List WP)(fs:List Str),vs=[.ref b,.ref a]∧Well H b g l n∧n≤10^6∧WishAt H a w∧BoxE fs w∧1≤fs.length∧fs.length≤3∧
 ∀(t r c:Addr)(ps:List (Addr×List WP))(gap:List WP)(H':Hp),H r=none→H' t=some (.tup [.ref r,.ref c])→EsAt fs H' r ps→ps.length≤1→WishAt H' c gap→BoxE fs gap→J5 w (ps.map (·.2)++[gap])→Well H' b g l (n+10)→SameB b g H H'→Q (.ref t) H'
theorem Y7{w a b:List WP}(h:J5 w [a,b]):J5 w [b,a]:=λP=>by have:=h P;rw[Fp,Dv] at this ⊢;omega
theorem Uy{α:Type}:∀{l:List α},l.length=2→∃a b,l=[a,b]
 | [a,b],_=>⟨a,b,rfl⟩
theorem Ph{H:Hp}{Q:VK}{ta tb tc td:TE}{va vb vc vd:V}(ha:∀(H':Hp)(R:VK),R va H'→ta σ H' R)(hb:∀(H':Hp)(R:VK),R vb H'→tb σ H' R)(hc:∀(H':Hp)(R:VK),R vc H'→tc σ H' R)(hd:∀(H':Hp)(R:VK),R vd H'→td σ H' R)
 (q:∀pl t3 t1 t2 H',Same H H'→H' pl=some (.lst [V.ref t3])→H' t3=some (.tup [V.ref t1,V.ref t2])→H' t1=some (.tup [va,vb])→H' t2=some (.tup [vc,vd])→Q (.ref pl) H'):
 MJ (Ji (Jn (Ji (Jn (Ji ta (Ji tb IJ))) (Ji (Jn (Ji tc (Ji td IJ))) IJ))) IJ) σ H Q:=by
 refine ha _ _ (hb _ _ ⟨(by show 2≤Av;decide),λt1 ht1=>?_⟩);have s1:=Hz ht1 (.tup [va,vb]);have c1:(Hr H t1 (.tup [va,vb])) t1=some (.tup [va,vb]):=Hu;generalize Hr H t1 (.tup [va,vb])=H1 at*;refine hc _ _ (hd _ _ ⟨(by show 2≤Av;decide),λt2 ht2=>?_⟩);have s2:=Hz ht2 (.tup [vc,vd]);have c2:(Hr H1 t2 (.tup [vc,vd])) t2=some (.tup [vc,vd]):=Hu;generalize Hr H1 t2 (.tup [vc,vd])=H2 at*;refine⟨(by show 2≤Av;decide),λt3 ht3=>?_⟩;have s3:=Hz ht3 (.tup [V.ref t1,V.ref t2]);have c3:(Hr H2 t3 (.tup [V.ref t1,V.ref t2])) t3=some (.tup [V.ref t1,V.ref t2]):=Hu;generalize Hr H2 t3 (.tup [V.ref t1,V.ref t2])=H3 at*;refine⟨(by show 1≤Av;decide),λpl hpl=>?_⟩;have s4:=Hz hpl (.lst [V.ref t3]);exact q pl t3 t1 t2 _ (s1.trans (s2.trans (s3.trans s4))) Hu (s4 _ _ c3) ((s2.trans (s3.trans s4)) _ _ c1) ((s3.trans s4) _ _ c2)
theorem Ru{t:TE}{g:TG}{u:TS}{D:Ends}(h:t σ H λv H'=>g v σ H' (u D)):LH (JR t g) u D σ H:=h
theorem R8{t:TE}{g:TG}{D:Ends}(h:t σ H λv H'=>g v σ H' D.nx):JR t g D σ H:=h
open PySem PySem.Spec PyProof.Rows PySem.W
def JG(f:Addr)(o:Obj):HO:= .ext λh=>h.get? f=some o
def JH(c:Addr)(q:Str):HO:= .ext λh=>h.CodeRec (.ref c) q
theorem UA{f:Addr}{o:Obj}(e:h.get? f=some o):ObjOk P w H h f (JG f o):=⟨e,⟨o,e⟩,λh1 h2 p k=>k _ p⟩
theorem U7{c:Addr}{q:Str}(e:h.CodeRec (.ref c) q):ObjOk P w H h c (JH c q):=by obtain⟨c',o,vs,t,e1,e2,e3,e4⟩:=id e;cases e1;refine⟨e,⟨o,e2⟩,λh1 h2 p k=>?_⟩;obtain⟨c',o,vs,t,e1,e2,e3,e4⟩:=p;cases e1;exact⟨c,o,vs,t,rfl,k _ e2,e3,e4⟩
def Uh(f c':Addr)(o:Obj)(qual:Str)(sp:Sp):Sp:=λvs H Q E=>(H f=some (JG f o)∧H c'=some (JH c' qual))∧sp vs H Q E
theorem UI{CX:JN}{P:Br}{w:World}{K:Ae}{mg:Str→Option Value}{base:Heap}{k:Nat}{f c':Addr}{name qual:Str}{params:Arguments}{body:Expr}{pm ctv:Value}{N ps:List Str}{sp:Sp}(S:FnScope N ps scope)
 (len:∀vs H Q E,sp vs H Q E→vs.length=ps.length)
 (hbody:∀(A:Bu)(outer:List Env)(s:Shared)(H:Hp)(vs:List V)(Q:VK)(E:XK),Room k (A.deeper (envOfC qual scope s.heap.objs.size f (.ref c')))→sp vs H Q E→
  ∃t,PE (Je CX P w K mg base N qual scope f (.ref c') A outer s H E) body t∧t (JY N vs) H Q):
 FnOk P w K mg base CX (k+1) f (kla_fn name qual params body scope [] pm (.ref c') ctv) ps (Uh f c' (kla_obj name qual params body scope [] pm c' ctv) qual sp):=by
 refine⟨λvs H Q E h=>len _ _ _ _ h.2,λA outer s H args us vs Q E hr e0 hb r hsp=>?_⟩;obtain⟨⟨hf,hc⟩,hsp⟩:=hsp;have hl:=len _ _ _ _ hsp;have lim:s.heap.NoLimit:=e0.mod.nolimit.keeps λb o e=>(e0.bs b o e).1;have ho:s.heap.get? f=some (kla_obj name qual params body scope [] pm c' ctv):=(e0.hok f _ hf).1;have hcr:s.heap.CodeRec (.ref c') qual:=(e0.hok c' _ hc).1;have hkind:∀y∈ps.zip us,scope.names.lookup y.1=some .local∨(scope.names.lookup y.1=some .cell∧((BS (s.heap.objs.size+1) scope.names []).lookup y.1).isSome=true):=λ⟨n,v⟩ hy=>by
  rcases S.par n (El hy).1 with q | q
  · exact .inl q
  · exact .inr ⟨q,C2 _ _ _ (.inl q)⟩
 refine kla_callFunE hr.depth ho rfl S.co S.gen rfl hcr (hb _ _ _ _ ?_);refine EF S.kind hkind λenv he s1 x=>?_;subst he;refine⟨lim.keeps x.toInCall.keep,kla_codeExpr ?_⟩;obtain⟨t,ht,hq⟩:=hbody A outer s H vs Q E (hr.deeper _) hsp;have I:Inv (Je CX P w K mg base N qual scope f (.ref c') A outer s H E) [] (JY N vs) H s1:=Sl S hr.hd e0 hl r x;refine Ay (ht [] s1 (JY N vs) H _ I hq) (λu s' hs=>?_) λe s' hs=>hs;obtain⟨v,H',J,rv,q⟩:=hs;exact⟨v,H',J.os,J.bare,J.base,J.hok,rv,q⟩
def PR(P:Addr)(fo:Value→Addr→Value→Obj)(qual:Str):TE:=λ_ H Q=>H P=some (.tbl #[])∧∀(f c':Addr)(pm ctv:Value)(ps:Array Value),H f=none→H c'=none→f≠c'→Q (.ref f) (Hr (Hr (Hr H P (.tbl ps)) c' (JH c' qual)) f (JG f (fo pm c' ctv)))
theorem UR{params:Arguments}{body:Expr}{pos:Pos}{c P:Addr}(hc:X.env.code= .ref c)(hd:∀h,X.K.In h→CodeHd h c P)(hb:X.base.BuiltinsAt X.mg P)(hdef:defaultsOf params X.env=([],[]):=by rfl)(hcl:closureFor scope X.env=pure []:=by rfl):
 PE X (.Lambda params body scope pos) (PR P (λpm c' ctv=>kla_obj "<lambda>" (X.env.qual++"<lambda>") params body scope [] pm c' ctv) (X.env.qual++"<lambda>")):=by
 intro pins s σ H Q I h;obtain⟨eP,q⟩:=h;refine kla_eval hdef ?_;have oP:s.heap.get? P=some (tabObj #[]):=I.hok P _ eP;have hg:s.heap.Ns AI X.mg:=I.mod.glob.keeps I.bk;have hgP:AI≠P:=λz=>by obtain⟨o,es,ep,e,hd,_⟩:=hg;rw[z,oP] at e;cases e;cases hd
 refine kla_makeFunction (mg:=X.mg) hcl I.ok.glob hg hc (hd _ I.kIn) oP (by trivial) rfl hgP (hb.keeps I.bk) λc' ctv h' tk hx hge hlt hrec htb=>?_;have oldP:∀b,H b=none→b≠P:=λb n z=>by rw[z,eP] at n;cases n
 have fr:∀b u,H b=some u→b<s.heap.objs.size:=λb u e=>I.hok.lt e;have sz:s.heap.objs.size≤h'.objs.size:=by omega
 have kp:∀b o,b≠P→s.heap.get? b=some o→(h'.push (kla_obj "<lambda>" (X.env.qual++"<lambda>") params body scope [] ((X.mg "__name__").getD .none) c' ctv)).get? b=some o:=λb o n e=>Ad _ (hx b o n e);have tP:(h'.push (kla_obj "<lambda>" (X.env.qual++"<lambda>") params body scope [] ((X.mg "__name__").getD .none) c' ctv)).get? P=some (tabObj (#[]++#[rawInt pos.line,rawInt pos.col,.ref c'])):=Ad _ htb;have Pl:P<s.heap.objs.size:=fr P _ eP;have off:∀b,b<s.heap.objs.size→b≠P→Hr (Hr (Hr H P (.tbl (#[]++#[rawInt pos.line,rawInt pos.col,.ref c']))) c' (JH c' (X.env.qual++"<lambda>"))) h'.objs.size (JG h'.objs.size (kla_obj "<lambda>" (X.env.qual++"<lambda>") params body scope [] ((X.mg "__name__").getD .none) c' ctv)) b=H b:=λb hb n=>by rw[HD (Ar (AD hb sz)),HD (Ar (AD hb hge)),HD n]
 have atP:Hr (Hr (Hr H P (.tbl (#[]++#[rawInt pos.line,rawInt pos.col,.ref c']))) c' (JH c' (X.env.qual++"<lambda>"))) h'.objs.size (JG h'.objs.size (kla_obj "<lambda>" (X.env.qual++"<lambda>") params body scope [] ((X.mg "__name__").getD .none) c' ctv)) P=some (.tbl (#[]++#[rawInt pos.line,rawInt pos.col,.ref c'])):=by rw[HD (Ar (AD Pl sz)),HD (Ar (AD Pl hge)),Hu]
 refine⟨.ref h'.objs.size,_,I.un (t':=tk) (h':=h'.push (kla_obj "<lambda>" (X.env.qual++"<lambda>") params body scope [] ((X.mg "__name__").getD .none) c' ctv)) ?un ?hok,rfl,q h'.objs.size c' ((X.mg "__name__").getD .none) ctv (#[]++#[rawInt pos.line,rawInt pos.col,.ref c']) (I.hok.fresh sz) (I.hok.fresh hge) (C1 hlt)⟩
 case un=>
  refine⟨λb o e n _ _=>kp b o (oldP b n) e,λb o e n _ _=>⟨o.slots,kp b o (oldP b n) e⟩,λb o e n _=>?_,λb o e _=>?_,λb xs e=>?_,λb o u e=>?_,λb ps e=>?_⟩
  · rw[off b (Ao e) (oldP b n)];exact n
  · by_cases z:b=P
    · rw[z];exact⟨_,tP⟩
    · exact⟨o,kp b o z e⟩
  · rw[off b (fr b _ e) (λz=>by rw[z,eP] at e;cases e)];exact e
  · rw[off b (fr b _ e) (λz=>by rw[z,eP] at e;cases e)];exact e
  · by_cases z:b=P
    · subst z;rw[eP] at e;cases e;exact⟨_,atP⟩
    · refine⟨#[],?_⟩;rw[off b (fr b _ e) z,e];simp
 case hok=>
  intro b u e;by_cases z1:b=h'.objs.size
  · subst z1;rw[Hu] at e;obtain rfl:JG _ _=u:=A5 e;exact UA (An _ rfl)
  · rw[HD z1] at e;by_cases z2:b=c'
    · subst z2;rw[Hu] at e;obtain rfl:JH _ _=u:=A5 e;refine U7 ?_;obtain⟨c₂,o,vs,t,e1,e2,e3,e4⟩:=hrec;exact⟨c₂,o,vs,t,e1,Ad _ e2,e3,e4⟩
    · rw[HD z2] at e;by_cases z3:b=P
      · subst z3;rw[Hu] at e;obtain rfl:HO.tbl _=u:=A5 e;exact tP
      · rw[HD z3] at e;have nP:∀c,H c=some (.own b)→c≠P:=λc hc z=>by rw[z,eP] at hc;cases hc
        refine(I.hok b u e).stay (λc v hc hq=>kp c v ?_ hq) (λc hc=>?_) λc xs hc=>?_
        · rcases hc with rfl | hc
          · exact z3
          · exact nP c hc
        · rw[off c (fr c _ hc) (nP c hc)];exact hc
        · rw[off c (fr c _ hc) (λz=>by rw[z,eP] at hc;cases hc)];exact hc
def Oz(X:Cx)(k:Nat)(x:Str):List V→List V→Hp→VK→Prop:=λxs zs H Q=>∃(f:Addr)(fd:BG)(sp:Sp),zs=[.ref f]∧FnOk X.prog X.w X.K X.mg X.base HY k f fd [x] sp∧Binds X.K fd [x] []∧OK 63 X.K sp xs H Q
theorem Yq{k:Nat}(hr:Room (k+2) X.A):Mx X (.builtin "sorted") [BE "key"] (Oz X k x):=by intro pins s σ H xs zs us ws Q I r1 r2 h;obtain⟨f,fd,sp,rfl,F,hb,h⟩:=h;exact Zf (M:=63) (by decide) (λn h=>Vu (by omega)) F hb hr pins s σ H xs [.ref f] us ws Q I r1 r2 ⟨rfl,h⟩
theorem We(k:Nat)(x:Str){le:Expr}{t:TA}{tl:TE}{p1 p3 pos:Pos}(hl:PE X le tl)(hr:Room (k+2) X.A)(hg:Gl X "sorted")(hm:X.mg "sorted"=none)(ha:PA X [e] t)
 (he:backTo pos (AR [e] X.env)=(false,eval e X.env)::backTo pos (AR [] X.env):=by rfl) (hpl:(backTo pos (AR [e] X.env)).any (·.1)=false:=by rfl):
 PE X (.Call (.Name "sorted" p1) [e] [⟨some "key",le,p3⟩] pos) (MK (Oz X k x) t (Ji tl IJ)):=
 O_ (p:=p1) (pos:=pos) (Yq hr) hg hm N4 ha (OJ (nm:=some "key") (kpos:=p3) hl Oy) rfl (by decide) (by decide) he hpl rfl rfl
open PySem PySem.Spec PyProof.Rows PySem.W
def Nr(K:Ae)(T:Addr):Sp:=λvs H Q _=>∃(a:Addr)(ns:List Int),vs=[.ref a]∧SqL K H a (ns.map V.int)∧ns.length≤63∧H T=some (.tbl #[])∧∀H',Q (.bl true) H'
theorem WS{P:Br}{w:World}{K:Ae}{mg mb:Str→Option Value}{CX:JN}{k:Nat}{fa a T c:Addr}{fd:BG}{x:Str}{sp:Sp}{s₁:Shared}{vs:List Value}{ns:List Int}
 (KX:K.In s₁.heap) (hns:s₁.heap.Ns AI mg) (hb:s₁.heap.Ns DI mb) (hbb:∀x:Str,x≠"__name__"→mb x=Bf x) (hlim:s₁.heap.NoLimit) (hg:s₁.gens=#[])
 (hT:s₁.heap.get? T=some (tabObj #[])) (hC:CodeHd s₁.heap c T) (nT:K.lookup T=none)
 (hbm:∃bm o,mg "__builtins__"=some (.ref bm)∧bm≠DI∧s₁.heap.get? bm=some o∧o.cls= .type "module"∧o.dict=some DI∧o.data= .plain)
 (ha:s₁.heap.get? a=some {cls:= .type "list",data:= .seq vs.toArray}) (hi:IntsAre vs ns) (hl:ns.length≤Av) (hr:Room k callerA)
 (F:∀base:Heap,K.In base→base.Ns AI mg→base.BuiltinsAt mg T→FnOk P w K mg base CX k fa fd [x] sp) (hbind:∀(s:Shared)(u:Value),BindsTo s fd ⟨[u],[]⟩ [(x,u)])
 (hsp:∀H:Hp,SqL K H a (ns.map V.int)→H T=some (.tbl #[])→sp [.ref a] H (λv _=>v= .bl true) λ_ _ _=>False)
 (hCX:∀H e s',CX [] H s₁ (λ_ _ _=>False) e s'→False):
 codeAny (model P w) callerA (.call (.ref fa) ⟨[.ref a],[]⟩) (λr s'=>r= .ok (.ret (.bool true))∧OldK s₁.heap s'.heap∧s'.os=s₁.os∧AllBare s'.gens) s₁:=by
 have rv:=Pq hi;have lenV:=hi.length;have aT:a≠T:=λz=>by rw[z,hT] at ha;cases ha
 have core:∀H:Hp,(∀b,H b=none∨b=T∨∃o xs,H b=some (.frz o (.lst xs)))→H T=some (.tbl #[])→SqL K H a (ns.map V.int)→HOk P w H s₁.heap→(∀b,H b≠none→b=a∨b=T)→(H a≠none→K.lookup a=none)→
  codeAny (model P w) callerA (.call (.ref fa) ⟨[.ref a],[]⟩) (λr s'=>r= .ok (.ret (.bool true))∧OldK s₁.heap s'.heap∧s'.os=s₁.os∧AllBare s'.gens) s₁:=by
  intro H hO eT hS hok hA hK;have base_of:∀{b:Addr}{o:Obj},s₁.heap.get? b=some o→H b=none→(Iy s₁.heap H).get? b=some o:=λe n=>Sa e n;have noO:∀{b:Addr}{o:Obj},s₁.heap.get? b=some o→o≠{cls:= .type "list",data:= .seq vs.toArray}→o≠tabObj #[]→H b=none:=λ{b o}e d d'=>by
   cases q:H b with
   | none=>rfl
   | some u=>
    rcases hA b (by rw[q];simp) with e' | e'
    · subst e';rw[ha] at e;cases e;exact absurd rfl d
    · subst e';rw[hT] at e;cases e;exact absurd rfl d'
  have noA:∀{b:Addr}{o:Obj}{es:Array DictEntry}{ep:Nat},s₁.heap.get? b=some o→o.data= .dict es ep→H b=none:=λ{b o es ep}e d=> noO e (λz=>by rw[z] at d;cases d) (λz=>by rw[z] at d;cases d);have nsK:∀{b:Addr}{m:Str→Option Value},s₁.heap.Ns b m→(Iy s₁.heap H).Ns b m:=λ{b m} ⟨o,es,ep,e,d,r⟩=>⟨o,es,ep,base_of e (noA e d),d,r⟩;have hKb:K.In (Iy s₁.heap H):=λb o e=>base_of (KX b o e) (by
   cases q:H b with
   | none=>rfl
   | some u=>
    rcases hA b (by rw[q];simp) with e' | e'
    · subst e';rw[hK (by rw[q];simp)] at e;cases e
    · subst e';rw[nT] at e;cases e)
  have hM:Mod K mg (Iy s₁.heap H):=⟨hKb,nsK hns,⟨mb,nsK hb,hbb⟩,let⟨mc,h1,h2⟩:=hlim;⟨mc,nsK h1,h2⟩⟩;have hB:(Iy s₁.heap H).BuiltinsAt mg T:=by
   obtain⟨bm,o,b1,b2,b3,b4,b5,b6⟩:=hbm;refine⟨bm,o,b1,b2,λz=>?_,λz=>?_,base_of b3 (noO b3 (λz=>by rw[z] at b6;cases b6) (λz=>by rw[z] at b4;cases b4)),b4,b5,b6⟩
   · obtain⟨o',es,ep,e,d,_⟩:=hns;rw[z,e] at b3;cases b3;rw[d] at b6;cases b6
   · rw[z,hT] at b3;cases b3;cases b4
  have e0:Env0 P w K mg (Iy s₁.heap H) callerA [] s₁ H:=⟨rfl,hM,λb o e=>Rp e,Nat.le_of_eq (Sj _ _),trivial,λb hb=>absurd (show b∈([]:List Addr) from hb) (by simp),hok,.of_eq hg⟩;refine Cd ((F _ hKb (nsK hns) hB).run callerA [] s₁ H ⟨[.ref a],[]⟩ [.ref a] [.ref a] _ _ hr e0 (hbind s₁ (.ref a)) (.cons rfl .nil) (hsp H hS eT)) λr s' h=>?_;cases r with
  | error e=>exact(hCX H e s' h).elim
  | ok fl=>
   cases fl with
   | next=>exact C5 h
   | brk=>exact C5 h
   | cont=>exact C5 h
   | ret u=>
    obtain⟨v,H',os,bare,un,hok',r',q⟩:=h;have q':v= .bl true:=q;subst q';obtain rfl:u=Value.bool true:=r';obtain⟨more,gT⟩:=un.tbls T _ eT;have oT:s'.heap.get? T=some (tabObj (#[]++more)):=hok' T _ gT;have kept:∀b o,b≠T→s₁.heap.get? b=some o→s'.heap.get? b=some o:=λb o nb e=>by
     cases q:H b with
     | none=>exact un.keep b o e q (by intro z;exact absurd (show b∈([]:List Addr) from z) (by simp)) (by simp)
     | some u=>
      rcases hO b with z | z | ⟨ob,xs,z⟩
      · rw[q] at z;cases z
      · exact absurd z nb
      · have z2:=un.frzs b ob _ z;obtain⟨e1,_⟩:=hok b _ z;obtain⟨e2,_⟩:=hok' b _ z2;rw[e] at e1;cases e1;exact e2
    refine⟨rfl,⟨λb o e=>?_,λb o e=>?_⟩,os,bare⟩
    · by_cases nb:b=T
      · subst nb;rw[hT] at e;cases e;exact .inr (.inl ⟨(hC.tab hT).isCodeTable,rfl,#[],more,rfl,oT⟩)
      · exact .inl (kept b o nb e)
    · by_cases nb:b=T
      · subst nb;exact⟨_,oT⟩
      · exact⟨o,kept b o nb e⟩
 have okT:∀H:Hp,ObjOk P w H s₁.heap T (.tbl #[]):=λH=>hT;cases hk:K.lookup a with
 | some o=>
  have e:=KX a o hk;rw[ha] at e;cases e;refine core (λb=>if b=T then some (.tbl #[]) else none) (λb=>?_) (if_pos rfl) (.inr ⟨_,vs.toArray,_,hk,rfl,rfl,rfl,by rw[Au,lenV];exact hl,by simpa using rv⟩) (λb u z=>?_) (λb z=>?_) λz=>absurd (if_neg aT) z
  · by_cases hb:b=T
    · exact .inr (.inl hb)
    · exact .inl (if_neg hb)
  · by_cases hb:b=T
    · have z':=(if_pos hb).symm.trans z;cases z';subst hb;exact okT _
    · have z':=(if_neg hb).symm.trans z;cases z'
  · by_cases hb:b=T
    · exact .inr hb
    · exact absurd (if_neg hb) z
 | none=>
  refine core (λb=>if b=T then some (.tbl #[]) else if b=a then some (.frz {cls:= .type "list",data:= .seq vs.toArray} (.lst (ns.map V.int))) else none) (λb=>?_) (if_pos rfl) (.inl (.inr ⟨{cls:= .type "list",data:= .seq vs.toArray},(if_neg aT).trans (if_pos rfl)⟩)) (λb u z=>?_) (λb z=>?_) λ_=>hk
  · by_cases hb:b=T
    · exact .inr (.inl hb)
    · by_cases hb':b=a
      · exact .inr (.inr ⟨_,_,(if_neg hb).trans (if_pos hb')⟩)
      · exact .inl ((if_neg hb).trans (if_neg hb'))
  · by_cases hb:b=T
    · have z':=(if_pos hb).symm.trans z;cases z';subst hb;exact okT _
    · by_cases hb':b=a
      · have z':=((if_neg hb).trans (if_pos hb')).symm.trans z;cases z';subst hb';exact⟨ha,by rw[Ab];exact hl,vs,_,rv,ha⟩
      · have z':=((if_neg hb).trans (if_neg hb')).symm.trans z;cases z'
  · by_cases hb:b=T
    · exact .inr hb
    · by_cases hb':b=a
      · exact .inl hb'
      · exact absurd ((if_neg hb).trans (if_neg hb')) z
theorem walk_ofT{l:Ep}{n k:Nat}{q:Br}{loose:List Str}{XP:(Str→Option Value)→Heap→Prop}{YP:World→Heap→Prop}{d:DefRec}{K:Params→Ae}{CX:World→JN}{sp:World→Sp}{x:Str}{T:Addr}
 (hn:l.most=some n) (hn2:n≤Av) (hdf:d.params.defaults=[]) (hr:Room k callerA)
 (hY:∀(w:World)(h:Heap),YP w h→(K w.params).In h)
 (hT:∀(w:World)(h:Heap),YP w h→h.get? T=some (tabObj #[]))
 (nT:∀w:World,(K w.params).lookup T=none)
 (F:∀(w:World)(mg:Str→Option Value)(fa:Addr)(h:Heap),(K w.params).In h→h.Ns AI mg→mg d.name=some (.ref fa)→
  ∃(fd:BG)(c:Addr),CodeHd h c T∧(∀(s:Shared)(u:Value),BindsTo s fd ⟨[u],[]⟩ [(x,u)])∧
   ∀base:Heap,(K w.params).In base→base.Ns AI mg→base.BuiltinsAt mg T→FnOk l.prog w (K w.params) mg base (CX w) k fa fd [x] (sp w))
 (hsp:∀(w:World)(H:Hp)(a:Addr)(ns:List Int),ns.length≤n→SqL (K w.params) H a (ns.map V.int)→H T=some (.tbl #[])→sp w [.ref a] H (λv _=>v= .bl true) λ_ _ _=>False)
 (hCX:∀(w:World)(H:Hp)(s:Shared)(e:Value)(s':Shared),CX w [] H s (λ_ _ _=>False) e s'→False):
 PySem.W.WalkO q loose XP YP l.row.toRowW d [] (λf vs=>PySem.call f vs):=by
 refine Att.attach_call hn hdf λw s₀ s₁ mg mb fa o pm cd doc a vs ns G Y ho hd hcd hmg hobj hints hlen hg=>?_;have KX:=hY w _ Y;obtain⟨fd,c,hC,hb,hF⟩:=F w mg fa _ KX G.T.g hmg;exact WS KX G.T.g G.T.b G.T.builtins G.T.nolimit hg (hT w _ Y) hC (nT w) G.T.bmain hobj hints (AY hlen hn2) hr hF hb (λH hS hE=>hsp w H a ns hlen hS hE) λH e s'=>hCX w H s₁ e s'
theorem Fun.okC{P:Br}{w:World}{K:Ae}{mg:Str→Option Value}{base:Heap}{qual:Str}{st:Stmt}{f:Addr}{fd:BG}{N ps:List Str}{k:Nat}{sp:Sp}(F:Fun K x qual st f fd)(S:FnScope N ps (HI st))(len:∀vs H Q E,sp vs H Q E→vs.length=ps.length)
 {c:Addr} (hc:fd.code= .ref c) (hbody:∀(A:Bu)(outer:List Env)(s:Shared)(H:Hp)(vs:List V)(Q:VK)(E:XK),Room k (A.deeper (envOfC qual (HI st) s.heap.objs.size f (.ref c)))→sp vs H Q E→
  ∃t,PSs (Je HY P w K mg base N qual (HI st) f (.ref c) A outer s H E).nox (Kn st) t∧t {nx:=λ_ H'=>Q .non H',rt:=Q} (JY N vs) H):FnOk P w K mg base HY (k+1) f fd ps sp:=by
 obtain⟨oc,od,kV,doc,pm,an,cdv,ct,osl,rfl,lk,hcd⟩:=F.ex;obtain rfl:cdv= .ref c:=hc;refine QH lk hcd S len λA outer s H vs Q E hr hsp=>?_;obtain⟨t,h,q⟩:=hbody A outer s H vs Q E hr hsp;exact⟨t,h.nox,q⟩
structure Hole(own:List Str)(w gap:List WP)(os:List (List WP)):Prop where
 pt:∃P:List PP,P.map (·.1)=own∧HE w P=true∧∀o∈os,HE o P=false
 inn:∀P,HE w P=true→(∀o∈os,HE o P=false)→HE gap P=true
theorem V1{own:List Str}{w gap:List WP}{A C B:List (List WP)}(sh:J5 w (A++(C++[gap])++B))(bx:BoxE own gap):Hole own w gap (A++C++B):=by
 have cnt:∀P,(A++C++B).countP (λo=>HE o P)+(if HE gap P=true then 1 else 0)=if HE w P=true then 1 else 0:=λP=>by rw[←sh P,Cu,Cu,Cu,Cu,Cu,Dv];omega
 refine⟨⟨Jl gap,(MI gap).trans bx.fl,?_,λo ho=>?_⟩,λP t h=>?_⟩
 · have h:=cnt (Jl gap);rw[if_pos (Od bx.ok)] at h;by_cases c:HE w (Jl gap)=true
   · exact c
   · rw[if_neg c] at h;omega
 · have h:=cnt (Jl gap);rw[if_pos (Od bx.ok)] at h;cases t:HE o (Jl gap) with
   | false=>rfl
   | true=>
    have:=(Ey (p:=λo=>HE o (Jl gap))).mpr ⟨o,ho,t⟩
    split at h<;>omega
 · have z:=cnt P;rw[if_pos t,List.countP_eq_zero.mpr λo ho=>by rw[h o ho];simp] at z;by_cases c:HE gap P=true
   · exact c
   · rw[if_neg c] at z;omega
theorem Hole.sub{own:List Str}{w gap:List WP}{os os':List (List WP)}(h:Hole own w gap os)(h1:∀o∈os',o∈os∨∀P:List PP,P.map (·.1)=own→HE o P=false)(h2:∀o∈os,o∈os'):Hole own w gap os':=by obtain⟨P,e,t,no⟩:=h.pt;exact⟨⟨P,e,t,λo ho=>(h1 o ho).elim (no o) λz=>z P e⟩,λP t z=>h.inn P t λo ho=>z o (h2 o ho)⟩
theorem Ve{fs own:List Str}{gap plus:List WP}(hp:plus.Perm (gap++JC fs own))(hl:own.length<fs.length)(nd:fs.Nodup){P:List PP}(e:P.map (·.1)=own):HE plus P=false:=by
 obtain⟨f,hf,nf⟩:∃f∈fs,f ∉ own:=by
  by_cases c:∃f∈fs,f ∉ own
  · exact c
  · have:∀x∈fs,x∈own:=λx hx=>Classical.byContradiction λz=>c ⟨x,hx,z⟩;have:=N6 nd this;omega
 refine EX.mpr λt=>?_;have m:((f,none,none):WP)∈plus:=hp.mem_iff.mpr (Ag _ (AN.mpr ⟨f,Dp.mpr ⟨hf,by simp[nf]⟩,rfl⟩));obtain⟨k,hk,_⟩:=takesP_iff.mp (Cc.mp t _ m);have:=Sq hk;rw[e] at this;exact nf this
theorem Vf{fs own:List Str}{gap plus:List WP}(hp:plus.Perm (gap++JC fs own))(bx:BoxE own gap)(tf:ToldF fs)(hs:own.Sublist fs)(asc:(plus.map (·.1)).Pairwise Ik):WOk plus∧Js fs plus:=by
 have i1:Js fs plus:=λp h=>by
  rcases Aq.mp (hp.mem_iff.mp h) with z | z
  · exact hs.subset (by rw[←bx.fl];exact Ax z)
  · exact Vm fs own p z
 have ok:∀p∈plus,FieldOk p.1∧IV p.2.1 p.2.2=true:=λp h=>by
  rcases Aq.mp (hp.mem_iff.mp h) with z | z
  · exact bx.ok.ok p z
  · exact(Vn tf).ok p z
 have ln:plus.length≤fs.length:=by
  have:=N6 (Mc asc) (fs:=fs) λf hf=>by obtain⟨p,hp,rfl⟩:=AN.mp hf;exact i1 p hp
  rwa [Ab] at this
 have:=tf.len;exact⟨⟨by omega,ok,asc⟩,i1⟩
theorem XD{fs own:List Str}{gap:List WP}(bx:BoxE own gap)(nd:fs.Nodup):((gap++JC fs own).map (·.1)).Nodup:=by rw[Aj,EW];refine⟨Mc bx.ok.asc,by rw[P5];exact nd.filter _,λa ha b hb e=>?_⟩;rw[P5] at hb;rw[bx.fl] at ha;have:=(Dp.mp hb).2;rw[←e] at this;simp[ha] at this
theorem YJ{K:Ae}{sp:Sp}{t:Addr}{cs:List (Addr×WP)}{Q:VK}(hn:cs.length≤63)(ht:H t=some (.lst (cs.map λx=>V.ref x.1)))(hc:∀x∈cs,H x.1=some (.tup [.str x.2.1,eV x.2.2.1,eV x.2.2.2]))(nd:((cs.map (·.2)).map (·.1)).Nodup)
 (hsp:∀x∈cs,∀H1,Same H H1→∀Q1:VK,Q1 (.str x.2.1) H1→sp [.ref x.1] H1 Q1 E0)
 (q:∀(r:Addr)(rs:List (Addr×WP))(H':Hp),Same H H'→H r=none→rs.Perm cs→((rs.map (·.2)).map (·.1)).Pairwise Ik→H' r=some (.lst (rs.map λx:Addr×WP=>V.ref x.1))→Q (.ref r) H'):OK 63 K sp [.ref t] H Q:=by
 have lm:(cs.map λx=>V.ref x.1).length=cs.length:=Ab _
 let D:Addr×WP→Str:=λx=>x.2.1
 let d0:Addr×WP:=(0,⟨#[]⟩,none,none)
 have hlt:∀x y:Str,Ig (.str x) (.str y)=decide (x.cps.toList<y.cps.toList):=λx y=>by rw[Ig]
 have O:KS.Ord λi j=>Ig (.str (D (cs.getD i d0))) (.str (D (cs.getD j d0))):=by
  simp only[hlt];refine⟨λa b h=>?_,λa b c h1 h2=>?_⟩
  · have h:=of_decide_eq_true h;exact decide_eq_false λz=>DK _ (List.lt_trans h z)
  · have h1:=of_decide_eq_false h1;have h2:=of_decide_eq_false h2;exact decide_eq_false (List.not_lt.mpr (List.le_trans (List.not_lt.mp h1) (List.not_lt.mp h2)))
 refine⟨t,_,λi=> .str (D (cs.getD i d0)),rfl,SqL.of ht,by rw[lm];exact hn,?refs,?cons,?_,.inr (.inr (.inr λi _=>⟨_,rfl⟩)),λi=>by simp[IU],λi j _ _=>by rw[HL],O,?_⟩
 case refs=> intro v hv;obtain⟨x,_,rfl⟩:=AN.mp hv;exact⟨_,rfl⟩
 case cons=>
  intro i j hi hj e;rw[lm] at hi hj;rw[Ai,Ai] at e;have ei:cs[i]?=some cs[i]:=by simp
  have ej:cs[j]?=some cs[j]:=by simp
  rw[ei,ej] at e;have ea:cs[i].1=cs[j].1:=by have:=A5 e;injection this
  have w1:=hc _ (Am ei);have w2:=hc _ (Am ej);rw[ea,w2] at w1;have w3:[V.str cs[j].2.1,eV cs[j].2.2.1,eV cs[j].2.2.2]=[V.str cs[i].2.1,eV cs[i].2.2.1,eV cs[i].2.2.2]:=by have:=A5 w1;injection this
  have w4:V.str cs[j].2.1=V.str cs[i].2.1:=(EM w3).1;have w5:cs[j].2.1=cs[i].2.1:=by injection w4
  show PD.str (D (cs.getD i d0))=PD.str (D (cs.getD j d0));rw[AM,AM,ei,ej];show PD.str cs[i].2.1=PD.str cs[j].2.1;rw[w5]
 · intro i v hv H2 s2 Q1 hQ;rw[Ai] at hv;cases e1:cs[i]? with
   | none=>rw[e1] at hv;cases hv
   | some P1=>
    rw[e1] at hv;obtain rfl:V.ref P1.1=v:=A5 hv;have e2:cs.getD i d0=P1:=by rw[AM,e1];rfl
    refine hsp P1 (Am e1) H2 s2 Q1 (hQ _ _ (Same.refl _) ?_);show Rep K H2 (.str (D (cs.getD i d0))) _;rw[e2,Rep]
 · intro r p H' ok srt s2 nr e';rw[lm] at ok srt;have hsz:=ok.size;have em:(p.toList.map λi=>(cs.map λx=>V.ref x.1).getD i .non)=(p.toList.map λi=>cs.getD i d0).map λx=>V.ref x.1:=by
    rw[BN];refine Ex λi hi=>?_;have hi':i<cs.length:=Dc.mp (ok.perm.mem_iff.mp hi);rw[VP (λx:Addr×WP=>V.ref x.1) d0 V.non cs hi'];rfl
   rw[em] at e';have pm:=Wf d0 ok;refine q r _ H' s2 nr pm ?_ e';have nd':(((p.toList.map λi=>cs.getD i d0).map (·.2)).map (·.1)).Nodup:=((pm.map _).map _).nodup_iff.mpr nd;rw[BN,BN] at nd' ⊢;have nd'':=List.pairwise_map.mp nd';rw[List.pairwise_map];rw[List.pairwise_iff_getElem] at nd'' ⊢;intro i j hi hj hij;have n1:=nd'' i j hi hj hij;simp only[AC] at hi hj;have h1:=srt i j hij (by omega);simp only[hlt] at h1;have h1:=of_decide_eq_false h1;have gi:KS.K p i=p.toList[i]:=by unfold KS.K;simp[hi]
   have gj:KS.K p j=p.toList[j]:=by unfold KS.K;simp[hj]
   rw[gi,gj] at h1;refine O6 (x:=D (cs.getD p.toList[j] d0)) (y:=D (cs.getD p.toList[i] d0)) h1 λz=>n1 z.symm
def SameN(H H':Hp):Prop:=∀a o,H a=some o→(∀ps,o≠ .tbl ps)→H' a=some o
theorem VV{T f c':Addr}{ps:Array Value}{o1 o2:HO}(eT:H T=some (.tbl #[]))(nf:H f=none)(nc:H c'=none):SameN H (Hr (Hr (Hr H T (.tbl ps)) c' o1) f o2):=λa o e n=>by rw[HD (λz=>by rw[z,nf] at e;cases e),HD (λz=>by rw[z,nc] at e;cases e),HD (λz=>by rw[z,eT] at e;cases e;exact n _ rfl)];exact e
theorem SameN.then{H' H'':Hp}(h:SameN H H')(s:Same H' H''):SameN H H'':=λa o e n=>s _ _ (h a o e n)
theorem SameN.tups{H':Hp}(h:SameN H H'):Tups H H':=λa xs e=>h a _ e λ_ z=>by cases z
theorem SameN.lst{H':Hp}(h:SameN H H')(e:H a=some (.lst xs)):H' a=some (.lst xs):=h a _ e λ_ z=>by cases z
theorem Well.sameN{H':Hp}{g l:Addr}{n:Int}(B:Well H b g l n)(s:SameN H H'):Well H' b g l n:=by obtain⟨⟨gs,ls,sd,c,h1,h2,h3,r⟩,x,y,z⟩:=B;exact⟨⟨gs,ls,sd,c,s.lst h1,s.lst h2,s.lst h3,r⟩,x,y,z⟩
theorem WsAt.sameN{H':Hp}{l:Addr}{ws:List (Addr×List WP)}(h:WsAt H l ws)(s:SameN H H'):WsAt H' l ws:=⟨s.lst h.at',λx hx=>⟨(h.ok x hx).1.keep s.tups,(h.ok x hx).2⟩,h.len⟩
def Uu:Sp:=λvs H Q _=>∃(a:Addr)(x:V)(xs:List V),vs=[.ref a]∧H a=some (.tup (x::xs))∧Q x H
theorem Y8{X:Cx}{params:Arguments}{body:Expr}{scope:Scope}{qual:Str}{H:Hp}{lf c' t:Addr}{pm ctv:Value}{cs:List (Addr×WP)}{Q:VK}
 (hf:H lf=some (JG lf (W.kla_obj "<lambda>" qual params body scope [] pm c' ctv))) (hc:H c'=some (JH c' qual)) (S:FnScope ["part"] ["part"] scope)
 (hbd:∀(A:Bu)(outer:List Env)(s:Shared)(H:Hp)(E:XK),PE (Je HY X.prog X.w X.K X.mg X.base ["part"] qual scope lf (.ref c') A outer s H E) body (Jh (Ku X.K) (HW 0) (tC (.int 0))))
 (hbn:∀u:Value,bindArgs (W.kla_fn "<lambda>" qual params body scope [] pm (.ref c') ctv) ⟨[u],[]⟩=pure [((BE "part"),u)])
 (hn:cs.length≤63) (ht:H t=some (.lst (cs.map λx=>V.ref x.1))) (hcs:∀x∈cs,H x.1=some (.tup [.str x.2.1,eV x.2.2.1,eV x.2.2.2])) (nd:((cs.map (·.2)).map (·.1)).Nodup)
 (q:∀(r:Addr)(rs:List (Addr×WP))(H':Hp),Same H H'→H r=none→rs.Perm cs→((rs.map (·.2)).map (·.1)).Pairwise Ik→H' r=some (.lst (rs.map λx:Addr×WP=>V.ref x.1))→Q (.ref r) H'):Oz X 1 "part" [.ref t] [.ref lf] H Q:=by
 refine⟨lf,_,_,rfl,UI (sp:=Uu) (k:=0) (pm:=pm) (ctv:=ctv) (params:=params) (name:="<lambda>") S (λvs H Q E h=>?_) (λA outer s H vs Q E hr h=>⟨_,hbd A outer s H E,?_⟩),.all λus hl=>?_,YJ hn ht hcs nd (λx hx H1 s1 Q1 h=>⟨⟨s1 _ _ hf,s1 _ _ hc⟩,x.1,_,_,rfl,s1 _ _ (hcs x hx),h⟩) q⟩
 · obtain⟨a,x,xs,rfl,_⟩:=h;rfl
 · obtain⟨a,x,xs,rfl,ha,hq⟩:=h;exact⟨_,rfl,a,_,_,_,rfl,rfl,SqT.of ha,J6 (xs:=x::xs) (j:=0) rfl,hq⟩
 · match us,hl with
   | [u],_=>exact hbn u
end L2
set_option maxHeartbeats 4000000
namespace K13
open PySem PySem.Spec PyProof.Rows L2
theorem Io{α:Type}{l:List (Addr×α)}{x:V}(h:(l.map λy=>V.ref y.1)[i]?=some x):∃y,l[i]?=some y∧x=V.ref y.1:=by
 rw[Ai] at h;cases e:l[i]? with
 | none=>rw[e] at h;cases h
 | some y=>rw[e] at h;exact⟨y,rfl,(A5 h).symm⟩
def top(i:Nat):Stmt:=PySem.Challenge.pw_newsways_k13_whole_cut_up.main.body.getD i (.Pass ⟨0,0,0,0⟩)
abbrev Pi:Stmt:=top 5
abbrev OS:Stmt:=top 6
abbrev Pb:Stmt:=top 7
abbrev MC:Stmt:=top 8
abbrev Pz:Stmt:=top 9
abbrev NQ:Stmt:=top 12
abbrev PF:Stmt:=top 13
abbrev NX:Stmt:=top 14
abbrev NA:Stmt:=top 15
abbrev Ps:Stmt:=top 16
abbrev NZ:Stmt:=top 17
abbrev PJ:Stmt:=top 18
abbrev Oh:Stmt:=top 19
abbrev Of:Stmt:=top 20
abbrev PH:Stmt:=top 30
abbrev PB:Stmt:=top 29
abbrev NV:Stmt:=top 28
abbrev NW:Stmt:=top 27
abbrev NI:Stmt:=top 26
abbrev P6:Stmt:=top 25
abbrev P9:Stmt:=top 24
abbrev MH:Stmt:=top 32
abbrev Pk:Stmt:=top 33
abbrev NR:Stmt:=top 34
abbrev Pu:Stmt:=top 35
abbrev Pj:Stmt:=top 36
abbrev P8:Stmt:=top 42
abbrev P7:Stmt:=top 41
abbrev NU:Stmt:=top 43
abbrev NJ:Stmt:=top 44
abbrev N_:Stmt:=top 40
abbrev Pc:Stmt:=top 37
abbrev Pd:Stmt:=top 38
abbrev Pt:Stmt:=top 39
abbrev Py:Stmt:=top 45
abbrev Oe:Stmt:=top 46
abbrev K2:Stmt:=top 47
def OG(m:Nat):Sp:=λvs H Q _=>∃(v v':V)(d:DY),vs=[v,v']∧m≤9∧RepY H d v∧RepY H d v'∧IA d≤m∧∀H',Same H H'→Q (.bl true) H'
def QZ:Sp:=λvs H Q _=>∃(a:Addr)(p:List PP),vs=[.ref a]∧PieceAt H a p∧POk p∧∀H',Same H H'→Q (.bl true) H'
def spPoints:Sp:=λvs H Q _=>∃(a t:Addr)(fs:List Str)(lo sz wide:Int),vs=[.ref a,.ref t,.int wide]∧H a=some (.lst (fs.map V.str))∧fs.length≤3∧(∀f∈fs,FieldOk f)∧fs.Pairwise Ik∧H t=some (.tup [.int lo,.int sz])∧1≤sz∧sz≤10^10∧1≤wide∧wide≤9∧
 ∀(r:Addr)(qs:List (Addr×List PP))(H':Hp),Same H H'→H' r=some (.lst (qs.map λq=>V.ref q.1))→qs.length≤8000→(∀q∈qs,PieceAt H' q.1 q.2∧POk q.2)→Q (.ref r) H'
def P_:Sp:=λvs H Q _=>∃(a l c:Addr)(w:List WP)(os:List (Addr×List WP))(p:List PP),vs=[.ref a,.ref l,.ref c]∧WishAt H a w∧WsAt H l os∧PieceAt H c p∧POk p∧∀H',Same H H'→Q (.bl (HE w p && os.all λo=>!HE o.2 p)) H'
def KY(p:PP):DY:= .tup [.str p.1,.int p.2]
def KW(p:List PP):DY:= .tup (p.map KY)
theorem RK:∀ps:List (Addr×PP),(∀p∈ps,H p.1=some (.tup [.str p.2.1,.int p.2.2]))→(∀p∈ps,p.2.1.length≤8)→RepYs H ((ps.map (·.2)).map KY) (ps.map λp=>V.ref p.1)
 | [],_,_=>RepYs.nil
 | p::ps,h,hl=>by refine RepYs.cons ?_ (RK ps (λx hx=>h x (AE _ hx)) λx hx=>hl x (AE _ hx));refine Ny (h p Az) (RepYs.cons ?_ (RepYs.cons (by rw[RepY]) RepYs.nil)) (by simp);rw[RepY];exact⟨rfl,AY (hl p Az) (by decide)⟩
theorem Vk{p:List PP}(h:PieceAt H a p)(ok:POk p):RepY H (KW p) (.ref a):=by obtain⟨ps,rfl,e,f⟩:=h;refine Ny e (RK ps f λp hp=>?_) (by have:=ok.len;rw[Ab] at*;omega);exact(ok.ok p.2 (Ax hp)).eight
theorem Ws(p:List PP):IA (KW p)≤2:=by
 unfold KW;rw[IA];have:JF (p.map KY)≤1:=NN λd hd=>by obtain⟨p,_,rfl⟩:=AN.mp hd;unfold KY;simp only[IA,JF];omega
 omega
def TL:List (List WP)→DY
 | []=> .non
 | p::_=>KW (Jl p)
theorem Ml{v:V}{ps:List (List WP)}(h:ToldPc H v ps)(ok:∀p∈ps,WOk p):RepY H (TL ps) v:=by
 cases ps with
 | nil=> have:v= .non:=h;subst this;show RepY H .non .non;rw[RepY]
 | cons p ps=> obtain⟨t,rfl,h⟩:=h;exact Vk h (SX (ok p Az))
theorem LK(ps:List (List WP)):IA (TL ps)≤2:=by
 cases ps with
 | nil=>show IA .non≤2;rw[IA];omega;all_goals simp
 | cons p ps=>exact Ws _
section
variable{K:Ae}{mg:Str→Option Value}{base:Heap}
theorem Im{N P:List Str}{sc:Scope}(h1:sc.kind= .function:=by rfl)(h2:sc.isCoroutine=false:=by rfl)(h3:sc.isGenerator=false:=by rfl)(h4:N.Nodup:=by decide+kernel)(h5:N.take P.length=P:=by rfl)(h6:∀x∈P,sc.names.lookup x=some .local∨sc.names.lookup x=some .cell:=by decide+kernel)(h7:∀y∈sc.names,y.2≠ .free:=by decide+kernel):FnScope N P sc:=⟨h1,h2,h3,h4,h5,h6,h7⟩
theorem Y5:FnScope ["thing"] ["thing"] (HI Pi):=Im
theorem WH:FnScope ["thing"] ["thing"] (HI OS):=Im
theorem Gr:FnScope ["thing","low","high"] ["thing"] (HI Pb):=Im
theorem Gs:FnScope ["one","other","low","high"] ["one","other"] (HI MC):=Im
theorem Gu:FnScope ["span","low","high"] ["span"] (HI Pz):=Im
theorem Y4:FnScope ["thing"] ["thing"] (HI NQ):=Im
theorem Gv:FnScope ["thing","field","low","high"] ["thing"] (HI PF):=Im
theorem Z0:FnScope ["parts"] ["parts"] (HI NX):=Im
theorem Xr:FnScope ["thing"] ["thing"] (HI NA):=Im
theorem YW:FnScope ["thing"] ["thing"] (HI Ps):=Im
theorem YV:FnScope ["thing"] ["thing"] (HI NZ):=Im
theorem Zp:FnScope ["thing"] ["thing"] (HI PJ):=Im
theorem Zw:FnScope ["wish"] ["wish"] (HI Oh):=Im
theorem Gw:FnScope ["one","other","met","field","low","high","shared"] ["one","other"] (HI Of):=Im
theorem Gx:FnScope ["span","inner","low","high","inner_low","inner_high","below","above"] ["span","inner"] (HI PH):=Im
theorem Gy:FnScope ["wish","other","met","parts","at","field","low","high","part_low","part_high"] ["wish","other"] (HI PB):=Im
theorem Gz:FnScope ["wish","others","parts","other"] ["wish","others"] (HI NV):=Im
theorem G0:FnScope ["wish","others","parts"] ["wish","others"] (HI NW):=Im
theorem Y_:FnScope ["wishes"] ["wishes"] (HI NI):=Im
theorem YZ:FnScope ["wishes","fields"] ["wishes","fields"] (HI P6):=Im
theorem Zy:FnScope ["wish","wishes"] ["wish","wishes"] (HI P9):=Im
theorem G1:FnScope ["script","great","small","seed","number"] ["script"] (HI MH):=Im
theorem G2:FnScope ["well","many","number","cell"] ["well","many"] (HI Pk):=Im
theorem G3:FnScope ["well","most","letters"] ["well","most"] (HI NR):=Im
theorem G4:FnScope ["well","many","letters","found","k","pick","first","letter","at","word"] ["well","many"] (HI Pu):=Im
theorem G5:FnScope ["well","pick","sign","number"] ["well"] (HI Pj):=Im
theorem Za:FnScope ["thing"] ["thing"] (HI P8):=Im
theorem G6:FnScope ["wish","piece","there","field","low","high"] ["wish","piece"] (HI P7):=Im
theorem G7:FnScope ["thing","last","pair"] ["thing"] (HI NU):=Im
theorem Tw:FnScope ["found","due"] ["found","due"] (HI NJ):=Im
theorem G8:FnScope ["well","row","left"] ["well","row"] (HI N_):=Im
theorem GA:FnScope ["well","names","ends","parts","field","pick","low","wide","k","high"] ["well","names","ends"] (HI Pc):=Im
theorem GB:FnScope ["well","wish","at","field","low","high","number","far","one"] ["well","wish"] (HI Pd):=Im
theorem GC:FnScope ["well","wish","many","found","k","at"] ["well","wish","many"] (HI Pt):=Im
theorem GD:FnScope ["well","wish","at","pick","field","low","high"] ["well","wish"] (HI Py):=Im
theorem GE:FnScope ["well","wish","at","field","low","high","number","pairs","made"] ["well","wish"] (HI Oe):=Im
theorem GF:FnScope ["script","well","pick","cuts","names","own","at","wish","parts","gap","wider","rest","more","wishes","handed","found"] ["script"] (HI K2):=Im
section
variable(P:Br)(w:World)(K:Ae)(mg:Str→Option Value)(base:Heap)
abbrev Γ0:=Ip P w K mg base 1 "is_whole" ["thing"] (N3 K)
abbrev Γ1:=Ip P w K mg base 2 "is_end" ["thing"] (Q6 K)
abbrev Γ5:=Ip P w K mg base 1 "is_field" ["thing"] (Rx)
abbrev Γ2:=Ip P w K mg base 3 "is_span" ["thing"] (RP K)
abbrev Γ7:=Ip P w K mg base 1 "fields_ascend" ["parts"] (RM)
abbrev Γ6:=Ip P w K mg base 4 "is_wish_part" ["thing"] (Te)
abbrev Γ8:=Ip P w K mg base 5 "is_wish" ["thing"] (RQ)
abbrev Γ10:=Ip P w K mg base 6 "are_wishes" ["thing"] (Rw)
abbrev Γ12:=Ip P w K mg base 1 "spans_by_field" ["wish"] (Td)
abbrev Γ3:=Ip P w K mg base 1 "span_shared" ["one","other"] (RS)
abbrev Γ13:=Ip P w K mg base 2 "wish_shared" ["one","other"] (Q_)
abbrev Γ14:=Ip P w K mg base 1 "spans_beside" ["span","inner"] (Tp)
abbrev Γ15:=Ip P w K mg base 3 "parts_beside_one" ["wish","other"] (Tc)
abbrev Γ16:=Ip P w K mg base 4 "parts_beside" ["wish","others"] (RB)
abbrev Γ4:=Ip P w K mg base 1 "number_of" ["span"] (Ry)
abbrev Γ9:=Ip P w K mg base 6 "check_wish" ["thing"] (SB)
abbrev Γ11:=Ip P w K mg base 7 "check_wishes" ["thing"] (RN)
abbrev Γ19:=Ip P w K mg base 1 "check_few" ["wishes","fields"] (Q7)
abbrev Γ17:=Ip P w K mg base 5 "piece_beside" ["wish","others"] (To)
abbrev Γ18:=Ip P w K mg base 1 "fields_of" ["wishes"] (Ta)
abbrev Γ22:=Ip P w K mg base 1 "_law_take" ["well","many"] (Rb)
abbrev Γ23:=Ip P w K mg base 2 "_law_name" ["well","most"] (Ra)
abbrev Γ26:=Ip P w K mg base 1 "_law_whole" ["thing"] (N3 K)
abbrev Γ25:=Ip P w K mg base 2 "_law_base" ["well"] (QW)
abbrev Γ32:=Ip P w K mg base 3 "_law_cut" ["well","wish"] (QY)
abbrev Γ21:=Ip P w K mg base 1 "_law_well" ["script"] (Rc K)
abbrev Γ24:=Ip P w K mg base 3 "_law_fields" ["well","many"] (SC)
abbrev Γ31:=Ip P w K mg base 3 "_law_box" ["well","names","ends"] (QX)
abbrev Γ33:=Ip P w K mg base 4 "_law_cut_up" ["well","wish","many"] (RO)
abbrev Γ30:=Ip P w K mg base 2 "_law_turned" ["well","row"] (RT)
abbrev Γ20:=Ip P w K mg base 8 "uncovered_piece" ["wish","wishes"] (SU)
abbrev Γ29:=Ip P w K mg base 11 "_law_alike" ["found","due"] (O3 9 OG)
abbrev Γ35:=Ip P w K mg base 3 "_law_shorter" ["well","wish"] (SD)
abbrev Γ28:=Ip P w K mg base 2 "_law_is_piece" ["thing"] (QZ)
abbrev Γ27:=Ip P w K mg base 1 "_law_wants" ["wish","piece"] (RC)
abbrev Γ34:=Ip P w K mg base 2 "_law_widened" ["well","wish"] (SE)
end
theorem Nm:0≤Av:=by decide
theorem Kf:1≤Av:=by decide
theorem Q0:4≤Av:=by decide
theorem zq5:5≤Av:=by decide
theorem zq6:6≤Av:=by decide
theorem zq8:8≤Av:=by decide
theorem Nd:BW (["end"]:List Str):=by decide+kernel
theorem Nc:BW (["sign"]:List Str):=by decide+kernel
theorem MV:BW (["ahead","behind"]:List Str):=by decide+kernel
theorem Qk:BW (["part"]:List Str):=by decide+kernel
theorem Qj:BW (["wish"]:List Str):=by decide+kernel
theorem JU:BW (["field","low","high"]:List Str):=by decide+kernel
theorem Qi:BW (["field","met"]:List Str):=by decide+kernel
theorem MU:BW (["part","smaller","other"]:List Str):=by decide+kernel
theorem KO:BW (["wish","field","low","high"]:List Str):=by decide+kernel
theorem MT:BW (["cell"]:List Str):=by decide+kernel
theorem Nb:BW (["k","well","letters"]:List Str):=by decide+kernel
theorem Na:BW (["k","found","due"]:List Str):=by decide+kernel
theorem M_:BW (["k","well","left"]:List Str):=by decide+kernel
theorem MZ:BW (["span","wish","at","field"]:List Str):=by decide+kernel
theorem MY:BW (["one","well","wider"]:List Str):=by decide+kernel
theorem MX:BW (["field","own"]:List Str):=by decide+kernel
theorem MW:BW (["one","found"]:List Str):=by decide+kernel
theorem Iv:2≤Av:=by decide
theorem KB:3≤Av:=by decide
variable{f:Addr}{fd:BG}(B:Bl mg){tML':Tok}(qML':mg "MOST_LETTERS"=some (.int 8 tML')){tMW':Tok}(qMW':mg "MOST_WISHES"=some (.int 7 tMW')){tMF':Tok}(qMF':mg "MOST_FIELDS"=some (.int 3 tMF'))
include B qML' qMW' qMF'
theorem Yl(F:Fun K "is_whole" "is_whole" Pi f fd)  :FnOk P w K mg base HY 1 f fd ["thing"] (N3 K):=by
 refine F.ok Y5 (λvs H Q E h=>?_) (λcdv A outer s H vs Q E hr h=>?_)
 · obtain⟨v,t,rfl,hty,q⟩:=h;rfl
 obtain⟨v,t,rfl,hty,q⟩:=h;refine⟨_,(HB (HN (Lj (HP (Jf (n:="")) rfl B.isinstance_ IX (Hq (pv 0) (Hq (IM (v:= .ty "int") rfl B.int_ Np rfl) Hs))) (K4 (QS (HP (Jf (n:="")) rfl B.isinstance_ IX (Hq (pv 0) (Hq (IM (v:= .ty "bool") rfl B.bool_ N2 rfl) Hs)))))))),?_⟩;cases hty
 all_goals first
  | exact⟨_,rfl,_,"int","int",true,rfl,.int _,rfl,_,rfl,Hw ⟨_,rfl,_,"int","bool",false,rfl,.int _,rfl,_,rfl,q⟩⟩
  | exact⟨_,rfl,_,"bool","int",true,rfl,.bl _,rfl,_,rfl,Hw ⟨_,rfl,_,"bool","bool",true,rfl,.bl _,rfl,_,rfl,q⟩⟩
  | exact⟨_,rfl,_,_,"int",false,rfl,(by first | exact .non | exact .str _ | exact .flt _ | (exact .lst (by assumption)) | (exact .frz (by assumption)) | (exact .tup (by assumption)) | (exact .dK (by assumption)) | (exact .dT (by assumption))),rfl,_,rfl,Ht q⟩
theorem Wz(F:Fun K "is_end" "is_end" OS f fd)(GG:Γ0 P w K mg base):FnOk P w K mg base HY 2 f fd ["thing"] (Q6 K):=by
 refine F.ok WH (λvs H Q E h=>?_) (λcdv A outer s H vs Q E hr h=>?_)
 · obtain⟨v,t,rfl,hty,q⟩:=h;rfl
 obtain⟨v,t,rfl,hty,q⟩:=h;refine⟨_,(HB (HN (Oq (LW (JD (pv 0))) (K4 (HG GG (hr.mono (by decide)) rfl (Hq (pv 0) Hs)))))),?_⟩;refine⟨_,rfl,_,rfl,?_⟩;cases hty
 case non=>exact Hw q
 all_goals refine Ht ?_
 case int i=>exact⟨_,rfl,_,_,rfl,.int _,q⟩
 all_goals exact⟨_,rfl,_,_,rfl,(by first | exact .bl _ | exact .str _ | exact .flt _ | (exact .lst (by assumption)) | (exact .frz (by assumption)) | (exact .tup (by assumption)) | (exact .dK (by assumption)) | (exact .dT (by assumption))),q⟩
theorem XS(F:Fun K "is_span" "is_span" Pb f fd)(GH:Γ1 P w K mg base):FnOk P w K mg base HY 3 f fd ["thing"] (RP K):=by
 refine F.ok Gr (λvs H Q E h=>?_) (λcdv A outer s H vs Q E hr h=>?_)
 · obtain⟨v,t,rfl,hty,hp,q⟩:=h;rfl
 obtain⟨v,t,rfl,hty,hp,q⟩:=h;refine⟨_,(Hy (HZ (PW.pt (JB (Jj (Ja (HP (Jf (n:="")) rfl B.isinstance_ IX (Hq (pv 0) (Hq (IM (v:= .ty "tuple") rfl B.tuple_ Km rfl) Hs))))) (JZ (Il Lc (HP IF rfl B.len_ I0 (Hq (pv 0) Hs)) Hv (Ie _))))) (HB (HN Jp)) Ii)
  (Hy (JQ (pv 0) (Jz rfl (H_ (HJ (i:=1) Gr.nd rfl (Or.inl rfl)) (H_ (HJ (i:=2) Gr.nd rfl (Or.inl rfl)) Jk))))
  (Hy (HZ (PW.pt (JB (Jj (Ja (HG GH (hr.mono (by decide)) rfl (Hq (pv 1) Hs)))) (JZ (Jj (Ja (HG GH (hr.mono (by decide)) rfl (Hq (pv 2) Hs))))))) (HB (HN Jp)) Ii)
  (HB (HN (Oq (LW (JD (pv 1))) (Oq (LW (JD (pv 2))) (K4 (L8 Op (pv 1) (pv 2) (Ie _)))))))))),?_⟩
 have q0:Ka H v=false→Q (.bl false) H:=λh=>by rw[←h];exact q
 cases hty
 case tup a xs e=>
  refine⟨_,rfl,_,"tuple","tuple",true,rfl,.tup e,rfl,_,rfl,Ht ⟨_,rfl,a,_,rfl,.inr (SqT.of e),rfl,_,rfl,?_⟩⟩;by_cases hl:xs.length=2
  · match xs,hl with
    | [x,y],_=>
     refine Ht ⟨_,rfl,a,_,rfl,SqT.of e,rfl,_,_,rfl,_,_,rfl,rfl,?_⟩;obtain⟨t1,t2,h1,h2⟩:=hp a x y rfl e;have es:Ka H (.ref a)=(Ju x && Ju y && Qn x y):=by unfold Ka;simp only[e]
     rw[es] at q;refine⟨_,rfl,_,_,rfl,h1,_,rfl,?_⟩;cases ex:Ju x with
     | false=> rw[ex] at q;exact Hw q
     | true=>
      rw[ex] at q;refine Ht ⟨_,rfl,_,_,rfl,h2,_,rfl,?_⟩;cases ey:Ju y with
      | false=> rw[ey] at q;exact Hw q
      | true=>
       rw[ey] at q;refine Ht ⟨_,rfl,_,rfl,?_⟩;cases x with
       | non=>exact Hw q
       | int i=>
        refine Ht ⟨_,rfl,_,rfl,?_⟩;cases y with
        | non=>exact Hw q
        | int j=>exact Ht ⟨_,rfl,_,rfl,_,_,rfl,rfl,q⟩
        | _=>exact absurd ey AA
       | _=>exact absurd ex AA
  · have es:Ka H (.ref a)=false:=by
     unfold Ka;simp only[e]
     match xs,hl with
     | [],_=>rfl
     | [_],_=>rfl
     | [_,_],h=>exact absurd rfl h
     | _::_::_::_,_=>rfl
    have ed:(!decide (V.int ((xs.length:Nat):Int)=V.int 2))=true:=by
     have:¬V.int ((xs.length:Nat):Int)=V.int 2:=λz=>by injection z with z;omega
     rw[decide_eq_false this];rfl
    rw[es] at q;show if(!decide (V.int ((xs.length:Nat):Int)=V.int 2))=true then _ else _
    rw[ed];exact Hw q
 case non=>exact⟨_,rfl,_,_,"tuple",false,rfl,.non,rfl,_,rfl,Hw (q0 rfl)⟩
 case bl b=>exact⟨_,rfl,_,_,"tuple",false,rfl,(.bl b),rfl,_,rfl,Hw (q0 rfl)⟩
 case int i=>exact⟨_,rfl,_,_,"tuple",false,rfl,(.int i),rfl,_,rfl,Hw (q0 rfl)⟩
 case str x=>exact⟨_,rfl,_,_,"tuple",false,rfl,(.str x),rfl,_,rfl,Hw (q0 rfl)⟩
 case flt x=>exact⟨_,rfl,_,_,"tuple",false,rfl,(.flt x),rfl,_,rfl,Hw (q0 rfl)⟩
 case lst a xs e=>exact⟨_,rfl,_,_,"tuple",false,rfl,(.lst e),rfl,_,rfl,Hw (q0 (by unfold Ka;simp only[e]))⟩
 case frz a o xs e=>exact⟨_,rfl,_,_,"tuple",false,rfl,(.frz e),rfl,_,rfl,Hw (q0 (by unfold Ka;simp only[e]))⟩
 case dK a kvs e=>exact⟨_,rfl,_,_,"tuple",false,rfl,(.dK e),rfl,_,rfl,Hw (q0 (by unfold Ka;simp only[e]))⟩
 case dT a kvs e=>exact⟨_,rfl,_,_,"tuple",false,rfl,(.dT e),rfl,_,rfl,Hw (q0 (by unfold Ka;simp only[e]))⟩
theorem Zt(F:Fun K "span_shared" "span_shared" MC f fd)  :FnOk P w K mg base HY 1 f fd ["one","other"] (RS):=by
 refine F.ok Gs (λvs H Q E h=>?_) (λcdv A outer s H vs Q E hr h=>?_)
 · obtain⟨v,w,lo,hi,lo2,hi2,rfl,S1,S2,q⟩:=h;rfl
 obtain⟨v,w,lo,hi,lo2,hi2,rfl,S1,S2,q⟩:=h;refine⟨_,(Hy (HK (i:=2) Gs.nd rfl (Or.inl rfl) (O_ (VG rfl) rfl B.max_ UX (Hq (JO (N':=["end"]) (js:=[none]) rfl (I_ (N:=["one","other","low","high"]) (outer:=HI MC) (by decide+kernel)) (K5 (Ij (Hq (HV Jg (pv 0) Hv (λ_ _=>rfl)) (Hq (HV Jg (pv 1) Hv (λ_ _=>rfl)) Hs)))) (λ_ _ _ _ _=>(HJ (i:=0) Nd rfl (Or.inl rfl))) (λ_ _ _ _ _=>L6 (IY (Kb (pv 0)))) (λ_ _ _ _ _=>(pv 0))) Hs) (OJ Jy Oy)))
  (Hy (HK (i:=3) Gs.nd rfl (Or.inl rfl) (O_ (VI rfl) rfl B.min_ QJ (Hq (JO (N':=["end"]) (js:=[none]) rfl (I_ (N:=["one","other","low","high"]) (outer:=HI MC) (by decide+kernel)) (K5 (Ij (Hq (HV Jg (pv 0) Hv (λ_ _=>rfl)) (Hq (HV Jg (pv 1) Hv (λ_ _=>rfl)) Hs)))) (λ_ _ _ _ _=>(HJ (i:=0) Nd rfl (Or.inl rfl))) (λ_ _ _ _ _=>L6 (IY (Kb (pv 0)))) (λ_ _ _ _ _=>(pv 0))) Hs) (OJ Jy Oy)))
  (Hy (HZ (PW.pt (Kj (IY (Kb (pv 2))) (Kj (IY (Kb (pv 3))) (K8 (Il Lb (pv 2) (pv 3) (Ie _)))))) (HB (HN Jy)) Ii)
  (HB (HN (Ij (Hq (pv 2) (Hq (pv 3) Hs)))))))),?_⟩
 obtain⟨a,rfl,e1⟩:=S1;obtain⟨c,rfl,e2⟩:=S2;refine⟨_,rfl,a,_,0,_,rfl,rfl,SqT.of e1,rfl,_,rfl,c,_,0,_,rfl,rfl,SqT.of e2,rfl,Iv,λt ht=>⟨t,rfl,⟨_,SqT.of Hu⟩,λp hp=>?_⟩⟩;refine R3 (os:=[lo,lo2]) (cap:=[]) EL (by simp) (SqT.of Hu) hp ?_ ?_ ?_ ?_ ?_
 · rfl
 · exact λs=>s.seqT (SqT.of Hu)
 · exact λo H' R s r=>⟨_,rfl,_,rfl,by rw[Si];exact r⟩
 · exact λo H' R s r=>⟨_,rfl,r⟩
 intro H1 s1 h1;obtain⟨ns,n1,n2⟩:=Wv lo lo2;rw[n1] at h1;refine⟨p,ns,.non,rfl,rfl,SqL.of h1,?_⟩;rw[n2];have s2:Same H H1:=(Hz ht _).trans s1;clear n1 n2 h1 hp s1 ht;refine⟨_,rfl,a,_,1,_,rfl,rfl,SqT.of (s2 _ _ e1),rfl,_,rfl,c,_,1,_,rfl,rfl,SqT.of (s2 _ _ e2),rfl,Iv,λt ht=>⟨t,rfl,⟨_,SqT.of Hu⟩,λp hp=>?_⟩⟩;refine R3 (os:=[hi,hi2]) (cap:=[]) EL (by simp) (SqT.of Hu) hp ?_ ?_ ?_ ?_ ?_
 · rfl
 · exact λs=>s.seqT (SqT.of Hu)
 · exact λo H' R s r=>⟨_,rfl,_,rfl,by rw[Si];exact r⟩
 · exact λo H' R s r=>⟨_,rfl,r⟩
 intro H3 s3 h1;obtain⟨ns,n1,n2⟩:=Ww hi hi2;rw[n1] at h1;refine⟨p,ns,.non,rfl,rfl,SqL.of h1,?_⟩;rw[n2];have s4:Same H H3:=s2.trans ((Hz ht _).trans s3);clear n1 n2 h1 hp s3 ht;have fin:Ir (Jq lo lo2) (Jr hi hi2)=false→∀r,H3 r=none→Q (.ref r) (Hr H3 r (.tup [eV (Jq lo lo2),eV (Jr hi hi2)])):=λh r hr=>by refine q _ _ (s4.trans (Hz hr _)) ?_;unfold Nn;rw[h];exact Ht ⟨r,rfl,Hu⟩
 refine⟨_,rfl,_,rfl,?_⟩;cases e5:Jq lo lo2 with
 | none=> rw[e5] at fin;exact Ht ⟨_,rfl,_,rfl,Iv,fin rfl⟩
 | some x=>
  refine Hw ⟨_,rfl,_,rfl,?_⟩;cases e6:Jr hi hi2 with
  | none=> rw[e5,e6] at fin;exact Ht ⟨_,rfl,_,rfl,Iv,fin rfl⟩
  | some y=> refine Hw ⟨_,rfl,_,rfl,_,_,rfl,rfl,_,rfl,?_⟩;rw[e5,e6] at fin;refine HS (λh=>q _ _ s4 ?_) (λh=>⟨_,rfl,_,rfl,Iv,fin (EX.mpr h)⟩);unfold Nn;rw[e5,e6];exact(if_pos h).symm ▸ rfl
theorem Y2(F:Fun K "number_of" "number_of" Pz f fd)  :FnOk P w K mg base HY 1 f fd ["span"] (Ry):=by
 refine F.ok Gu (λvs H Q E h=>?_) (λcdv A outer s H vs Q E hr h=>?_)
 · obtain⟨v,lo,hi,rfl,S1,q⟩:=h;rfl
 obtain⟨v,lo,hi,rfl,S1,q⟩:=h;refine⟨_,(Hy (JQ (pv 0) (Jz rfl (H_ (HJ (i:=1) Gu.nd rfl (Or.inl rfl)) (H_ (HJ (i:=2) Gu.nd rfl (Or.inl rfl)) Jk))))
  (Hy (HZ (IY (Kb (pv 1))) (HB (HN (pv 1))) Ii)
  (Hy (HZ (IY (Kb (pv 2))) (HB (HN (pv 2))) Ii)
  (HB (HN Hv))))),?_⟩
 obtain⟨a,rfl,e1⟩:=S1;refine⟨_,rfl,a,_,rfl,SqT.of e1,rfl,_,_,rfl,_,_,rfl,rfl,?_⟩;cases lo with
 | some l=>exact⟨_,rfl,_,rfl,Hw ⟨_,rfl,q⟩⟩
 | none=>
  cases hi with
  | none=>exact⟨_,rfl,_,rfl,Ht ⟨_,rfl,_,rfl,Ht q⟩⟩
  | some h=>exact⟨_,rfl,_,rfl,Ht ⟨_,rfl,_,rfl,Hw ⟨_,rfl,q⟩⟩⟩
theorem Yk(F:Fun K "is_field" "is_field" NQ f fd)  :FnOk P w K mg base HY 1 f fd ["thing"] (Rx):=by
 refine F.ok Y4 (λvs H Q E h=>?_) (λcdv A outer s H vs Q E hr h=>?_)
 · obtain⟨x,rfl,F1,q⟩:=h;rfl
 obtain⟨x,rfl,F1,q⟩:=h;refine⟨_,(Hy (HZ (PW.pt (JB (Jj (Ja (HP (Jf (n:="")) rfl B.isinstance_ IX (Hq (pv 0) (Hq (IM (v:= .ty "str") rfl B.str_ Nq rfl) Hs))))) (JZ (Jj (Wj Op Op Hv (HP P3 rfl B.len_ I0 (Hq (pv 0) Hs)) (OI (v:= .int 8) rfl qML' ⟨_,rfl⟩)))))) (HB (HN Jp)) Ii)
  (HB (HN (HP (M3 rfl) rfl B.all_ Mz (Hq (JO (N':=["sign"]) (js:=[none]) rfl (I_ (N:=["thing"]) (outer:=HI NQ) (by decide+kernel)) (QT (pv 0)) (λ_ _ _ _ _=>(HJ (i:=0) Nc rfl (Or.inl rfl))) (λ_ _ _ _ _=>J7) (λ_ _ _ _ _=>(Wc OZ OZ L4 (pv 0) L4))) Hs))))),?_⟩
 have l1:(1:Int)≤(x.length:Int):=by have:=F1.one;omega
 have l8:(x.length:Int)≤8:=by have:=F1.eight;omega
 refine⟨_,rfl,_,"str","str",true,rfl,.str x,rfl,_,rfl,Ht ⟨_,rfl,x,rfl,Jt (by have:=F1.eight;omega),_,_,rfl,rfl,_,rfl,?_⟩⟩;rw[decide_eq_true l1];refine Hw ⟨_,_,rfl,rfl,_,rfl,?_⟩;rw[decide_eq_true l8];refine Ht ⟨_,rfl,x,rfl,λp hp=>?_⟩;have s0:=Hz hp (.lst []);have sl:(L2.signs x).length=x.length:=by unfold L2.signs;rw[Ab,AC];rfl
 refine QO (xs:=L2.signs x) (λi σ' ys H'=>(∃v,σ'=[v])∧Same H H'∧H' p=some (.lst ys)∧ys=Bt i (V.bl true)) ⟨⟨none,rfl⟩,s0,Hu,rfl⟩ ?_ ?_ ?_
 · rintro i σ' ys H' hi ⟨_,_,h1,h2⟩;refine⟨h1,?_⟩;rw[h2,Ck];have:=F1.eight;exact II (by omega)
 · rintro i y σ' ys H' N hy ⟨⟨v,rfl⟩,s,h1,h2⟩ hN;unfold L2.signs at hy;rw[Ai] at hy;cases hc:x.cps.toList[i]? with
   | none=>rw[hc] at hy;cases hy
   | some c=>
    rw[hc] at hy;obtain rfl:V.str ⟨#[c]⟩=y:=A5 hy;have ok:=F1.all c (Am hc);refine⟨_,rfl,_,_,rfl,rfl,_,rfl,?_⟩;rw[Qr ok];refine Hw ⟨_,_,rfl,rfl,?_⟩;rw[Qm ok];refine⟨h1,hN _ _ _ ⟨⟨_,rfl⟩,?_,Hu,by rw[h2];exact CF.symm⟩⟩;intro b o q';have:b≠p:=λz=>by rw[z,hp] at q';cases q'
    rw[HD this];exact s b o q'
 · rintro σ' ys H' ⟨_,s,h1,h2⟩;refine⟨p,Bt (L2.signs x).length true,rfl,SqL.of (by rw[h1,h2,DH]),?_⟩;have:(Bt (L2.signs x).length true).all id=true:=by simp
   rw[this];exact q H' s
theorem Zk(F:Fun K "is_wish_part" "is_wish_part" PF f fd)(GI:Γ5 P w K mg base)(GJ:Γ2 P w K mg base):FnOk P w K mg base HY 4 f fd ["thing"] (Te):=by
 refine F.ok Gv (λvs H Q E h=>?_) (λcdv A outer s H vs Q E hr h=>?_)
 · obtain⟨p,f,lo,hi,rfl,hp,F1,hle,q⟩:=h;rfl
 obtain⟨p,f,lo,hi,rfl,hp,F1,hle,q⟩:=h;refine⟨_,(Hy (HZ (PW.pt (JB (Jj (Ja (HP (Jf (n:="")) rfl B.isinstance_ IX (Hq (pv 0) (Hq (IM (v:= .ty "tuple") rfl B.tuple_ Km rfl) Hs))))) (JZ (Il Lc (HP IF rfl B.len_ I0 (Hq (pv 0) Hs)) Hv (Ie _))))) (HB (HN Jp)) Ii)
  (Hy (JQ (pv 0) (Jz rfl (H_ (HJ (i:=1) Gv.nd rfl (Or.inl rfl)) (H_ (HJ (i:=2) Gv.nd rfl (Or.inl rfl)) (H_ (HJ (i:=3) Gv.nd rfl (Or.inl rfl)) Jk)))))
  (HB (HN (Lj (HG GI (hr.mono (by decide)) rfl (Hq (pv 1) Hs)) (K4 (HG GJ (hr.mono (by decide)) rfl (Hq (Ij (Hq (pv 2) (Hq (pv 3) Hs))) Hs)))))))),?_⟩
 refine⟨_,rfl,_,"tuple","tuple",true,rfl,.tup hp,rfl,_,rfl,Ht ⟨_,rfl,p,_,rfl,.inr (SqT.of hp),rfl,_,rfl,?_⟩⟩;refine Ht ⟨_,rfl,p,_,rfl,SqT.of hp,rfl,_,_,rfl,_,_,rfl,_,_,rfl,rfl,?_⟩;refine⟨_,rfl,f,rfl,F1,λH1 s1=>⟨_,rfl,Hw ⟨_,rfl,_,rfl,Iv,λt ht=>?_⟩⟩⟩;have S:SpanAt (Hr H1 t (.tup [eV lo,eV hi])) (.ref t) lo hi:=⟨t,rfl,Hu⟩;refine⟨.ref t,"tuple",rfl,S.ty.1,S.ty.2,?_⟩;rw[WL S,hle];exact q _ (s1.trans (Hz ht _))
theorem Zz(F:Fun K "fields_ascend" "fields_ascend" NX f fd)  :FnOk P w K mg base HY 1 f fd ["parts"] (RM):=by
 refine F.ok Z0 (λvs H Q E h=>?_) (λcdv A outer s H vs Q E hr h=>?_)
 · obtain⟨a,ps,rfl,ha,hl,hp,hlt,q⟩:=h;rfl
 obtain⟨a,ps,rfl,ha,hl,hp,hlt,q⟩:=h;refine⟨_,(HB (HN (HP (M3 rfl) rfl B.all_ Mz (Hq (JO (N':=["ahead","behind"]) (js:=[none,none]) rfl (I_ (N:=["parts"]) (outer:=HI NX) (by decide+kernel)) (UT rfl B.zip_ (Hq (pv 0) (Hq (IQ Rv (pv 0) (IP Hv) IN) Hs))) (λ_ _ _ _ _=>(Nw K rfl (n:=2) rfl (H_ (HJ (i:=0) MV rfl (Or.inl rfl)) (H_ (HJ (i:=1) MV rfl (Or.inl rfl)) Jk)))) (λ_ _ _ _ _=>J7) (λ_ _ _ _ _=>(L8 W0 (HV (Ma K rfl) (pv 0) Hv (λ_ _=>rfl)) (HV (Ma K rfl) (pv 1) Hv (λ_ _=>rfl)) (Ie _)))) Hs)))),?_⟩;refine⟨_,rfl,_,rfl,_,rfl,?_⟩;dsimp only[Kd];refine Vt (SqT.of ha) λp1 H1 s1 q1=>?_;refine⟨a,p1,rfl,⟨_,s1.seqT (SqT.of ha)⟩,⟨_,q1⟩,λp hp'=>?_⟩;have s0:=Hz hp' (.lst []);have ld:((ps.map λp=>V.ref p.1).drop 1).length=ps.length - 1:=by rw[BM,Ab]
 refine UJ (n:=ps.length - 1) (xs:=ps.map λp=>V.ref p.1) (ys:=(ps.map λp=>V.ref p.1).drop 1) (by rw[Ab];omega) (by rw[ld];exact Ah _) (.inr (by rw[ld];exact Ah _))
  (λi σ' ys H'=>(∃v w,σ'=[v,w])∧Same H1 H'∧H' p=some (.lst ys)∧ys=Bt i (V.bl true)) ⟨⟨none,none,rfl⟩,s0,Hu,rfl⟩ ?_ ?_ ?_
 · rintro i σ' zs H' hi ⟨_,s,h1,h2⟩;refine⟨(s1.trans s).seqT (SqT.of ha),s.seqT q1,h1,?_⟩;rw[h2,Ck];exact II (by omega)
 · rintro i x y σ' zs H' r N hx hy hr' ⟨⟨v,w',rfl⟩,s,h1,h2⟩ hN;rw[Ai] at hx;rw[List.getElem?_drop,Ai,Nat.add_comm] at hy;cases e1:ps[i]? with
   | none=>rw[e1] at hx;cases hx
   | some P1=>
    cases e2:ps[i+1]? with
    | none=>rw[e2] at hy;cases hy
    | some P2=>
     rw[e1] at hx;rw[e2] at hy;obtain rfl:V.ref P1.1=x:=A5 hx;obtain rfl:V.ref P2.1=y:=A5 hy;have s3:=Hz hr' (.tup [V.ref P1.1,V.ref P2.1]);have t3:=(s1.trans s).trans s3;have f1:=t3 _ _ (hp P1 (Am e1));have f2:=t3 _ _ (hp P2 (Am e2));refine⟨r,_,rfl,SqT.of Hu,rfl,_,_,rfl,_,_,rfl,rfl,?_⟩;refine⟨_,rfl,P1.1,_,0,_,rfl,rfl,SqT.of f1,Oj,_,rfl,P2.1,_,0,_,rfl,rfl,SqT.of f2,Oj,_,_,rfl,rfl,?_⟩;rw[decide_eq_true (show P1.2.1.cps.toList<P2.2.1.cps.toList from hlt i P1 P2 e1 e2)];refine⟨s3 _ _ h1,hN _ _ _ ⟨⟨_,_,rfl⟩,?_,Hu,by rw[h2];exact CF.symm⟩⟩;intro b o q';have:b≠p:=λz=>by rw[z,hp'] at q';cases q'
     rw[HD this];exact s3 _ _ (s b o q')
 · rintro σ' zs H' ⟨_,s,h1,h2⟩;refine⟨p,Bt (ps.length - 1) true,rfl,SqL.of (by rw[h1,h2,DH]),?_⟩;have:(Bt (ps.length - 1) true).all id=true:=by simp
   rw[this];exact q H' (s1.trans s)
theorem XT(F:Fun K "is_wish" "is_wish" NA f fd)(GK:Γ7 P w K mg base)(GL:Γ6 P w K mg base):FnOk P w K mg base HY 5 f fd ["thing"] (RQ):=by
 refine F.ok Xr (λvs H Q E h=>?_) (λcdv A outer s H vs Q E hr h=>?_)
 · obtain⟨a,w',rfl,hw,wok,q⟩:=h;rfl
 obtain⟨a,w',rfl,hw,wok,q⟩:=h;refine⟨_,(Hy (HZ (Jj (Ja (HP (Jf (n:="")) rfl B.isinstance_ IX (Hq (pv 0) (Hq (IM (v:= .ty "tuple") rfl B.tuple_ Km rfl) Hs))))) (HB (HN Jp)) Ii)
  (HB (HN (Lj (HP (M3 rfl) rfl B.all_ Mz (Hq (JO (N':=["part"]) (js:=[none]) rfl (I_ (N:=["thing"]) (outer:=HI NA) (by decide+kernel)) (K5 (pv 0)) (λ_ _ _ _ _=>(HJ (i:=0) Qk rfl (Or.inl rfl))) (λ_ _ _ _ _=>J7) (λ_ _ _ _ _=>(HG GL (hr.mono (by decide)) rfl (Hq (pv 0) Hs)))) Hs)) (K4 (HG GK (hr.mono (by decide)) rfl (Hq (pv 0) Hs))))))),?_⟩
 obtain⟨ps,rfl,hA,hP⟩:=hw;have ll:ps.length≤100:=by have:=wok.len;rw[Ab] at this;exact this
 refine⟨_,rfl,_,"tuple","tuple",true,rfl,.tup hA,rfl,_,rfl,Ht ?_⟩;refine⟨_,rfl,a,rfl,⟨_,SqT.of hA⟩,λp hp=>?_⟩;refine Nt (xs:=ps.map λp=>V.ref p.1) (λi σ' ys H'=>(∃v,σ'=[v])∧Same H H'∧H' p=some (.lst ys)∧ys=Bt i (V.bl true)) ⟨⟨none,rfl⟩,Hz hp _,Hu,rfl⟩ ?_ ?_ ?_
 · rintro i σ' ys H' hi ⟨_,s,h1,h2⟩;refine⟨s.seqT (SqT.of hA),h1,?_⟩;rw[h2,Ck];rw[Ab] at hi;exact II (by omega)
 · rintro i x σ' ys H' N hx ⟨⟨v,rfl⟩,s,h1,h2⟩ hN;obtain⟨P1,e1,rfl⟩:=Io hx;have hm:=Am e1;obtain⟨o1,o2⟩:=wok.ok P1.2 (Ax hm);refine⟨_,rfl,P1.1,P1.2.1,P1.2.2.1,P1.2.2.2,rfl,s _ _ (hP P1 hm),o1,o2,λH2 s2=>?_⟩;refine⟨s2 _ _ h1,hN _ _ _ ⟨⟨_,rfl⟩,K7 (s.trans s2) hp,Hu,by rw[h2];exact CF.symm⟩⟩
 · rintro σ' ys H' ⟨_,s,h1,h2⟩;refine⟨p,Bt (ps.map λp=>V.ref p.1).length true,rfl,SqL.of (by rw[h1,h2,DH]),_,rfl,?_⟩;rw[show(Bt (ps.map λp=>V.ref p.1).length true).all id=true by simp];refine Hw ⟨_,rfl,a,ps.map (λp=>(p.1,p.2.1,[eV p.2.2.1,eV p.2.2.2])),rfl,?_,by rw[Ab];exact ll,?_,?_,λH2 s2=>q H2 (s.trans s2)⟩
   · rw[BN];exact s _ _ hA
   · intro r hr;rw[AN] at hr;obtain⟨P1,hm,rfl⟩:=hr;exact s _ _ (hP P1 hm)
   · intro i r1 r2 h3 h4;rw[Ai] at h3 h4;cases e1:ps[i]? with
     | none=>rw[e1] at h3;cases h3
     | some P1=>
      cases e2:ps[i+1]? with
      | none=>rw[e2] at h4;cases h4
      | some P2=> rw[e1] at h3;rw[e2] at h4;obtain rfl:=A5 h3;obtain rfl:=A5 h4;have l2:=(Al.mp e2).1;have:=Db.mp wok.asc i (i+1) (by simp;omega) (by simp;omega) (by omega);simp only[Dg] at this;rw[(Al.mp e1).2,(Al.mp e2).2] at this;exact this
theorem YR(F:Fun K "check_wish" "check_wish" Ps f fd)(GM:Γ8 P w K mg base):FnOk P w K mg base HY 6 f fd ["thing"] (SB):=by
 refine F.ok YW (λvs H Q E h=>?_) (λcdv A outer s H vs Q E hr h=>?_)
 · obtain⟨a,w',rfl,hw,wok,q⟩:=h;rfl
 obtain⟨a,w',rfl,hw,wok,q⟩:=h;refine⟨_,(HB (HZ (Jj (Ja (HG GM (hr.mono (by decide)) rfl (Hq (pv 0) Hs)))) (HB NB) Ii)),?_⟩;exact⟨_,rfl,a,w',rfl,hw,wok,λH' s=>⟨_,rfl,Ht (q H' s)⟩⟩
theorem YQ(F:Fun K "are_wishes" "are_wishes" NZ f fd)(GM:Γ8 P w K mg base):FnOk P w K mg base HY 6 f fd ["thing"] (Rw):=by
 refine F.ok YV (λvs H Q E h=>?_) (λcdv A outer s H vs Q E hr h=>?_)
 · obtain⟨l,ws,rfl,hw,q⟩:=h;rfl
 obtain⟨l,ws,rfl,hw,q⟩:=h;refine⟨_,(HB (HN (Lj (HP (Jf (n:="")) rfl B.isinstance_ IX (Hq (pv 0) (Hq (IM (v:= .ty "list") rfl B.list_ Ll rfl) Hs))) (K4 (HP (M3 rfl) rfl B.all_ Mz (Hq (JO (N':=["wish"]) (js:=[none]) rfl (I_ (N:=["thing"]) (outer:=HI NZ) (by decide+kernel)) (JJ (pv 0)) (λ_ _ _ _ _=>(HJ (i:=0) Qj rfl (Or.inl rfl))) (λ_ _ _ _ _=>J7) (λ_ _ _ _ _=>(HG GM (hr.mono (by decide)) rfl (Hq (pv 0) Hs)))) Hs)))))),?_⟩;have hA:=hw.at';refine⟨_,rfl,_,"list","list",true,rfl,.lst hA,rfl,_,rfl,Hw ?_⟩;refine⟨_,rfl,l,rfl,⟨_,SqL.of hA⟩,λp hp=>?_⟩;refine Mb (xs:=ws.map λx=>V.ref x.1) (λi σ' ys H'=>(∃v,σ'=[v])∧Same H H'∧H' p=some (.lst ys)∧ys=Bt i (V.bl true)) ⟨⟨none,rfl⟩,Hz hp _,Hu,rfl⟩ ?_ ?_ ?_
 · rintro i σ' ys H' hi ⟨_,s,h1,h2⟩;refine⟨s.seq (SqL.of hA),h1,?_⟩;rw[h2,Ck];rw[Ab] at hi;have:=hw.len;exact II (by omega)
 · rintro i x σ' ys H' N hx ⟨⟨v,rfl⟩,s,h1,h2⟩ hN;obtain⟨P1,e1,rfl⟩:=Io hx;obtain⟨o1,o2⟩:=hw.ok P1 (Am e1);refine⟨_,rfl,P1.1,P1.2,rfl,o1.same s,o2,λH2 s2=>?_⟩;refine⟨s2 _ _ h1,hN _ _ _ ⟨⟨_,rfl⟩,K7 (s.trans s2) hp,Hu,by rw[h2];exact CF.symm⟩⟩
 · rintro σ' ys H' ⟨_,s,h1,h2⟩;refine⟨p,Bt (ws.map λx=>V.ref x.1).length true,rfl,SqL.of (by rw[h1,h2,DH]),?_⟩;rw[show(Bt (ws.map λx=>V.ref x.1).length true).all id=true by simp];exact q _ s
theorem Zj(F:Fun K "check_wishes" "check_wishes" PJ f fd)(GN:Γ10 P w K mg base):FnOk P w K mg base HY 7 f fd ["thing"] (RN):=by
 refine F.ok Zp (λvs H Q E h=>?_) (λcdv A outer s H vs Q E hr h=>?_)
 · obtain⟨l,ws,rfl,hw,q⟩:=h;rfl
 obtain⟨l,ws,rfl,hw,q⟩:=h;refine⟨_,(HB (HZ (Jj (Ja (HG GN (hr.mono (by decide)) rfl (Hq (pv 0) Hs)))) (HB NB) Ii)),?_⟩;exact⟨_,rfl,l,ws,rfl,hw,λH' s=>⟨_,rfl,Ht (q H' s)⟩⟩
theorem Z1(F:Fun K "spans_by_field" "spans_by_field" Oh f fd)  :FnOk P w K mg base HY 1 f fd ["wish"] (Td):=by
 refine F.ok Zw (λvs H Q E h=>?_) (λcdv A outer s H vs Q E hr h=>?_)
 · obtain⟨a,w',rfl,hw,wok,q⟩:=h;rfl
 obtain⟨a,w',rfl,hw,wok,q⟩:=h;refine⟨_,(HB (HN (Uc (N':=["field","low","high"]) (js:=[none,none,none]) rfl (I_ (N:=["wish"]) (outer:=HI Oh) (by decide+kernel)) (K5 (pv 0)) (λ_ _ _ _ _=>(Nw K rfl (n:=3) rfl (H_ (HJ (i:=0) JU rfl (Or.inl rfl)) (H_ (HJ (i:=1) JU rfl (Or.inl rfl)) (H_ (HJ (i:=2) JU rfl (Or.inl rfl)) Jk))))) (λ_ _ _ _ _=>J7) (λ_ _ _ _ _=>(pv 0)) (λ_ _ _ _ _=>(Ij (Hq (pv 1) (Hq (pv 2) Hs))))))),?_⟩;obtain⟨ps,rfl,hA,hP⟩:=hw;have ll:ps.length≤100:=by have:=wok.len;rw[Ab] at this;exact this
 refine⟨_,rfl,a,rfl,⟨_,SqT.of hA⟩,λd hd=>?_⟩;refine U_ (xs:=ps.map λp=>V.ref p.1) (λi σ' kvs H'=>(∃v1 v2 v3,σ'=[v1,v2,v3])∧Same H H'∧H' d=some (.dK kvs)∧kvs.length≤i∧(∃bs,kvs=JM bs∧bs.map (·.1)=((ps.map (·.2)).take i).map (·.1))∧∀f:Str,match HH ((ps.map (·.2)).take i) f with
  | none=>HU kvs (.inr f)=none
  | some s=>∃t,HU kvs (.inr f)=some (.ref t)∧H' t=some (.tup [eV s.1,eV s.2])) ⟨⟨none,none,none,rfl⟩,Hz hd _,Hu,AQ _,⟨[],rfl,rfl⟩,λf=>rfl⟩ ?_ ?_ ?_
 · rintro i σ' kvs H' hi ⟨_,s,h1,h2,_⟩;rw[Ab] at hi;exact⟨s.seqT (SqT.of hA),h1,II (by omega)⟩
 · rintro i x σ' kvs H' N hx ⟨⟨v1,v2,v3,rfl⟩,s,h1,h2,⟨bs,rfl,kb⟩,h3⟩ hN;obtain⟨P1,e1,rfl⟩:=Io hx;have hm:=Am e1;refine⟨P1.1,_,rfl,SqT.of (s _ _ (hP P1 hm)),rfl,_,_,rfl,_,_,rfl,_,_,rfl,rfl,?_⟩;refine⟨_,rfl,_,rfl,_,rfl,Iv,λu hu=>?_⟩;have su:=Hz hu (.tup [eV P1.2.2.1,eV P1.2.2.2]);have eu:(Hr H' u (.tup [eV P1.2.2.1,eV P1.2.2.2])) u=some (.tup [eV P1.2.2.1,eV P1.2.2.2]):=Hu;have h1':=su _ _ h1;generalize Hr H' u (.tup [eV P1.2.2.1,eV P1.2.2.2])=H2 at*;have du:u≠d:=K1 eu h1' (by intro z;cases z);refine⟨Sum.inr P1.2.1,rfl,h1',hN _ _ _ ⟨⟨_,_,_,rfl⟩,K7 (s.trans su) hd,Hu,?_,⟨Jc bs P1.2.1 (V.ref u),OP _ _ _,?_⟩,λf=>?_⟩⟩
   · have:=MD (JM bs) (Sum.inr P1.2.1:HF) (V.ref u);omega
   · have ew:(ps.map (·.2))[i]?=some P1.2:=by rw[Ai,e1];rfl
     have fr:=SG (wok.fresh ew);rw[SO,if_neg,kb,IW ew,Aj]
     · rfl
     · rw[kb];intro z;obtain⟨y,hy,ey⟩:=AN.mp z;exact fr y hy ey
   · have ew:(ps.map (·.2))[i]?=some P1.2:=by rw[Ai,e1];rfl
     have fr:=wok.fresh ew;rw[IW ew,T0 _ _ _ fr,Pg];by_cases hf:f=P1.2.1
     · subst hf;rw[if_pos rfl,if_pos rfl];exact⟨u,rfl,by rw[HD du];exact eu⟩
     · rw[if_neg hf,if_neg (λz=>hf (by injection z))];have:=h3 f;cases hs:HH ((ps.map (·.2)).take i) f with
       | none=>rw[hs] at this;exact this
       | some sp=> rw[hs] at this;obtain⟨t,t1,t2⟩:=this;exact⟨t,t1,by rw[HD (K1 (su _ _ t2) h1' (by intro z;cases z))];exact su _ _ t2⟩
 · rintro σ' kvs H' ⟨_,s,h1,h2,⟨bs,rfl,kb⟩,h3⟩;have et:(ps.map (·.2)).take (ps.map λp=>V.ref p.1).length=ps.map (·.2):=AL (by simp);rw[et] at kb;refine q d H' s hd ⟨bs,h1,kb,λf=>?_⟩;have:=h3 f;rw[et] at this;rw[Mg] at this;exact this
theorem Zu(F:Fun K "wish_shared" "wish_shared" Of f fd)(GO:Γ12 P w K mg base)(GP:Γ3 P w K mg base):FnOk P w K mg base HY 2 f fd ["one","other"] (Q_):=by
 refine F.ok Gw (λvs H Q E h=>?_) (λcdv A outer s H vs Q E hr h=>?_)
 · obtain⟨a,b,w1,w2,rfl,hw1,hw2,ok1,ok2,hl,qN,qS⟩:=h;rfl
 obtain⟨a,b,w1,w2,rfl,hw1,hw2,ok1,ok2,hl,qN,qS⟩:=h;refine⟨_,(Hy (HK (i:=2) Gw.nd rfl (Or.inr rfl) (HG GO (hr.mono (by decide)) rfl (Hq (pv 0) Hs)))
  (Hy (Kl B_ rfl (K5 (pv 1)) (Jz rfl (H_ (HJ (i:=3) Gw.nd rfl (Or.inl rfl)) (H_ (HJ (i:=4) Gw.nd rfl (Or.inl rfl)) (H_ (HJ (i:=5) Gw.nd rfl (Or.inl rfl)) Jk)))) (Hy (HK (i:=6) Gw.nd rfl (Or.inl rfl) (HG GP (hr.mono (by decide)) rfl (Hq (Wd (Lv hr) (pv 2) (pv 3) (Ij (Hq Jy (Hq Jy Hs))) ⟨rfl,rfl,rfl,rfl⟩) (Hq (Ij (Hq (pv 4) (Hq (pv 5) Hs))) Hs))))
  (Hy (HZ (IY (JD (pv 6))) (HB (HN Jy)) Ii)
  (HB (Vg (Lv hr) (pv 2) (pv 3) (pv 6) rfl)))))
  (HB (HN (Lm Ob rfl B.tuple_ Km (Hq (JO (N':=["field","met"]) (js:=[none,some 2]) rfl (I_ (N:=["one","other","met","field","low","high","shared"]) (outer:=HI Of) (by decide+kernel)) (JJ (HP (Ze rfl) rfl B.sorted_ N4 (Hq (pv 2) Hs))) (λ_ _ _ _ _=>(HJ (i:=0) Qi rfl (Or.inl rfl))) (λ_ _ _ _ _=>J7) (λ_ _ _ _ _=>(Ij (Hq (pv 0) (Hq (HV (Ma K rfl) (Nv (Lv hr) (pv 1) (pv 0) (λ_ _=>rfl)) Hv (λ_ _=>rfl)) (Hq (HV (Ma K rfl) (Nv (Lv hr) (pv 1) (pv 0) (λ_ _=>rfl)) Hv (λ_ _=>rfl)) Hs)))))) Hs)))))),?_⟩
 refine⟨_,rfl,a,w1,rfl,hw1,ok1,λd H1 s1 n1 D1=>?_⟩;obtain⟨bs0,b1,b2,b3⟩:=D1;obtain⟨ps,rfl,hA,hP⟩:=hw2.same s1;have bd:b≠d:=K1 hA b1 (by intro z;cases z);have pd:∀p∈ps,p.1≠d:=λp hp=>K1 (hP p hp) b1 (by intro z;cases z);refine⟨_,rfl,b,rfl,⟨_,SqT.of hA⟩,O4 (K:=K) (a:=b) (xs:=ps.map λp=>V.ref p.1) (λi σ H'=>(∃y3 y4 y5 y6,σ=[some (.ref a),some (.ref b),some (.ref d),y3,y4,y5,y6])∧(∀c o,H1 c=some o→c≠d→H' c=some o)∧∃bs:List (Str×V),H' d=some (.dK (JM bs))∧(bs.map (·.1)).Nodup∧bs.length≤w1.length+i∧JP w1 ((ps.map (·.2)).take i)=false∧
  ∀f:Str,match Jd (HH w1 f) (HH ((ps.map (·.2)).take i) f) with
   | none=>IB bs f=none
   | some s=>∃t,IB bs f=some (.ref t)∧H' t=some (.tup [eV s.1,eV s.2])) ?_ ?_ ?_ ?_⟩
 · refine⟨⟨none,none,none,none,rfl⟩,λc o h _=>h,bs0,b1,?_,?_,rfl,λf=>?_⟩
   · rw[b2];exact Mc ok1.asc
   · have:=congrArg AX b2;simp at this;omega
   · have:=b3 f;cases e:HH w1 f with
     | none=>rw[e] at this;exact this
     | some s=>rw[e] at this;exact this
 · rintro i σ H' _ ⟨_,kp,_⟩;exact SqT.of (kp _ _ hA bd)
 · rintro i x σ H2 hx ⟨⟨y3,y4,y5,y6,rfl⟩,kp,bs,k1,k2,k3,k4,k5⟩;obtain⟨P1,e1,rfl⟩:=Io hx;have hm:=Am e1;have li:=(Al.mp e1).1;have ew:(ps.map (·.2))[i]?=some P1.2:=by rw[Ai,e1];rfl
   have fr:=ok2.fresh ew;have kf:=k5 P1.2.1;rw[fr] at kf;refine⟨P1.1,_,rfl,SqT.of (kp _ _ (hP P1 hm) (pd P1 hm)),rfl,_,_,rfl,_,_,rfl,_,_,rfl,rfl,?_⟩;refine⟨_,rfl,d,rfl,.inl ⟨JM bs,.inl k1⟩,_,rfl,Iv,λv hv=>?_⟩;have sv:=Hz hv (.tup [V.non,V.non]);have ev:(Hr H2 v (.tup [V.non,V.non])) v=some (.tup [V.non,V.non]):=Hu;have k1v:=sv _ _ k1;generalize Hr H2 v (.tup [V.non,V.non])=H3 at*;have gd:=DGet.k (k:=Sum.inr P1.2.1) k1v;rw[Mg] at gd;obtain⟨sp,esp,tt,ett,htt⟩:∃sp:IE,(HH w1 P1.2.1).getD (none,none)=sp∧∃tt,(IB bs P1.2.1).getD (.ref v)= .ref tt∧H3 tt=some (.tup [eV sp.1,eV sp.2]):=by
    cases hs:HH w1 P1.2.1 with
    | none=>rw[hs] at kf;rw[show IB bs P1.2.1=none from kf];exact⟨(none,none),rfl,v,rfl,ev⟩
    | some sp=>rw[hs] at kf;obtain⟨t,z1,z2⟩:=kf;rw[z1];exact⟨sp,rfl,t,rfl,sv _ _ z2⟩
   refine⟨_,gd,?_⟩;rw[ett];refine⟨_,rfl,_,rfl,Iv,λu hu=>?_⟩;have su:=Hz hu (.tup [eV P1.2.2.1,eV P1.2.2.2]);refine⟨.ref tt,.ref u,sp.1,sp.2,P1.2.2.1,P1.2.2.2,rfl,⟨tt,rfl,su _ _ htt⟩,⟨u,rfl,Hu⟩,λv' H4 s4 m4=>?_⟩;have s24:Same H2 H4:=sv.trans (su.trans s4);have sH4:Same H H4:=λc o h=>s24 _ _ (kp _ _ (s1 _ _ h) (λe=>by rw[e,n1] at h;cases h));have le1:=(ok2.ok P1.2 (Ax hm)).2;unfold Nn at m4;by_cases ap:Ir (Jq sp.1 P1.2.2.1) (Jr sp.2 P1.2.2.2)=true
   · rw[if_pos ap] at m4;subst m4;have aw:JP w1 (ps.map (·.2))=true:=by
      refine CM.mpr ⟨P1.2,Ax hm,?_⟩;unfold My;cases hs:HH w1 P1.2.1 with
      | none=> rw[hs] at esp;subst esp;have:Ir P1.2.2.1 P1.2.2.2=true:=ap;rw[Sn,this] at le1;cases le1
      | some s=> rw[hs] at esp;obtain rfl:s=sp:=esp;exact ap
     exact⟨_,rfl,_,rfl,Hw (qN aw _ sH4)⟩
   · rw[if_neg ap] at m4;obtain⟨t4,rfl,e4⟩:=m4;have k14:=s24 _ _ k1;have td:t4≠d:=K1 e4 k14 (by intro z;cases z);refine⟨_,rfl,_,rfl,Ht ⟨_,rfl,_,rfl,_,rfl,d,_,rfl,DPut.k (k:=Sum.inr P1.2.1) k14 (II (by unfold JM;rw[Ab];have:=ok1.len;have:=ok2.len;simp at this;omega)),⟨_,_,_,_,rfl⟩,λc o h cd=>by rw[HD cd];exact s24 _ _ (kp c o h cd),Jc bs P1.2.1 (V.ref t4),by rw[Hu,OP],Xo k2 _ _,?_,?_,λf=>?_⟩⟩
     · have:=Wl bs P1.2.1 (V.ref t4);omega
     · rw[IW ew];unfold JP at k4 ⊢;rw[List.any_append,k4];simp only[Dn,List.any_nil,Bool.or_false,Bool.false_or];unfold My;cases hs:HH w1 P1.2.1 with
       | none=>rfl
       | some s=> rw[hs] at esp;obtain rfl:s=sp:=esp;simpa using ap
     · rw[IW ew,T0 _ _ _ fr,VR];by_cases hf:f=P1.2.1
       · subst hf;rw[if_pos rfl,if_pos rfl];have em:Jd (HH w1 P1.2.1) (some P1.2.2)=some (Jq sp.1 P1.2.2.1,Jr sp.2 P1.2.2.2):=by
          cases hs:HH w1 P1.2.1 with
          | none=>rw[hs] at esp;subst esp;rfl
          | some s=>rw[hs] at esp;obtain rfl:s=sp:=esp;rfl
         rw[em];exact⟨t4,rfl,by rw[HD td];exact e4⟩
       · rw[if_neg hf,if_neg hf];have:=k5 f;cases hs:Jd (HH w1 f) (HH ((ps.map (·.2)).take i) f) with
         | none=>rw[hs] at this;exact this
         | some s=> rw[hs] at this;obtain⟨t,t1,t2⟩:=this;exact⟨t,t1,by rw[HD (K1 (s24 _ _ t2) k14 (by intro z;cases z))];exact s24 _ _ t2⟩
 · rintro σ H2 ⟨⟨y3,y4,y5,y6,rfl⟩,kp,bs,k1,k2,k3,k4,k5⟩;have et:(ps.map (·.2)).take (ps.map λp=>V.ref p.1).length=ps.map (·.2):=AL (by simp);rw[et] at k4 k5;have lb:bs.length≤60:=by simp at k3 hl;omega
   have sH2:Same H H2:=λc o h=>kp _ _ (s1 _ _ h) (λe=>by rw[e,n1] at h;cases h);refine⟨_,rfl,d,JM bs,bs.map (·.1),rfl,.inl k1,VU bs,(by rw[Ab];omega),λz ms mp mn mso hz=>?_⟩;have sz:=Hz hz (.lst (ms.map V.str));have lms:ms.length=bs.length:=by have:=mp.length_eq;simpa using this
   have hk:∀f,f∈ms↔(Jd (HH w1 f) (HH (ps.map (·.2)) f)).isSome=true:=λf=>by
    rw[mp.mem_iff,VQ];have:=k5 f;cases hs:Jd (HH w1 f) (HH (ps.map (·.2)) f) with
    | none=>rw[hs] at this;rw[show IB bs f=none from this];simp
    | some s=>rw[hs] at this;obtain⟨t,t1,_⟩:=this;rw[t1];simp
   have im:IsMet w1 (ps.map (·.2)) (K0 w1 (ps.map (·.2)) ms):=Sc (SA mso mn) hk (by simp at k3 ⊢;omega);have mk:(K0 w1 (ps.map (·.2)) ms).map (·.1)=ms:=by unfold K0;rw[BN];exact List.map_id _
   refine⟨z,rfl,⟨_,SqL.of Hu⟩,λp hp=>?_⟩;refine VX (cap:=[some (.ref d)]) (K0 w1 (ps.map (·.2)) ms) (by unfold K0;rw[Ab];omega) (by rw[mk];exact SqL.of Hu) hp rfl ?_ ?_
   · intro x hx H' R s' hR;have kd:=s' _ _ (sz _ _ k1);obtain⟨f,hf,rfl⟩:=AN.mp hx;have hso:=(hk f).mp hf;have kf:=k5 f;obtain⟨tt,t1,t2⟩:∃t,IB bs f=some (.ref t)∧H2 t=some (.tup [eV (LV w1 (ps.map (·.2)) f).1,eV (LV w1 (ps.map (·.2)) f).2]):=by
      unfold LV;cases hs:Jd (HH w1 f) (HH (ps.map (·.2)) f) with
      | none=>rw[hs] at hso;cases hso
      | some s=>rw[hs] at kf;exact kf
     have gd:DGet H' d (.str f) (some (.ref tt)):=by have:=DGet.k (k:=Sum.inr f) kd;rw[Mg,t1] at this;exact this
     have t3:=s' _ _ (sz _ _ t2);exact⟨_,rfl,_,rfl,_,rfl,d,_,rfl,gd,tt,_,0,_,rfl,rfl,SqT.of t3,rfl,_,rfl,_,rfl,d,_,rfl,gd,tt,_,1,_,rfl,rfl,SqT.of t3,rfl,KB,hR⟩
   intro H3 qs s3 q1 q2 q3;refine⟨p,_,rfl,.inl ⟨SqL.of q2,λt ht=>?_⟩⟩;have st:=Hz ht (.tup (qs.map λq=>V.ref q.1));exact qS k4 t _ _ im (sH2.trans (sz.trans (s3.trans st))) ⟨qs,q1,Hu,λq hq=>st _ _ (q3 q hq)⟩
theorem Zo(F:Fun K "spans_beside" "spans_beside" PH f fd)  :FnOk P w K mg base HY 1 f fd ["span","inner"] (Tp):=by
 refine F.ok Gx (λvs H Q E h=>?_) (λcdv A outer s H vs Q E hr h=>?_)
 · obtain⟨v,w',s',t',rfl,S1,S2,W,q⟩:=h;rfl
 obtain⟨v,w',s',t',rfl,S1,S2,W,q⟩:=h;refine⟨_,(Hy (JQ (pv 0) (Jz rfl (H_ (HJ (i:=2) Gx.nd rfl (Or.inl rfl)) (H_ (HJ (i:=3) Gx.nd rfl (Or.inl rfl)) Jk))))
  (Hy (JQ (pv 1) (Jz rfl (H_ (HJ (i:=4) Gx.nd rfl (Or.inl rfl)) (H_ (HJ (i:=5) Gx.nd rfl (Or.inl rfl)) Jk))))
  (Hy (HK (i:=6) Gx.nd rfl (Or.inl rfl) (NG (Il Lc (pv 4) (pv 2) (Ie _)) (IC (Hq (Ij (Hq (pv 2) (Hq (HC KC (pv 4) Hv) Hs))) Hs)) (IC Hs)))
  (Hy (HK (i:=7) Gx.nd rfl (Or.inl rfl) (NG (Il Lc (pv 5) (pv 3) (Ie _)) (IC (Hq (Ij (Hq (HC Ix (pv 5) Hv) (Hq (pv 3) Hs))) Hs)) (IC Hs)))
  (HB (HN (HC Li (pv 6) (pv 7)))))))),?_⟩
 obtain⟨a,rfl,ea⟩:=S1;obtain⟨b,rfl,eb⟩:=S2;obtain⟨a1,b1⟩:=s';obtain⟨c1,d1⟩:=t';dsimp only at ea eb;refine⟨_,rfl,a,_,rfl,SqT.of ea,rfl,_,_,rfl,_,_,rfl,rfl,?_⟩;refine⟨_,rfl,b,_,rfl,SqT.of eb,rfl,_,_,rfl,_,_,rfl,rfl,?_⟩;dsimp only;refine JL (λσ' H'=>∃(r1:Addr)(ss:List (Addr×IE)),σ'=[some (.ref a),some (.ref b),some (eV a1),some (eV b1),some (eV c1),some (eV d1),some (.ref r1),none]∧Same H H'∧H' r1=some (.lst (ss.map λx=>V.ref x.1))∧ss.map (·.2)=below (a1,b1) (c1,d1)∧∀x∈ss,H' x.1=some (.tup [eV x.2.1,eV x.2.2])) (λZ hZ=>?_) ?_
 · cases c1 with
   | none=>
    have e0:a1=none:=by
     cases a1 with
     | none=>rfl
     | some l=>obtain⟨k,hk,_⟩:=W.lo l rfl;cases hk
    subst e0;refine⟨_,rfl,_,rfl,rfl,_,rfl,QB rfl ⟨KM,λr1 hr1=>?_⟩⟩;exact hZ _ _ ⟨r1,[],rfl,Hz hr1 _,Hu,rfl,λx hx=>by simp at hx⟩
   | some l=>
    refine⟨_,rfl,_,rfl,by cases a1<;>rfl,_,rfl,HS (λh=>?_) (λh=>?_)⟩
    · have ne:a1≠some l:=λe=>by rw[e] at h;simp at h
      refine⟨_,rfl,_,rfl,_,_,rfl,rfl,Iv,λt ht=>?_⟩;have s3:=Hz ht (.tup [eV a1,V.int (l - 1)]);have e3:(Hr H t (.tup [eV a1,V.int (l - 1)])) t=some (.tup [eV a1,V.int (l - 1)]):=Hu;dsimp only;generalize Hr H t (.tup [eV a1,V.int (l - 1)])=H3 at*;refine⟨Kf,λr1 hr1=>?_⟩;have s4:=Hz hr1 (.lst [V.ref t]);refine hZ _ _ ⟨r1,[(t,(a1,some (l - 1)))],rfl,s3.trans s4,Hu,?_,λx hx=>?_⟩
      · show _=(if _ then _ else _)
        rw[if_neg ne];rfl
      · rw[Af.mp hx];exact s4 _ _ e3
    · have e:a1=some l:=by
       by_cases e:a1=some l
       · exact e
       · exact absurd (by simp;exact λz=>e (QL (a:=a1) (b:=some l) z.symm)) h
      subst e;refine⟨KM,λr1 hr1=>?_⟩;exact hZ _ _ ⟨r1,[],rfl,Hz hr1 _,Hu,by show []=(if _ then _ else _);rw[if_pos rfl],λx hx=>by simp at hx⟩
 rintro σ' H1 ⟨r0,ss,rfl,s1,e1,f1,g1⟩;refine JL (λσ' H'=>∃(r1:Addr)(ss:List (Addr×IE)),σ'=[some (.ref a),some (.ref b),some (eV a1),some (eV b1),some (eV c1),some (eV d1),some (.ref r0),some (.ref r1)]∧Same H1 H'∧H' r1=some (.lst (ss.map λx=>V.ref x.1))∧ss.map (·.2)=above (a1,b1) (c1,d1)∧∀x∈ss,H' x.1=some (.tup [eV x.2.1,eV x.2.2])) (λZ hZ=>?_) ?_
 · cases d1 with
   | none=>
    have e0:b1=none:=by
     cases b1 with
     | none=>rfl
     | some l=>obtain⟨k,hk,_⟩:=W.hi l rfl;cases hk
    subst e0;refine⟨_,rfl,_,rfl,rfl,_,rfl,QB rfl ⟨KM,λr1 hr1=>?_⟩⟩;exact hZ _ _ ⟨r1,[],rfl,Hz hr1 _,Hu,rfl,λx hx=>by simp at hx⟩
   | some l=>
    refine⟨_,rfl,_,rfl,by cases b1<;>rfl,_,rfl,HS (λh=>?_) (λh=>?_)⟩
    · have ne:b1≠some l:=λe=>by rw[e] at h;simp at h
      refine⟨_,rfl,_,_,rfl,rfl,_,rfl,Iv,λt ht=>?_⟩;have s3:=Hz ht (.tup [V.int (l+1),eV b1]);have e3:(Hr H1 t (.tup [V.int (l+1),eV b1])) t=some (.tup [V.int (l+1),eV b1]):=Hu;dsimp only;generalize Hr H1 t (.tup [V.int (l+1),eV b1])=H3 at*;refine⟨Kf,λr1 hr1=>?_⟩;have s4:=Hz hr1 (.lst [V.ref t]);refine hZ _ _ ⟨r1,[(t,(some (l+1),b1))],rfl,s3.trans s4,Hu,?_,λx hx=>?_⟩
      · show _=(if _ then _ else _)
        rw[if_neg ne];rfl
      · rw[Af.mp hx];exact s4 _ _ e3
    · have e:b1=some l:=by
       by_cases e:b1=some l
       · exact e
       · exact absurd (by simp;exact λz=>e (QL (a:=b1) (b:=some l) z.symm)) h
      subst e;refine⟨KM,λr1 hr1=>?_⟩;exact hZ _ _ ⟨r1,[],rfl,Hz hr1 _,Hu,by show []=(if _ then _ else _);rw[if_pos rfl],λx hx=>by simp at hx⟩
 rintro σ' H2 ⟨r1,us,rfl,s2,e2,f2,g2⟩;have l1:ss.length≤10:=by have h1:=congrArg AX f1;have h2:=ME (a1,b1) (c1,d1);unfold JK at h2;rw[Aw] at h2;rw[Ab] at h1;omega
 have l2:us.length≤10:=by have h1:=congrArg AX f2;have h2:=ME (a1,b1) (c1,d1);unfold JK at h2;rw[Aw] at h2;rw[Ab] at h1;omega
 refine⟨_,rfl,_,rfl,r0,r1,_,_,rfl,rfl,s2 _ _ e1,e2,by rw[Ab,Ab];exact Jt (by omega),λr hr'=>?_⟩;have s3:=Hz hr' (.lst (ss.map (λx=>V.ref x.1)++us.map (λx=>V.ref x.1)));refine q r (ss++us) _ ((s1.trans s2).free hr') (s1.trans (s2.trans s3)) ?_ ?_ λx hx=>?_
 · rw[Aj,f1,f2];rfl
 · rw[Hu,Aj]
 · rcases Aq.mp hx with z | z
   · exact s3 _ _ (s2 _ _ (g1 x z))
   · exact s3 _ _ (g2 x z)
theorem Z2(F:Fun K "parts_beside_one" "parts_beside_one" PB f fd)(GQ:Γ13 P w K mg base)(GR:Γ14 P w K mg base):FnOk P w K mg base HY 3 f fd ["wish","other"] (Tc):=by
 refine F.ok Gy (λvs H Q E h=>?_) (λcdv A outer s H vs Q E hr h=>?_)
 · obtain⟨a,b,w',o,rfl,hw,ho,kw,ko,lw,lo,q⟩:=h;rfl
 obtain⟨a,b,w',o,rfl,hw,ho,kw,ko,lw,lo,q⟩:=h;refine⟨_,(Hy (HK (i:=2) Gy.nd rfl (Or.inl rfl) (HG GQ (hr.mono (by decide)) rfl (Hq (pv 0) (Hq (pv 1) Hs))))
  (Hy (HZ (PW.pt (JB (IY (JD (pv 2))) (JZ (Il Lb (HP IF rfl B.len_ I0 (Hq (pv 2) Hs)) (HP IF rfl B.len_ I0 (Hq (pv 0) Hs)) (Ie _))))) (HB (HN (IC (Hq (pv 0) Hs)))) Ii)
  (Hy (HK (i:=3) Gy.nd rfl (Or.inl rfl) (IC Hs))
  (Hy (Kl B_ rfl (Wg rfl B.enumerate_ (Hq (pv 0) Hs)) (Jz rfl (H_ (HJ (i:=4) Gy.nd rfl (Or.inl rfl)) (H_ (Jz rfl (H_ (HJ (i:=5) Gy.nd rfl (Or.inl rfl)) (H_ (HJ (i:=6) Gy.nd rfl (Or.inl rfl)) (H_ (HJ (i:=7) Gy.nd rfl (Or.inl rfl)) Jk)))) Jk))) (HB (Kl B_ rfl (JJ (HG GR (hr.mono (by decide)) rfl (Hq (Ij (Hq (pv 6) (Hq (pv 7) Hs))) (Hq (Ij (Hq (HV Jg (HV Jg (pv 2) (pv 4) (λ_ _=>rfl)) Hv (λ_ _=>rfl)) (Hq (HV Jg (HV Jg (pv 2) (pv 4) (λ_ _=>rfl)) Hv (λ_ _=>rfl)) Hs))) Hs)))) (Jz rfl (H_ (HJ (i:=8) Gy.nd rfl (Or.inl rfl)) (H_ (HJ (i:=9) Gy.nd rfl (Or.inl rfl)) Jk))) (HB (KE (Ld Cb CG CH LF (pv 3) (Hq (HC Ko (HC Ko (IQ Kc (pv 2) IN (IP (pv 4))) (Ij (Hq (Ij (Hq (pv 5) (Hq (pv 8) (Hq (pv 9) Hs)))) Hs))) (IQ Kc (pv 0) (IP (HC Ix (pv 4) Hv)) IN)) Hs)))))))
  (HB (HN (pv 3))))))),?_⟩
 have whole:∀(H1:Hp),Same H H1→one w' o=[w']→OneOk w' o (one w' o)→∀r,H1 r=none→Q (.ref r) (Hr H1 r (.lst [V.ref a])):=λH1 s1 e ok r hr=>by have s2:=Hz hr (.lst [V.ref a]);refine q r _ (s1.free hr) (s1.trans s2) ?_ ok;rw[e];exact⟨[(a,w')],rfl,Hu,λx hx=>by rw[Af.mp hx];exact hw.same (s1.trans s2)⟩
 refine⟨_,rfl,_,rfl,a,b,w',o,rfl,hw,ho,kw,ko,by omega,λap H1 s1=>?_,λap mr m H1 im s1 hm=>?_⟩
 · have e1:one w' o=[w']:=by unfold one;rw[if_pos ap]
   exact⟨_,rfl,_,rfl,Hw (Hw ⟨_,rfl,Kf,whole H1 s1 e1 (by rw[e1];exact Sr kw ko ap)⟩)⟩
 have te:=SK im;have hm':=hm;have hw1':=hw.same s1;obtain⟨ms,hms,hA,hP⟩:=hm;obtain⟨ws,hws,hB,hR⟩:=hw.same s1;have lm:ms.length=m.length:=by rw[←hms,Ab]
 have lws:ws.length=w'.length:=by rw[←hws,Ab]
 refine⟨_,rfl,_,rfl,Ht ⟨_,rfl,mr,_,rfl,.inr (SqT.of hA),_,rfl,a,_,rfl,.inr (SqT.of hB),_,_,rfl,rfl,_,rfl,HS (λh=>?_) (λh=>?_)⟩⟩
 · have h1:w'.length<m.length:=by
    have:=of_decide_eq_true h;rw[Ab,Ab,lm,lws] at this;omega
   have e1:one w' o=[w']:=by unfold one;rw[if_neg (by rw[ap];simp),te,if_pos h1]
   exact⟨_,rfl,Kf,whole H1 s1 e1 (by rw[e1];exact RH kw ko im h1)⟩
 have h1:m.length≤w'.length:=by have:¬((((ms.map λp=>V.ref p.1).length:Nat):Int)>(((ws.map λp=>V.ref p.1).length:Nat):Int)):=λz=>h (decide_eq_true z);rw[Ab,Ab,lm,lws] at this;omega
 have e1:one w' o=M5 w' m:=by unfold one;rw[if_neg (by rw[ap];simp),te,if_neg (by omega)]
 have hf:=SV kw im h1;have ll:m.length=w'.length:=by have:=congrArg AX hf;simpa using this
 refine⟨KM,λpr hpr=>?_⟩;have s2:=Hz hpr (.lst []);have e2:(Hr H1 pr (.lst [])) pr=some (.lst []):=Hu;have np:H pr=none:=s1.free hpr;have hm2:=hm'.same s2;have hw2:=hw1'.same s2;have S2:=s1.trans s2;generalize Hr H1 pr (.lst [])=H2 at*;have hB2:SqT K H2 a (ws.map λp=>V.ref p.1):=SqT.of (s2 _ _ hB);have cl:∀l:List Nat,(l.flatMap (JV w' m)).length≤2*l.length:=λl=>by
  induction l with
  | nil=>simp
  | cons i l ih=>
   rw[Dr,Aw,AF];have:(JV w' m i).length≤2:=by
    unfold JV
    split
    · rw[Ab];exact ME _ _
    · simp
   omega
 refine⟨_,rfl,a,rfl,⟨_,hB2⟩,Xf (K:=K) (a:=a) (xs:=ws.map λp=>V.ref p.1) (λi σ H'=>(∃y4 y5 y6 y7 y8 y9,σ=[some (.ref a),some (.ref b),some (.ref mr),some (.ref pr),y4,y5,y6,y7,y8,y9])∧Same H H'∧Tups H2 H'∧∃us:List (Addr×List WP),H' pr=some (.lst (us.map λz=>V.ref z.1))∧us.map (·.2)=(BV i).flatMap (JV w' m)∧∀z∈us,WishAt H' z.1 z.2) ⟨⟨none,none,none,none,none,none,rfl⟩,S2,λ_ _ z=>z,[],e2,rfl,λz hz=>by simp at hz⟩ (λi σ H' _ ⟨_,_,z,_⟩=>SqT.of (z _ _ (s2 _ _ hB))) ?_ ?_⟩
 · rintro i x z σ H3 hx hz ⟨⟨y4,y5,y6,y7,y8,y9,rfl⟩,s3,t3,us,e3,u3,v3⟩;obtain⟨P1,ex,rfl⟩:=Io hx;have li:i<ws.length:=(Al.mp ex).1;obtain⟨M1,em⟩:∃M1,ms[i]?=some M1:=⟨ms[i]'(by omega),Ak (by omega)⟩;have ewP:w'[i]?=some P1.2:=by rw[←hws,Ai,ex];rfl
   have emP:m[i]?=some M1.2:=by rw[←hms,Ai,em];rfl
   obtain⟨m1,m2,m3⟩:=LZ kw ko im ap hf ewP emP;have s4:=Hz hz (.tup [V.int (i:Int),V.ref P1.1]);have e4:(Hr H3 z (.tup [V.int (i:Int),V.ref P1.1])) z=some (.tup [V.int (i:Int),V.ref P1.1]):=Hu;have t4:Tups H2 (Hr H3 z (.tup [V.int (i:Int),V.ref P1.1])):=t3.trans s4.tups;have f4:=s4 _ _ e3;have v4:∀z'∈us,WishAt (Hr H3 z (.tup [V.int (i:Int),V.ref P1.1])) z'.1 z'.2:=λz' hz'=>(v3 z' hz').same s4;have S4:=s3.trans s4;generalize Hr H3 z (.tup [V.int (i:Int),V.ref P1.1])=H4 at*;have hA4:=t4 _ _ (s2 _ _ hA);have hB4:=t4 _ _ (s2 _ _ hB);have p4:=t4 _ _ (s2 _ _ (hR P1 (Am ex)));have q4:=t4 _ _ (s2 _ _ (hP M1 (Am em)));have hat:IS (ms.map λp=>V.ref p.1) (i:Int)=some (V.ref M1.1):=J6 (by rw[Ai,em];rfl);refine⟨z,_,rfl,SqT.of e4,rfl,_,_,rfl,_,_,rfl,⟨P1.1,_,rfl,SqT.of p4,rfl,_,_,rfl,_,_,rfl,_,_,rfl,rfl,rfl,?_⟩⟩;refine⟨_,rfl,_,rfl,Iv,λt1 ht1=>?_⟩;have s5:=Hz ht1 (.tup [eV P1.2.2.1,eV P1.2.2.2]);have e5:(Hr H4 t1 (.tup [eV P1.2.2.1,eV P1.2.2.2])) t1=some (.tup [eV P1.2.2.1,eV P1.2.2.2]):=Hu;generalize Hr H4 t1 (.tup [eV P1.2.2.1,eV P1.2.2.2])=H5 at*;refine⟨_,rfl,_,rfl,mr,_,_,_,rfl,rfl,SqT.of (s5 _ _ hA4),hat,M1.1,_,1,_,rfl,rfl,SqT.of (s5 _ _ q4),rfl,_,rfl,_,rfl,mr,_,_,_,rfl,rfl,SqT.of (s5 _ _ hA4),hat,M1.1,_,2,_,rfl,rfl,SqT.of (s5 _ _ q4),rfl,Iv,λt2 ht2=>?_⟩;have s6:=Hz ht2 (.tup [eV M1.2.2.1,eV M1.2.2.2]);have e6:(Hr H5 t2 (.tup [eV M1.2.2.1,eV M1.2.2.2])) t2=some (.tup [eV M1.2.2.1,eV M1.2.2.2]):=Hu;generalize Hr H5 t2 (.tup [eV M1.2.2.1,eV M1.2.2.2])=H6 at*;refine⟨.ref t1,.ref t2,P1.2.2,M1.2.2,rfl,⟨t1,rfl,s6 _ _ e5⟩,⟨t2,rfl,e6⟩,m2,λr ss H7 nr7 s7 f7 e7 g7=>?_⟩;have t7:=s5.trans (s6.trans s7);have S7:=S4.trans t7;have nr:r≠pr:=λz'=>by rw[z',s6 _ _ (s5 _ _ f4)] at nr7;cases nr7
   refine⟨r,rfl,⟨_,SqL.of e7⟩,NE (K:=K) (a:=r) (xs:=ss.map λx=>V.ref x.1) (λj σ H'=>(∃y8 y9,σ=[some (.ref a),some (.ref b),some (.ref mr),some (.ref pr),some (.int (i:Int)),some (.str P1.2.1),some (eV P1.2.2.1),some (eV P1.2.2.2),y8,y9])∧Same H H'∧Tups H7 H'∧H' r=some (.lst (ss.map λx=>V.ref x.1))∧∃us:List (Addr×List WP),H' pr=some (.lst (us.map λz=>V.ref z.1))∧us.map (·.2)=(BV i).flatMap (JV w' m)++((ss.take j).map λx=>m.take i++[(P1.2.1,x.2)]++w'.drop (i+1))∧∀z∈us,WishAt H' z.1 z.2) ?_ (λj σ H' _ ⟨_,_,_,z,_⟩=>SqL.of z) ?_ ?_⟩
   · exact⟨⟨_,_,rfl⟩,S7,λ_ _ z=>z,e7,us,t7 _ _ f4,by rw[u3];simp,λz' hz'=>(v4 z' hz').same t7⟩
   · rintro j x σ H8 hx ⟨⟨y8',y9',rfl⟩,s8,t8,r8,us8,e8,u8,v8⟩;obtain⟨N1,es,rfl⟩:=Io hx;have n8:=t8 _ _ (g7 N1 (Am es));have hA8:=t8 _ _ (t7.tups _ _ hA4);have hB8:=t8 _ _ (t7.tups _ _ hB4);have lss:ss.length≤2:=by
      have h1:=congrArg AX f7;rw[Ab] at h1;have h2:=ME P1.2.2 M1.2.2;omega
     have lus:us8.length≤100:=by have h1:=congrArg AX u8;rw[Ab,Aw,Ab,AH] at h1;have h2:=cl (BV i);rw[CZ] at h2;omega
     refine⟨N1.1,_,rfl,SqT.of n8,rfl,_,_,rfl,_,_,rfl,rfl,?_⟩;refine⟨_,rfl,.inl ⟨rfl,_,SqL.of e8⟩,_,rfl,_,rfl,_,rfl,mr,_,rfl,hA8,λp1 H9 s9 e9=>?_⟩;rw[LC rfl,←Cv] at e9;refine⟨_,rfl,_,rfl,_,rfl,KB,λc1 hc1=>?_⟩;have s10:=Hz hc1 (.tup [V.str P1.2.1,eV N1.2.1,eV N1.2.2]);have e10:(Hr H9 c1 (.tup [V.str P1.2.1,eV N1.2.1,eV N1.2.2])) c1=some (.tup [V.str P1.2.1,eV N1.2.1,eV N1.2.2]):=Hu;generalize Hr H9 c1 (.tup [V.str P1.2.1,eV N1.2.1,eV N1.2.2])=H10 at*;refine⟨Kf,λc2 hc2=>?_⟩;have s11:=Hz hc2 (.tup [V.ref c1]);have e11:(Hr H10 c2 (.tup [V.ref c1])) c2=some (.tup [V.ref c1]):=Hu;generalize Hr H10 c2 (.tup [V.ref c1])=H11 at*;refine⟨p1,c2,_,_,rfl,rfl,s11 _ _ (s10 _ _ e9),e11,(by rw[Ab,AH];exact Jt (by simp;omega)),λd1 H12 s12 e12=>?_⟩;have t11:=s9.trans (s10.trans s11);refine⟨_,rfl,_,rfl,_,_,rfl,rfl,_,rfl,a,_,rfl,s12 _ _ (t11 _ _ hB8),λp2 H13 s13 e13=>?_⟩;rw[LB (n:=i+1) (by omega),←CI] at e13;refine⟨d1,p2,_,_,rfl,rfl,s13 _ _ e12,e13,(by rw[Aw,Ab,AH,Ab,BM];exact Jt (by simp;omega)),λd2 H14 s14 e14=>?_⟩;have t14:=t11.trans (s12.trans (s13.trans s14));have Mo:((ms.take i).map λp:Addr×WP=>V.ref p.1)++[V.ref c1]++(ws.drop (i+1)).map (λp:Addr×WP=>V.ref p.1)=(ms.take i++[((c1,P1.2.1,N1.2):Addr×WP)]++ws.drop (i+1)).map λp:Addr×WP=>V.ref p.1:=by simp
     rw[Mo] at e14;have W14:WishAt H14 d2 (m.take i++[(P1.2.1,N1.2)]++w'.drop (i+1)):=by
      refine⟨_,?_,e14,λy hy=>?_⟩
      · rw[Aj,Aj,Cv,hms,CI,hws];rfl
      · rcases Aq.mp hy with y1 | y1
        · rcases Aq.mp y1 with y2 | y2
          · exact t14 _ _ (t8 _ _ (t7.tups _ _ (t4 _ _ (s2 _ _ (hP y (BC y2))))))
          · rw[Af.mp y2];exact s14 _ _ (s13 _ _ (s12 _ _ (s11 _ _ e10)))
        · exact t14 _ _ (t8 _ _ (t7.tups _ _ (t4 _ _ (s2 _ _ (hR y (Cw y1))))))
     have f14:=t14 _ _ e8;refine⟨pr,_,_,rfl,rfl,f14,(by rw[Ab];exact II (by omega)),?_⟩;have tl:=K6 (o:= .lst (us8.map (λq=>V.ref q.1)++[V.ref d2])) f14;refine⟨⟨_,_,rfl⟩,K7 (s8.trans t14) np,(t8.trans t14.tups).trans tl,by rw[HD nr];exact t14 _ _ r8,us8++[(d2,m.take i++[(P1.2.1,N1.2)]++w'.drop (i+1))],by rw[Hu,Aj];rfl,?_,λy hy=>?_⟩
     · rw[Aj,u8,IW es,Aj,CW];rfl
     · rcases Aq.mp hy with y1 | y1
       · exact((v8 y y1).same t14).keep tl
       · rw[Af.mp y1];exact W14.keep tl
   · rintro σ H8 ⟨⟨y8',y9',rfl⟩,s8,t8,r8,us8,e8,u8,v8⟩;refine⟨⟨_,_,_,_,_,_,rfl⟩,s8,(t4.trans t7.tups).trans t8,us8,e8,?_,v8⟩;have et:ss.take (ss.map λx=>V.ref x.1).length=ss:=AL (by simp);rw[u8,et,List.range_succ,Go];congr 1;rw[Dr,List.flatMap_nil,Ej];unfold JV;rw[ewP,emP];show _=(JK P1.2.2 M1.2.2).map _;rw[←f7,BN];rfl
 · rintro σ H3 ⟨⟨y4,y5,y6,y7,y8,y9,rfl⟩,s3,t3,us,e3,u3,v3⟩;rw[Ab,lws] at u3;refine⟨_,rfl,q pr _ np s3 ?_ ?_⟩
   · rw[e1];exact⟨us,u3,e3,v3⟩
   · rw[e1];exact SM kw ko im ap h1
theorem Zm(F:Fun K "parts_beside" "parts_beside" NV f fd)(GS:Γ15 P w K mg base):FnOk P w K mg base HY 4 f fd ["wish","others"] (RB):=by
 refine F.ok Gz (λvs H Q E h=>?_) (λcdv A outer s H vs Q E hr h=>?_)
 · obtain⟨a,l,w',os,rfl,hw,kw,lw,hl,lo,lx,q⟩:=h;rfl
 obtain⟨a,l,w',os,rfl,hw,kw,lw,hl,lo,lx,q⟩:=h;refine⟨_,(Hy (HK (i:=2) Gz.nd rfl (Or.inl rfl) (IC (Hq (pv 0) Hs)))
  (Hy (Kl B_ rfl (JJ (pv 1)) (HJ (i:=3) Gz.nd rfl (Or.inr rfl)) (HB (WD (N':=["part","smaller","other"]) (js:=[none,none,some 3]) (i:=2) Gz.nd rfl (Or.inl rfl) rfl (I_ (N:=["wish","others","parts","other"]) (outer:=HI NV) (by decide+kernel)) (JJ (pv 2)) (λ_ _ _ _ _=>(HJ (i:=0) MU rfl (Or.inl rfl))) (λ_ _ _ _ _=>J7) (λ_ _ _ _ _=>(Wh K rfl (HG GS (hr.mono (by decide)) rfl (Hq (pv 0) (Hq (pv 2) Hs))))) (λ_ _ _ _ _=>(HJ (i:=1) MU rfl (Or.inl rfl))) (λ_ _ _ _ _=>J7) (λ_ _ _ _ _=>(pv 1)))))
  (HB (HN (pv 2))))),?_⟩
 refine⟨_,rfl,Kf,λr0 hr0=>?_⟩;have s1:=Hz hr0 (.lst [V.ref a]);have e1:(Hr H r0 (.lst [V.ref a])) r0=some (.lst [V.ref a]):=Hu;generalize Hr H r0 (.lst [V.ref a])=H1 at*;have hl1:=hl.same s1;refine⟨_,rfl,l,rfl,⟨_,SqL.of hl1.at'⟩,NE (K:=K) (a:=l) (xs:=os.map λx=>V.ref x.1) (λi σ H'=>(∃r y3,σ=[some (.ref a),some (.ref l),some (.ref r),y3]∧LO H' r (HR w' ((os.map (·.2)).take i)))∧Same H H'∧AllOk w' ((os.map (·.2)).take i) (HR w' ((os.map (·.2)).take i))) ⟨⟨r0,none,rfl,[(a,w')],rfl,e1,λx hx=>by rw[Af.mp hx];exact hw.same s1⟩,s1,all_nil kw⟩ (λi σ H' _ ⟨_,z,_⟩=>SqL.of (z _ _ hl.at')) ?_ ?_⟩
 · rintro i x σ H2 hx ⟨⟨r,y3,rfl,qs,q1,q2,q3⟩,s2,A2⟩;obtain⟨O1,ex,rfl⟩:=Io hx;have hm:=Am ex;have eo:(os.map (·.2))[i]?=some O1.2:=by rw[Ai,ex];rfl
   have li:i<7:=by have:=(Al.mp ex).1;omega
   have okq:∀x∈qs,WOk x.2∧x.2.length≤3:=λx hx=>by obtain⟨a1,a2⟩:=A2.ok x.2 (by rw[←q1];exact Ax hx);have:=congrArg AX a2;simp only[Ab] at this;exact⟨a1,by omega⟩
   have lq:qs.length≤7^7:=by have h1:=A2.len;rw[←q1,Ab,AH,Ab] at h1;exact AY h1 (Nat.pow_le_pow_right (by decide) (by omega))
   by_cases hb:∀x∈qs,OneOk x.2 O1.2 (one x.2 O1.2)
   · refine⟨_,rfl,r,rfl,⟨_,SqL.of q2⟩,λp hp=>?_⟩;refine WU (cap:=[some (.ref O1.1)]) qs (λp=>one p O1.2) (SqL.of q2) hp rfl (λx hx=>by have h1:=(hb x hx).len;have h2:=(okq x hx).2;omega) lq q3 (λx hx y H' R s' hR=>?_) (λu v H' R h=>⟨_,rfl,h⟩) λH3 zs s3 z1 z2 z3=>?_
     · refine⟨_,rfl,_,rfl,x.1,O1.1,x.2,O1.2,rfl,(q3 x hx).same s',(hl.ok O1 hm).1.same (s2.trans s'),(okq x hx).1,(hl.ok O1 hm).2,by have:=(okq x hx).2;omega,lx O1 hm,λrr H4 nr s4 ps ok=>?_⟩;obtain⟨rs,r1,r2,r3⟩:=ps;exact⟨rr,rfl,⟨_,SqL.of r2⟩,hR rr rs H4 nr s4 r2 r1 r3⟩
     · have e3:zs.map (·.2)=HR w' ((os.map (·.2)).take (i+1)):=by
        rw[z1,IW eo,SR,←q1,List.flatMap_map]
       refine⟨⟨p,_,rfl,zs,e3,z2,z3⟩,s2.trans s3,?_⟩;rw[IW eo,SR];refine Vc A2 lw λp hp=>?_;rw[←q1] at hp;obtain⟨x,hx,rfl⟩:=AN.mp hp;exact hb x hx
   · exact absurd (λx hx=>Wa (okq x hx).1 (hl.ok O1 hm).2) hb
 · rintro σ H2 ⟨⟨r,y3,rfl,P2⟩,s2,A2⟩;rw[Ab,AL (by simp)] at A2;rw[Ab,AL (by simp)] at P2;exact⟨_,rfl,q r _ s2 P2 A2⟩
theorem Zn(F:Fun K "piece_beside" "piece_beside" NW f fd)(GT:Γ16 P w K mg base)(GU:Γ4 P w K mg base):FnOk P w K mg base HY 5 f fd ["wish","others"] (To):=by
 refine F.ok G0 (λvs H Q E h=>?_) (λcdv A outer s H vs Q E hr h=>?_)
 · obtain⟨a,l,w',os,rfl,hw,kw,lw,hl,lo,lx,q⟩:=h;rfl
 obtain⟨a,l,w',os,rfl,hw,kw,lw,hl,lo,lx,q⟩:=h;refine⟨_,(Hy (HK (i:=2) G0.nd rfl (Or.inl rfl) (HG GT (hr.mono (by decide)) rfl (Hq (pv 0) (Hq (pv 1) Hs))))
  (Hy (HZ (Jj (Wk (pv 2) (λ_=>rfl))) (HB (HN Jy)) Ii)
  (HB (HN (Lm Ob rfl B.tuple_ Km (Hq (JO (N':=["field","low","high"]) (js:=[none,none,none]) rfl (I_ (N:=["wish","others","parts"]) (outer:=HI NW) (by decide+kernel)) (K5 (HV ID (pv 2) Hv (λ_ _=>rfl))) (λ_ _ _ _ _=>(Nw K rfl (n:=3) rfl (H_ (HJ (i:=0) JU rfl (Or.inl rfl)) (H_ (HJ (i:=1) JU rfl (Or.inl rfl)) (H_ (HJ (i:=2) JU rfl (Or.inl rfl)) Jk))))) (λ_ _ _ _ _=>J7) (λ_ _ _ _ _=>(Ij (Hq (pv 0) (Hq (HG GU (hr.mono (by decide)) rfl (Hq (Ij (Hq (pv 1) (Hq (pv 2) Hs))) Hs)) Hs))))) Hs)))))),?_⟩
 refine⟨_,rfl,_,rfl,a,l,w',os,rfl,hw,kw,lw,hl,lo,lx,λr H1 s1 P1 A1=>?_⟩;obtain⟨qs,q1,q2,q3⟩:=P1;have tr:LM K (.ref r) H1 (!(qs.map λx=>V.ref x.1).isEmpty):= .inl ⟨_,SqL.of q2,rfl⟩;cases qs with
 | nil=> refine⟨_,rfl,_,tr,Hw ?_⟩;refine q .non H1 s1 ?_ A1;rw[←q1];rfl
 | cons q0 qs=>
  refine⟨_,rfl,_,tr,Ht ?_⟩;have e0:HR w' (os.map (·.2))=q0.2::qs.map (·.2):=q1.symm;obtain⟨k0,f0⟩:=A1.ok q0.2 (by rw[e0];exact Az);obtain⟨ps,hps,hA,hP⟩:=q3 q0 Az;have lps:ps.length≤100:=by have:=k0.len;rw[←hps,Ab] at this;exact this
  refine⟨_,rfl,r,_,0,_,rfl,rfl,SqL.of q2,Oj,q0.1,rfl,⟨_,SqT.of hA⟩,λp hp=>?_⟩;refine Nt (xs:=ps.map λp=>V.ref p.1) (λj σ' ys H2=>(∃v1 v2 v3,σ'=[v1,v2,v3])∧Same H1 H2∧H2 p=some (.lst ys)∧∃ts:List (Addr×PP),ys=ts.map (λt=>V.ref t.1)∧ts.map (·.2)=Jl ((ps.map (·.2)).take j)∧∀t∈ts,H2 t.1=some (.tup [.str t.2.1,.int t.2.2])) ⟨⟨none,none,none,rfl⟩,Hz hp _,Hu,[],rfl,rfl,λt ht=>by simp at ht⟩ ?_ ?_ ?_
  · rintro j σ' ys H2 hj ⟨_,s2,h1,ts,rfl,h3,_⟩;refine⟨s2.seqT (SqT.of hA),h1,?_⟩;have:=congrArg AX h3;unfold Jl at this;rw[Ab,Ab,AH,Ab] at this;rw[Ab];exact II (by omega)
  · rintro j y σ' ys H2 N hy ⟨⟨v1,v2,v3,rfl⟩,s2,h1,ts,rfl,h3,h4⟩ hN;obtain⟨P2,e2,rfl⟩:=Io hy;have hm2:=Am e2;have ep:(ps.map (·.2))[j]?=some P2.2:=by rw[Ai,e2];rfl
    refine⟨P2.1,_,rfl,SqT.of (s2 _ _ (hP P2 hm2)),rfl,_,_,rfl,_,_,rfl,_,_,rfl,rfl,?_⟩;refine⟨_,rfl,_,rfl,_,rfl,Iv,λu hu=>?_⟩;have su:=Hz hu (.tup [eV P2.2.2.1,eV P2.2.2.2]);have eu:(Hr H2 u (.tup [eV P2.2.2.1,eV P2.2.2.2])) u=some (.tup [eV P2.2.2.1,eV P2.2.2.2]):=Hu;generalize Hr H2 u (.tup [eV P2.2.2.1,eV P2.2.2.2])=H3 at*;refine⟨.ref u,P2.2.2.1,P2.2.2.2,rfl,⟨u,rfl,eu⟩,Iv,λt ht=>?_⟩;have st:=Hz ht (.tup [V.str P2.2.1,V.int (Ly P2.2.2.1 P2.2.2.2)]);have s5:=su.trans st;have h5:=s5 _ _ h1;have tl:=K6 (o:= .lst (ts.map (λq=>V.ref q.1)++[V.ref t])) h5;refine⟨h5,hN _ _ _ ⟨⟨_,_,_,rfl⟩,K7 (s2.trans s5) hp,Hu,ts++[(t,P2.2.1,Ly P2.2.2.1 P2.2.2.2)],?_,?_,?_⟩⟩
    · rw[Aj];rfl
    · rw[Aj,h3,IW ep];unfold Jl;rw[Aj];rfl
    · intro q hq;rcases Aq.mp hq with z | z
      · exact tl _ _ (s5 _ _ (h4 q z))
      · rw[Af.mp z];exact tl _ _ Hu
  · rintro σ' ys H2 ⟨_,s2,h1,ts,rfl,h3,h4⟩;rw[Ab,AL (by simp),hps] at h3;refine⟨p,_,rfl,.inl ⟨SqL.of h1,λt ht=>?_⟩⟩;have s3:=Hz ht (.tup (ts.map λt=>V.ref t.1));refine q _ _ (s1.trans (s2.trans s3)) ?_ A1;rw[e0];exact⟨t,rfl,ts,h3,Hu,λx hx=>s3 _ _ (h4 x hx)⟩
theorem Yy(F:Fun K "fields_of" "fields_of" NI f fd)  :FnOk P w K mg base HY 1 f fd ["wishes"] (Ta):=by
 refine F.ok Y_ (λvs H Q E h=>?_) (λcdv A outer s H vs Q E hr h=>?_)
 · obtain⟨l,ws,fs,rfl,hw,lf,hin,q⟩:=h;rfl
 obtain⟨l,ws,fs,rfl,hw,lf,hin,q⟩:=h;refine⟨_,(HB (HN (Xl (N':=["wish","field","low","high"]) (js:=[none,none,none,none]) rfl B.sorted_ rfl (I_ (N:=["wishes"]) (outer:=HI NI) (by decide+kernel)) (JJ (pv 0)) (λ_ _ _ _ _=>(HJ (i:=0) KO rfl (Or.inl rfl))) (λ_ _ _ _ _=>J7) (λ_ _ _ _ _=>(V8 K rfl (pv 0))) (λ_ _ _ _ _=>(Nw K rfl (n:=3) rfl (H_ (HJ (i:=1) KO rfl (Or.inl rfl)) (H_ (HJ (i:=2) KO rfl (Or.inl rfl)) (H_ (HJ (i:=3) KO rfl (Or.inl rfl)) Jk))))) (λ_ _ _ _ _=>J7) (λ_ _ _ _ _=>(pv 1))))),?_⟩;refine⟨_,rfl,l,rfl,⟨_,SqL.of hw.at'⟩,?_⟩;refine Xq ws fs (SqL.of hw.at') (λx hx=>(hw.ok x hx).1) hin lf rfl (λx hx y1 y2 y3 R h1 h2=>⟨_,rfl,x.1,rfl,h1,h2⟩) (λx0 y1 y2 y3 p R h1 h2=>⟨p.1,_,rfl,SqT.of h1,rfl,_,_,rfl,_,_,rfl,_,_,rfl,rfl,h2⟩) (λx0 y2 y3 f R h=>⟨_,rfl,h⟩) λks nd l6 mem=>?_;exact⟨by omega,λp ms mp mn so hp=>q p ms _ (Hz hp _) hp Hu mn so λf=>(mp.mem_iff).trans (mem f)⟩
theorem Yx(F:Fun K "check_few" "check_few" P6 f fd)  :FnOk P w K mg base HY 1 f fd ["wishes","fields"] (Q7):=by
 refine F.ok YZ (λvs H Q E h=>?_) (λcdv A outer s H vs Q E hr h=>?_)
 · obtain⟨l,f',xs,ys,rfl,hl,hf,lx,ly,q⟩:=h;rfl
 obtain⟨l,f',xs,ys,rfl,hl,hf,lx,ly,q⟩:=h;refine⟨_,(Hy (HZ (Il Lb (HP IF rfl B.len_ I0 (Hq (pv 0) Hs)) (OI (v:= .int 7) rfl qMW' ⟨_,rfl⟩) (Ie _)) (HB NB) Ii)
  (HB (HZ (Il Lb (HP IF rfl B.len_ I0 (Hq (pv 1) Hs)) (OI (v:= .int 3) rfl qMF' ⟨_,rfl⟩) (Ie _)) (HB NB) Ii))),?_⟩
 refine⟨_,rfl,l,_,rfl,.inl (SqL.of hl),_,_,rfl,rfl,_,rfl,HS (λh=>absurd (of_decide_eq_true h) (by omega)) (λ_=>?_)⟩;exact⟨_,rfl,f',_,rfl,.inl (SqL.of hf),_,_,rfl,rfl,_,rfl,HS (λh=>absurd (of_decide_eq_true h) (by omega)) (λ_=>q)⟩
theorem Zx(F:Fun K "uncovered_piece" "uncovered_piece" P9 f fd)(GV:Γ9 P w K mg base)(GW:Γ11 P w K mg base)(GX:Γ19 P w K mg base)(GY:Γ17 P w K mg base)(GZ:Γ18 P w K mg base):FnOk P w K mg base HY 8 f fd ["wish","wishes"] (SU):=by
 refine F.ok Zy (λvs H Q E h=>?_) (λcdv A outer s H vs Q E hr h=>?_)
 · obtain⟨a,l,w',os,fs,rfl,hw,kw,hl,lo,lf,i1,i2,q⟩:=h;rfl
 obtain⟨a,l,w',os,fs,rfl,hw,kw,hl,lo,lf,i1,i2,q⟩:=h;refine⟨_,(Hy (KE (HG GV (hr.mono (by decide)) rfl (Hq (pv 0) Hs)))
  (Hy (KE (HG GW (hr.mono (by decide)) rfl (Hq (pv 1) Hs)))
  (Hy (KE (HG GX (hr.mono (by decide)) rfl (Hq (pv 1) (Hq (HG GZ (hr.mono (by decide)) rfl (Hq (HC Li (pv 1) (IC (Hq (pv 0) Hs))) Hs)) Hs))))
  (HB (HN (HG GY (hr.mono (by decide)) rfl (Hq (pv 0) (Hq (pv 1) Hs)))))))),?_⟩
 refine⟨_,rfl,a,w',rfl,hw,kw,λH1 s1=>?_⟩;have hl1:=hl.same s1;refine⟨_,rfl,l,os,rfl,hl1,λH2 s2=>?_⟩;have hl2:=hl1.same s2;have hw2:=hw.same (s1.trans s2);refine⟨_,rfl,_,rfl,_,rfl,Kf,λp hp=>?_⟩;have s3:=Hz hp (.lst [V.ref a]);have e3:(Hr H2 p (.lst [V.ref a])) p=some (.lst [V.ref a]):=Hu;generalize Hr H2 p (.lst [V.ref a])=H3 at*;have hl3:=hl2.same s3;refine⟨l,p,_,_,rfl,rfl,hl3.at',e3,by rw[Ab];exact Jt (by simp;omega),λc hc=>?_⟩;have s4:=Hz hc (.lst (os.map (λx=>V.ref x.1)++[V.ref a]));have e4:(Hr H3 c (.lst (os.map (λx=>V.ref x.1)++[V.ref a]))) c=some (.lst (os.map (λx=>V.ref x.1)++[V.ref a])):=Hu;generalize Hr H3 c (.lst (os.map (λx=>V.ref x.1)++[V.ref a]))=H4 at*;have t4:=s1.trans (s2.trans (s3.trans s4));have W4:WsAt H4 c (os++[(a,w')]):=by
  refine⟨by rw[e4,Aj];rfl,λx hx=>?_,by rw[Aw];simp;omega⟩;rcases Aq.mp hx with z | z
  · exact⟨(hl.ok x z).1.same t4,(hl.ok x z).2⟩
  · rw[Af.mp z];exact⟨hw.same t4,kw⟩
 refine⟨c,_,fs,rfl,W4,by omega,λx hx=>?_,λr ms H5 s5 nr e5 nd so mem=>?_⟩
 · rcases Aq.mp hx with z | z
   · exact i2 x z
   · rw[Af.mp z];exact i1
 have t5:=t4.trans s5;have lm:ms.length≤fs.length:=N6 nd λf hf'=>by
  obtain⟨x,hx,hf2⟩:=(mem f).mp hf';obtain⟨p',hp',rfl⟩:=AN.mp hf2;rcases Aq.mp hx with z | z
  · exact i2 x z p' hp'
  · rw[Af.mp z] at hp';exact i1 p' hp'
 refine⟨l,r,_,_,rfl,(hl.same t5).at',e5,by rw[Ab];exact lo,by rw[Ab];omega,?_⟩;refine⟨_,rfl,_,rfl,a,l,w',os,rfl,hw.same t5,kw,AY (Rz kw i1) lf,hl.same t5,lo,λx hx=>AY (Rz (hl.ok x hx).2 (i2 x hx)) (by omega),λv H6 s6 T6 A6=>q v H6 (t5.trans s6) T6 A6⟩
theorem YG(F:Fun K "_law_well" "_law_well" MH f fd)  :FnOk P w K mg base HY 1 f fd ["script"] (Rc K):=by
 refine F.ok G1 (λvs H Q E h=>?_) (λcdv A outer s H vs Q E hr h=>?_)
 · obtain⟨a,ns,rfl,hS,h63,q⟩:=h;rfl
 obtain⟨a,ns,rfl,hS,h63,q⟩:=h;refine⟨_,(Hy (M6 (N':=["cell"]) (js:=[none]) (i:=1) G1.nd rfl (Or.inl rfl) rfl (I_ (N:=["script","great","small","seed","number"]) (outer:=HI MH) (by decide+kernel)) (JJ (IQ Lk (pv 0) IN (IP Hv))) (λ_ _ _ _ _=>(HJ (i:=0) MT rfl (Or.inl rfl))) (λ_ _ _ _ _=>L6 (Il Ub (HP OU rfl B.abs_ Ow (Hq (pv 0) Hs)) (HC L7 Hv Hv) (Ie _))) (λ_ _ _ _ _=>(HC K3 (HP OU rfl B.abs_ Ow (Hq (pv 0) Hs)) (HC L_ (HC L7 Hv Hv) (HC L7 Hv Hv)))))
  (Hy (M6 (N':=["cell"]) (js:=[none]) (i:=2) G1.nd rfl (Or.inl rfl) rfl (I_ (N:=["script","great","small","seed","number"]) (outer:=HI MH) (by decide+kernel)) (JJ (IQ Lk (pv 0) IN (IP Hv))) (λ_ _ _ _ _=>(HJ (i:=0) MT rfl (Or.inl rfl))) (λ_ _ _ _ _=>L6 (Il Lz (HP OU rfl B.abs_ Ow (Hq (pv 0) Hs)) (HC L7 Hv Hv) (Ie _))) (λ_ _ _ _ _=>(HC K3 (pv 0) Hv)))
  (Hy (HK (i:=3) G1.nd rfl (Or.inl rfl) (HC Ix Hv (HP IF rfl B.len_ I0 (Hq (pv 2) Hs))))
  (Hy (Kl B_ rfl (JJ (pv 2)) (HJ (i:=4) G1.nd rfl (Or.inl rfl)) (HB (HK (i:=3) G1.nd rfl (Or.inl rfl) (HC K3 (HC Ix (HC Ix (HC L_ (pv 3) Hv) (HC L_ (pv 4) Hv)) Hv) Hv))))
  (HB (HN (IC (Hq (pv 1) (Hq (pv 2) (Hq (pv 3) (Hq Hv Hs))))))))))),?_⟩
 have cut:Iq (ns.map V.int) none (some 63)=ns.map V.int:=by unfold Iq;rw[show HT.sIx (ns.map V.int).length 0 none=0 from rfl,show HT.sIx (ns.map V.int).length (ns.map V.int).length (some 63)=min 63 (ns.map V.int).length from HT.sIx_nat _ _ 63];rw[E3];exact AL (by rw[Ab];omega)
 have m60:Q2 (10^(60:Int).toNat) (10^(60:Int).toNat):=⟨by decide,by decide⟩;refine⟨_,rfl,_,rfl,a,_,rfl,hS,λp1 hp1=>⟨p1,rfl,⟨_,SqL.of Hu⟩,λp hp=>?_⟩⟩;refine R4 (cap:=[]) ns (λn=>(if n<0 then -n else n)%(10^(60:Int).toNat*10^(60:Int).toNat)) (λn=>decide ((10:Int)^(18:Int).toNat≤(if n<0 then -n else n))) (by omega) (SqL.of (by rw[Hu,cut])) hp ?_ ?_ ?_ ?_
 · rfl
 · exact λn H' R s r=>⟨_,rfl,_,rfl,_,_,rfl,rfl,JT (by decide) (by decide),_,_,rfl,rfl,_,rfl,r⟩
 · exact λn H' R s r=>⟨_,rfl,_,rfl,_,_,rfl,rfl,JT (by decide) (by decide),_,_,rfl,rfl,JT (by decide) (by decide),_,_,rfl,rfl,m60,_,_,rfl,rfl,(by show(0:Int)<10^(60:Int).toNat*10^(60:Int).toNat;decide),r⟩
 intro H1 s1 h1;have t1:Same H H1:=(Hz hp1 _).trans s1;have pn1:H p=none:=(Hz hp1 _).free hp;refine⟨_,rfl,_,rfl,a,_,rfl,t1.seq hS,λp2 hp2=>⟨p2,rfl,⟨_,SqL.of Hu⟩,λp' hp'=>?_⟩⟩;refine R4 (cap:=[]) ns (λn=>n%2147483563) (λn=>decide ((if n<0 then -n else n)<(10:Int)^(18:Int).toNat)) (by omega) (SqL.of (by rw[Hu,cut])) hp' ?_ ?_ ?_ ?_
 · rfl
 · exact λn H' R s r=>⟨_,rfl,_,rfl,_,_,rfl,rfl,JT (by decide) (by decide),_,_,rfl,rfl,_,rfl,r⟩
 · exact λn H' R s r=>⟨_,rfl,_,_,rfl,rfl,(by show(0:Int)<2147483563;decide),r⟩
 intro H2 s2 h2;have t12:Same H1 H2:=(Hz hp2 _).trans s2;have t2:Same H H2:=t1.trans t12;have g2:=t12 _ _ h1;have n2:H1 p'=none:=(Hz hp2 _).free hp';have lb:∀x∈(ns.filter λn=>decide ((if n<0 then -n else n)<(10:Int)^(18:Int).toNat)).map (λn=>n%2147483563),0≤x∧x<wM:=λx hx=>by obtain⟨y,_,rfl⟩:=AN.mp hx;exact⟨Cj _ (by decide),BR _ (by decide)⟩
 have ll:=Cn (λn=>decide ((if n<0 then -n else n)<(10:Int)^(18:Int).toNat)) ns
 have gg:=Cn (λn=>decide ((10:Int)^(18:Int).toNat≤(if n<0 then -n else n))) ns
 generalize hls:(ns.filter λn=>decide ((if n<0 then -n else n)<(10:Int)^(18:Int).toNat)).map (λn=>n%2147483563)=ls at*
 have lz:ls.length≤63:=by rw[←hls,Ab];omega
 generalize hgs:(ns.filter λn=>decide ((10:Int)^(18:Int).toNat≤(if n<0 then -n else n))).map (λn=>(if n<0 then -n else n)%(10^(60:Int).toNat*10^(60:Int).toNat))=gs at*
 have gz:gs.length≤63:=by rw[←hgs,Ab];omega
 refine⟨_,rfl,p',_,rfl,.inl (SqL.of h2),_,_,rfl,rfl,?_⟩;refine⟨_,rfl,p',rfl,⟨_,SqL.of h2⟩,NE (K:=K) (a:=p') (xs:=ls.map V.int) (λi σ H'=>∃(st:Int)(x4:Option V),σ=[some (.ref a),some (.ref p),some (.ref p'),some (.int st),x4]∧H'=H2∧0≤st∧st<wM) ⟨_,none,rfl,rfl,by omega,by rw[Ab];unfold wM;omega⟩ (λi σ H' _ ⟨_,_,_,e,_⟩=>by rw[e];exact SqL.of h2) ?_ ?_⟩
 · rintro i x σ H' hx ⟨st,x4,rfl,rfl,z0,z1⟩;rw[Ai] at hx;cases hn:ls[i]? with
   | none=>rw[hn] at hx;cases hx
   | some y=> rw[hn] at hx;obtain rfl:V.int y=x:=A5 hx;obtain⟨y0,y1⟩:=lb y (Am hn);have sm:∀z:Int,z.natAbs<2^100→z.natAbs<2^1000:=λz h=>AD h (by decide);refine⟨_,rfl,_,_,rfl,rfl,⟨sm _ (by unfold wM at z1;omega),by decide⟩,_,rfl,_,_,rfl,rfl,⟨sm _ (by unfold wM at y1;omega),by decide⟩,_,_,rfl,rfl,_,_,rfl,rfl,_,_,rfl,rfl,(by show(0:Int)<2147483563;decide),_,_,rfl,rfl,Cj _ (by decide),BR _ (by decide)⟩
 · rintro σ H' ⟨st,x4,rfl,rfl,z0,z1⟩;refine⟨_,rfl,_,rfl,_,rfl,Q0,λp5 hp5=>?_⟩;have s5:=Hz hp5 (.lst [V.ref p,V.ref p',V.int st,V.int 0]);exact q p5 p p' _ ⟨⟨gs,ls,st,0,Hu,s5 _ _ g2,s5 _ _ h2,gz,lz,lb,z0,z1,by decide,by decide⟩,IT h1 n2,(IT g2 hp5).symm,(IT h2 hp5).symm⟩ (t2.trans s5) (t2.free hp5) pn1
theorem YF(F:Fun K "_law_take" "_law_take" Pk f fd)  :FnOk P w K mg base HY 1 f fd ["well","many"] (Rb):=by
 refine F.ok G2 (λvs H Q E h=>?_) (λcdv A outer s H vs Q E hr h=>?_)
 · obtain⟨b,g,l,n,many,rfl,Bg,hn,hm,hm2,q⟩:=h;rfl
 obtain⟨b,g,l,n,many,rfl,Bg,hn,hm,hm2,q⟩:=h;refine⟨_,(Hy (HZ (Il (QQ (Me hr)) (HV ID (pv 0) Hv (λ_ _=>rfl)) (IC Hs) (Ie _)) (Hy (HK (i:=2) G2.nd rfl (Or.inl rfl) (HV ID (HV ID (pv 0) Hv (λ_ _=>rfl)) Hv (λ_ _=>rfl)))
  (Hy (JQ (HC RI (pv 2) (pv 1)) (Ox (HV ID (pv 0) Hv (λ_ _=>rfl)) Hv OT))
  (Hy (HZ (Il Lz (pv 2) (pv 1) (Ie _)) (HB (KE (Ld Cb FO FP Se (HV ID (pv 0) Hv (λ_ _=>rfl)) (Hq Hv Hs)))) Ii)
  (HB (HN (HC K3 (pv 2) (pv 1))))))) Ii)
  (Hy (JQ (HC Ix (HV ID (pv 0) Hv (λ_ _=>rfl)) Hv) (Ox (pv 0) Hv OT))
  (Hy (HK (i:=3) G2.nd rfl (Or.inl rfl) Hv)
  (Hy (HZ (Il (QQ (Me hr)) (HV ID (pv 0) Hv (λ_ _=>rfl)) (IC Hs) (Ie _)) (HB (HK (i:=3) G2.nd rfl (Or.inl rfl) (HC Ix (HV ID (HV ID (pv 0) Hv (λ_ _=>rfl)) (HC K3 (HV ID (pv 0) Hv (λ_ _=>rfl)) (HP IF rfl B.len_ I0 (Hq (HV ID (pv 0) Hv (λ_ _=>rfl)) Hs))) (λ_ _=>rfl)) Hv))) Ii)
  (Hy (HK (i:=2) G2.nd rfl (Or.inl rfl) (HC K3 (HC L7 (HC Ix (HV ID (pv 0) Hv (λ_ _=>rfl)) (HC L_ (pv 3) (HC Ix (HC L_ (HV ID (pv 0) Hv (λ_ _=>rfl)) Hv) Hv))) Hv) Hv))
  (Hy (JQ (HC K3 (HC Ix (HC Ix (HC L_ (HV ID (pv 0) Hv (λ_ _=>rfl)) Hv) (pv 2)) (HV ID (pv 0) Hv (λ_ _=>rfl))) Hv) (Ox (pv 0) Hv OT))
  (HB (HN (HC K3 (HC RI (pv 2) Hv) (pv 1)))))))))),?_⟩
 obtain⟨gs,ls,sd,c,e1,e2,e3,z1,z2,z4,z5,z6,z7,z8⟩:=id Bg.ex;refine⟨_,rfl,b,_,0,_,rfl,rfl,SqL.of e1,rfl,KM,λp hp=>?_⟩;have s1:=Hz hp (.lst []);have B2:=Bg.same s1;have e1':=s1 _ _ e1;have e2':=s1 _ _ e2;have e3':=s1 _ _ e3;refine QC (SqL.of e2') (SqL.of Hu) ⟨_,rfl,?_⟩;generalize Hr H p (.lst [])=H2 at*;have S2:SameB b g H H2:=s1.sameB;clear s1;have bg:=Bg.bg;have bl:=Bg.bl;have gl:=Bg.gl;cases gs with
 | cons x r=>
  refine Hw ?_;refine⟨_,rfl,b,_,0,_,rfl,rfl,SqL.of e1',rfl,g,_,0,_,rfl,rfl,SqL.of e2',Oj,?_⟩;refine⟨_,rfl,_,rfl,_,_,rfl,rfl,⟨hm,Int.lt_of_lt_of_le hm2 (by decide)⟩,_,rfl,b,_,0,_,rfl,rfl,SqL.of e1',rfl,g,_,0,0,rfl,rfl,e2',TK,?_⟩;have f2:(Hr H2 g (.lst (((x::r).map V.int).set 0 (V.int (x / many))))) g=some (.lst (((x / many)::r).map V.int)):=Hu;have f1:(Hr H2 g (.lst (((x::r).map V.int).set 0 (V.int (x / many))))) b=some (.lst [V.ref g,V.ref l,V.int sd,V.int c]):=by rw[HD bg];exact e1'
  have f3:(Hr H2 g (.lst (((x::r).map V.int).set 0 (V.int (x / many))))) l=some (.lst (ls.map V.int)):=by rw[HD (BK gl)];exact e3'
  have S3:SameB b g H (Hr H2 g (.lst (((x::r).map V.int).set 0 (V.int (x / many))))):=λa o h1 h2 h3=>by rw[HD h3];exact S2 a o h1 h2 h3
  dsimp only;generalize Hr H2 g (.lst (((x::r).map V.int).set 0 (V.int (x / many))))=H3 at*;refine⟨_,rfl,_,rfl,_,_,rfl,rfl,_,rfl,HS (λ_=>?_) (λ_=>?_)⟩
  · refine⟨_,rfl,b,_,0,_,rfl,rfl,SqL.of f1,rfl,.inl ⟨rfl,_,SqL.of f2⟩,g,_,0,0,_,rfl,rfl,f2,by decide,by decide,(O5 (TK (x:=V.int (x / many)) (r:=r.map V.int))).1,rfl,?_⟩;refine⟨_,rfl,_,rfl,_,_,rfl,rfl,hm,q _ _ (Cj _ (by omega)) (BR _ hm) ⟨⟨r,ls,sd,c,?_,Hu,?_,by simp only[AF] at z1;omega,z2,z4,z5,z6,z7,by omega⟩,gl,bg,bl⟩ ?_⟩
    · rw[HD bg];exact f1
    · rw[HD (BK gl)];exact f3
    · intro a o h1 h2 h3;rw[HD h3];exact S3 a o h1 h2 h3
  · exact⟨_,rfl,_,rfl,_,_,rfl,rfl,hm,q _ _ (Cj _ (by omega)) (BR _ hm) ⟨⟨x / many::r,ls,sd,c,f1,f2,f3,by simp only[AF] at z1 ⊢;omega,z2,z4,z5,z6,z7,by omega⟩,gl,bg,bl⟩ S3⟩
 | nil=>
  refine Ht ?_;refine⟨_,rfl,b,_,3,_,rfl,rfl,SqL.of e1',rfl,_,_,rfl,rfl,_,rfl,b,_,3,3,rfl,rfl,e1',rfl,?_⟩;have f1:(Hr H2 b (.lst ([V.ref g,V.ref l,V.int sd,V.int c].set 3 (V.int (c+1))))) b=some (.lst [V.ref g,V.ref l,V.int sd,V.int (c+1)]):=Hu;have f2:(Hr H2 b (.lst ([V.ref g,V.ref l,V.int sd,V.int c].set 3 (V.int (c+1))))) g=some (.lst []):=by rw[HD (BK bg)];exact e2'
  have f3:(Hr H2 b (.lst ([V.ref g,V.ref l,V.int sd,V.int c].set 3 (V.int (c+1))))) l=some (.lst (ls.map V.int)):=by rw[HD (BK bl)];exact e3'
  have S3:SameB b g H (Hr H2 b (.lst ([V.ref g,V.ref l,V.int sd,V.int c].set 3 (V.int (c+1))))):=λa o h1 h2 h3=>by rw[HD h2];exact S2 a o h1 h2 h3
  dsimp only;generalize Hr H2 b (.lst ([V.ref g,V.ref l,V.int sd,V.int c].set 3 (V.int (c+1))))=H3 at*;have c1:0≤c+1:=by omega
  have c2:c+1≤2^41:=by omega
  refine Kp ?_;dsimp only;refine JL (λσ' H'=>∃(cell:Int),σ'=[some (.ref b),some (.int many),none,some (.int cell)]∧1≤cell∧cell≤wM∧H' b=some (.lst [V.ref g,V.ref l,V.int sd,V.int (c+1)])∧H' g=some (.lst [])∧H' l=some (.lst (ls.map V.int))∧SameB b g H H') (λZ hZ=>?_) ?_
  · refine⟨_,rfl,b,_,1,_,rfl,rfl,SqL.of f1,rfl,KM,λp4 hp4=>?_⟩;have s4:=Hz hp4 (.lst []);have k1:=s4 _ _ f1;have k2:=s4 _ _ f2;have k3:=s4 _ _ f3;have S4:=S3.trans s4.sameB;refine QC (SqL.of k3) (SqL.of Hu) ⟨_,rfl,?_⟩;generalize Hr H3 p4 (.lst [])=H4 at*;cases ls with
    | nil=>exact Ht (hZ _ _ ⟨1,rfl,by decide,by decide,k1,k2,k3,S4⟩)
    | cons y ys=>
     refine Hw ?_;have lpos:(0:Int)<(((y::ys).map V.int).length:Int):=by rw[Ab,AF];omega
     have i0:=Cj (c+1) (Int.ne_of_gt lpos);have i1:=BR (c+1) lpos;obtain⟨v,hv,hvm⟩:=Uq (ls:=y::ys) i0 (by rw[Ab] at i1 ⊢;exact i1);obtain⟨v0,v1⟩:=z4 v hvm;refine⟨_,rfl,b,_,1,_,rfl,rfl,SqL.of k1,rfl,_,rfl,b,_,3,_,rfl,rfl,SqL.of k1,rfl,_,rfl,b,_,1,_,rfl,rfl,SqL.of k1,rfl,l,_,rfl,.inl (SqL.of k3),_,_,rfl,rfl,lpos,l,_,_,_,rfl,rfl,SqL.of k3,hv,_,_,rfl,rfl,?_⟩;exact hZ _ _ ⟨v+1,rfl,by omega,by omega,k1,k2,k3,S4⟩
  rintro σ' H4 ⟨cell,rfl,l0,l1,k1,k2,k3,S4⟩;have sm:∀z:Int,z.natAbs<2^900→z.natAbs<2^1000:=λz h=>AD h (by decide);have b3:(c+1).natAbs<2^900:=Cp (show(c+1).natAbs≤2^41 by omega) (by decide);have b4:((c+1)*3163+1).natAbs<2^900:=Cp (show((c+1)*3163+1).natAbs≤2^60 by omega) (by decide);have b5:cell.natAbs<2^900:=Cp (show cell.natAbs≤2^60 by unfold wM at l1;omega) (by decide);have big:(sd+cell*((c+1)*3163+1)).natAbs<2^1000:=by
   have a5:cell*((c+1)*3163+1)≤2^60*2^60:=Int.mul_le_mul (by unfold wM at l1;omega) (by omega) (by omega) (by decide);have a6:0≤cell*((c+1)*3163+1):=Int.mul_nonneg (by omega) (by omega);generalize cell*((c+1)*3163+1)=y at*;have a8:(sd+y).natAbs<2^125:=by unfold wM at z6;omega
   exact AD a8 (by decide)
  refine⟨_,rfl,b,_,2,_,rfl,rfl,SqL.of k1,rfl,_,rfl,_,rfl,b,_,3,_,rfl,rfl,SqL.of k1,rfl,_,_,rfl,rfl,⟨sm _ b3,by decide⟩,_,_,rfl,rfl,_,_,rfl,rfl,⟨sm _ b5,sm _ b4⟩,_,_,rfl,rfl,_,_,rfl,rfl,⟨by decide,by decide,big⟩,_,_,rfl,rfl,(by show(0:Int)<2147483563;decide),?_⟩;dsimp only;generalize(sd+cell*((c+1)*3163+1))^(5:Int).toNat=y;have y0:=Cj y (show(2147483563:Int)≠0 by decide);have y1:=BR y (show(0:Int)<2147483563 by decide);generalize y%2147483563=u at*;have b6:sd.natAbs<2^1000:=sm _ (Cp (show sd.natAbs≤2^60 by unfold wM at z6;omega) (by decide));refine⟨_,rfl,b,_,2,_,rfl,rfl,SqL.of k1,rfl,_,_,rfl,rfl,⟨b6,by decide⟩,_,rfl,_,_,rfl,rfl,_,rfl,b,_,3,_,rfl,rfl,SqL.of k1,rfl,_,_,rfl,rfl,_,_,rfl,rfl,(by show(0:Int)<2147483563;decide),?_⟩;refine⟨_,rfl,b,_,2,2,rfl,rfl,k1,rfl,?_⟩;dsimp only;generalize sd*40692+u+(c+1)=v;have v0:=Cj v (show(2147483563:Int)≠0 by decide);have v1:=BR v (show(0:Int)<2147483563 by decide);generalize v%2147483563=t at*;refine⟨_,rfl,_,_,rfl,rfl,⟨by decide,by decide⟩,_,rfl,_,_,rfl,rfl,hm,?_⟩;refine q _ _ (Cj _ (by omega)) (BR _ hm) ⟨⟨[],ls,t,c+1,Hu,?_,?_,by simp,z2,z4,v0,v1,c1,by omega⟩,gl,bg,bl⟩ ?_
  · rw[HD (BK bg)];exact k2
  · rw[HD (BK bl)];exact k3
  · intro a o h1 h2 h3;rw[HD h2];exact S4 a o h1 h2 h3
theorem Yn(F:Fun K "_law_name" "_law_name" NR f fd)(G_:Γ22 P w K mg base):FnOk P w K mg base HY 2 f fd ["well","most"] (Ra):=by
 refine F.ok G3 (λvs H Q E h=>?_) (λcdv A outer s H vs Q E hr h=>?_)
 · obtain⟨b,g,l,n,most,rfl,Bg,hn,m1,m8,q⟩:=h;rfl
 obtain⟨b,g,l,n,most,rfl,Bg,hn,m1,m8,q⟩:=h;refine⟨_,(Hy (HK (i:=2) G3.nd rfl (Or.inr rfl) L4)
  (HB (HN (Ld PySem.F.plainAttrs_str PySem.F.slot_str_join PySem.F.type_str_join V5 L4 (Hq (JO (N':=["k","well","letters"]) (js:=[none,some 0,some 2]) rfl (I_ (N:=["well","most","letters"]) (outer:=HI NR) (by decide+kernel)) (Mj rfl B.range_ (Hq (HC Ix Hv (HG G_ (hr.mono (by decide)) rfl (Hq (pv 0) (Hq (pv 1) Hs)))) Hs)) (λ_ _ _ _ _=>(HJ (i:=0) Nb rfl (Or.inl rfl))) (λ_ _ _ _ _=>J7) (λ_ _ _ _ _=>(HV QN (pv 2) (HG G_ (hr.mono (by decide)) rfl (Hq (pv 1) (Hq Hv Hs))) (λ_ _=>rfl)))) Hs))))),?_⟩
 refine Kp ?_;refine⟨rfl,_,rfl,_,rfl,b,g,l,n,most,rfl,Bg,by omega,by omega,JW (by omega),λr H2 r0 r1 B2 S2=>?_⟩;refine⟨_,_,rfl,rfl,_,rfl,by omega,by omega,λp hp=>?_⟩;obtain⟨pb,pg,pl⟩:=B2.free hp;have s3:=Hz hp (.lst []);have np:H p=none:=B2.back S2 p hp;refine NF (n:=(1+r).toNat) (λi σ' ys H'=>(∃v,σ'=[v,some (.ref b),some (.str "abcdefghijklmnopqrstuvwxyz")])∧SameB b g H H'∧Well H' b g l (n+1+i)∧H' p=some (.lst ys)∧∃cs:List Nat,ys=(cs.map λc=>(⟨#[c]⟩:Str)).map V.str∧cs.length=i∧∀c∈cs,KI c=true) ?_ ?_ ?_ ?_
 · exact⟨⟨none,rfl⟩,S2.trans s3.sameB,(B2.same s3).mono (by omega),Hu,[],rfl,rfl,λc hc=>by simp at hc⟩
 · rintro i σ' ys H' hi ⟨_,_,_,h1,cs,rfl,h2,_⟩;exact⟨h1,by rw[Ab,Ab,h2];exact II (by omega)⟩
 · rintro i σ' ys H4 N hi ⟨⟨v,rfl⟩,S4,B4,h1,cs,rfl,h2,h3⟩ hN;refine⟨_,rfl,_,rfl,b,g,l,_,26,rfl,B4,by omega,by decide,by decide,λk H5 k0 k1 B5 S5=>?_⟩;obtain⟨c,hc,ok⟩:=QF k0 k1;have h5:=S5 _ _ h1 pb pg;refine⟨_,_,c,rfl,rfl,(by show 26≤Av;decide),hc,h5,hN _ _ _ ⟨⟨_,rfl⟩,?_,?_,Hu,cs++[c],?_,?_,?_⟩⟩
   · exact(S4.trans S5).off np
   · exact(B5.off pb pg pl).mono (by omega)
   · rw[Aj,Aj];rfl
   · rw[Aw,h2];rfl
   · intro c' hc';rcases Aq.mp hc' with z | z
     · exact h3 c' z
     · rw[Af.mp z];exact ok
 · rintro σ' ys H4 ⟨_,S4,B4,h1,cs,rfl,h2,h3⟩;refine⟨_,_,_,rfl,rfl,SqL.of h1,V3 cs (by omega),q _ _ (XC (by omega) (by omega) h3) (B4.mono (by omega)) S4⟩
theorem YT(F:Fun K "_law_fields" "_law_fields" Pu f fd)(Ha:Γ23 P w K mg base)(G_:Γ22 P w K mg base):FnOk P w K mg base HY 3 f fd ["well","many"] (SC):=by
 refine F.ok G4 (λvs H Q E h=>?_) (λcdv A outer s H vs Q E hr h=>?_)
 · obtain⟨b,g,l,n,many,rfl,Bg,hn,m1,m6,q⟩:=h;rfl
 obtain⟨b,g,l,n,many,rfl,Bg,hn,m1,m6,q⟩:=h;refine⟨_,(Hy (HK (i:=2) G4.nd rfl (Or.inl rfl) L4)
  (Hy (HK (i:=3) G4.nd rfl (Or.inl rfl) (IC (Hq (HG Ha (hr.mono (by decide)) rfl (Hq (pv 0) (Hq Hv Hs))) Hs)))
  (Hy (Kl B_ rfl (Mj rfl B.range_ (Hq (HG G_ (hr.mono (by decide)) rfl (Hq (pv 0) (Hq (pv 1) Hs))) Hs)) (HJ (i:=4) G4.nd rfl (Or.inl rfl)) (Hy (HK (i:=5) G4.nd rfl (Or.inl rfl) (HG G_ (hr.mono (by decide)) rfl (Hq (pv 0) (Hq Hv Hs))))
  (Hy (HK (i:=6) G4.nd rfl (Or.inl rfl) (HV ID (pv 3) (HG G_ (hr.mono (by decide)) rfl (Hq (pv 0) (Hq (HP IF rfl B.len_ I0 (Hq (pv 3) Hs)) Hs))) (λ_ _=>rfl)))
  (Hy (HK (i:=7) G4.nd rfl (Or.inl rfl) (HV QN (pv 2) (HG G_ (hr.mono (by decide)) rfl (Hq (pv 0) (Hq Hv Hs))) (λ_ _=>rfl)))
  (Hy (HK (i:=8) G4.nd rfl (Or.inl rfl) (HG G_ (hr.mono (by decide)) rfl (Hq (pv 0) (Hq (HP P3 rfl B.len_ I0 (Hq (pv 6) Hs)) Hs))))
  (Hy (HK (i:=9) G4.nd rfl (Or.inl rfl) (IQ OF (HV ID (IC (Hq (HC NO (pv 7) (pv 6)) (Hq (HC NO (pv 6) (pv 7)) (Hq (HC NO (HC NO (IQ OF (pv 6) IN (IP (pv 8))) (pv 7)) (IQ OF (pv 6) (IP (HC Ix (pv 8) Hv)) IN)) (Hq (pv 7) Hs))))) (pv 5) (λ_ _=>rfl)) IN (IP Hv)))
  (Hy (HZ (Il JX (pv 5) Hv (Ie _)) (HB (HK (i:=9) G4.nd rfl (Or.inl rfl) (HG Ha (hr.mono (by decide)) rfl (Hq (pv 0) (Hq Hv Hs))))) Ii)
  (HB (HZ (Il Ts (pv 9) (pv 3) (by with_unfolding_all rfl)) (HB (KE (Ld Cb CG CH LF (pv 3) (Hq (pv 9) Hs)))) Ii)))))))))
  (HB (HN (HP Yr rfl B.sorted_ N4 (Hq (pv 3) Hs))))))),?_⟩
 refine Kp ?_;refine⟨_,rfl,b,g,l,n,7,rfl,Bg,by omega,by decide,by decide,λx0 H1 ok0 B1 S1=>?_⟩;refine⟨Kf,λr hr'=>?_⟩;obtain⟨rb,rg,rl⟩:=B1.free hr';have nr:H r=none:=B1.back S1 r hr';have s2:=Hz hr' (.lst [V.str x0]);have e2:(Hr H1 r (.lst [V.str x0])) r=some (.lst [V.str x0]):=Hu;have B2:=B1.same s2;have S2:=S1.trans s2.sameB;generalize Hr H1 r (.lst [V.str x0])=H2 at*;refine⟨_,rfl,_,rfl,b,g,l,_,many,rfl,B2,by omega,by omega,JW (by omega),λc H3 c0 c1 B3 S3=>?_⟩;have e3:=S3 _ _ e2 rb rg;have S03:=S2.trans S3;refine⟨c,rfl,by omega,by omega,OV (lo:=0) (n:=c.toNat) (λi σ H'=>(∃y4 y5 y6 y7 y8 y9,σ=[some (.ref b),some (.int many),some (.str "abcdefghijklmnopqrstuvwxyz"),some (.ref r),y4,y5,y6,y7,y8,y9])∧SameB b g H H'∧Well H' b g l (n+13+20*i)∧∃ts:List Str,H' r=some (.lst (ts.map V.str))∧ts.Nodup∧1≤ts.length∧ts.length≤i+1∧∀t∈ts,FieldOk t) ?_ ?_ ?_⟩
 · exact⟨⟨none,none,none,none,none,none,rfl⟩,S03,B3.mono (by omega),[x0],e3,by simp,by simp,by simp,λt ht=>by rw[Af.mp ht];exact ok0⟩
 · rintro i σ H4 hi ⟨⟨y4,y5,y6,y7,y8,y9,rfl⟩,S4,B4,ts,e4,nd,l1,l2,ok⟩;refine⟨_,rfl,b,g,l,_,4,rfl,B4,by omega,by decide,by decide,λpick H5 p0 p1 B5 S5=>?_⟩;have e5:=S5 _ _ e4 rb rg;refine⟨_,rfl,_,rfl,_,rfl,r,_,rfl,.inl (SqL.of e5),b,g,l,_,_,rfl,B5,by omega,by rw[Ab];omega,JW (by rw[Ab];omega),λk H6 k0 k1 B6 S6=>?_⟩;have e6:=S6 _ _ e5 rb rg;rw[Ab] at k1;obtain⟨j,rfl⟩:∃j:Nat,k=(j:Int):=⟨k.toNat,by omega⟩;obtain⟨first,ef⟩:∃f,ts[j]?=some f:=⟨ts[j]'(by omega),Ak (by omega)⟩
   have hf:IS (ts.map V.str) (j:Int)=some (V.str first):=J6 (by rw[Ai,ef];rfl)
   have okf:=ok first (Am ef)
   refine⟨r,_,_,_,rfl,rfl,SqL.of e6,hf,?_⟩;refine⟨_,rfl,_,rfl,b,g,l,_,26,rfl,B6,by omega,by decide,by decide,λk H7 k0 k1 B7 S7=>?_⟩;have e7:=S7 _ _ e6 rb rg;obtain⟨c,hc,okc⟩:=QF k0 k1;refine⟨_,_,c,rfl,rfl,(by show 26≤Av;decide),hc,?_⟩;have okl:FieldOk (⟨#[c]⟩:Str):=⟨by show 1≤1;decide,by show 1≤8;decide,λc' hc'=>by
    have:c'=c:=by simpa using hc'
    rw[this];exact okc⟩
   generalize(⟨#[c]⟩:Str)=letter at*;have f1:=okf.one;have f8:=okf.eight;have g1:=okl.one;have g8:=okl.eight;have sz:(100:Nat)≤Av:=by decide
   refine⟨_,rfl,_,rfl,_,rfl,by omega,b,g,l,_,_,rfl,B7,by omega,by omega,JW (by omega),λat' H8 a0 a1 B8 S8=>?_⟩;have e8:=S8 _ _ e7 rb rg;have S48:=S4.trans (S5.trans (S6.trans (S7.trans S8)));refine⟨_,rfl,_,rfl,_,_,rfl,rfl,by omega,_,rfl,_,rfl,_,_,rfl,rfl,by omega,_,rfl,_,rfl,_,rfl,first,rfl,by omega,λz1 a1' _ a3 _=>?_⟩
   refine⟨_,rfl,_,_,rfl,rfl,by omega,_,rfl,_,rfl,_,_,rfl,rfl,_,rfl,first,rfl,by omega,λz2 b1 _ b3 _=>?_⟩
   have la:(z1++letter).length=z1.length+letter.length:=by show(z1.cps++letter.cps).size=_;rw[ES];rfl
   refine⟨_,_,rfl,rfl,by omega,_,rfl,Q0,λwl hwl=>?_⟩;have s9:=Hz hwl (.lst [V.str (letter++first),V.str (first++letter),V.str (z1++letter++z2),V.str letter])
   have e9:(Hr H8 wl (.lst [V.str (letter++first),V.str (first++letter),V.str (z1++letter++z2),V.str letter])) wl=some (.lst [V.str (letter++first),V.str (first++letter),V.str (z1++letter++z2),V.str letter]):=Hu
   have e8:=s9 _ _ e8;have B9:=B8.same s9;have S49:=S48.trans s9.sameB;generalize Hr H8 wl (.lst [V.str (letter++first),V.str (first++letter),V.str (z1++letter++z2),V.str letter])=H9 at*
   have mem2:∀(x y:Str)(c:Nat),c∈(x++y).cps.toList→c∈x.cps.toList∨c∈y.cps.toList:=λx y c hc=>by have:c∈(x.cps++y.cps).toList:=hc;rw[Array.toList_append] at this;exact Aq.mp this
   have len2:∀x y:Str,(x++y).length=x.length+y.length:=λx y=>by show(x.cps++y.cps).size=_;rw[ES];rfl
   obtain⟨W,hW,w1,w100,wl'⟩:∃W:Str,IS [V.str (letter++first),V.str (first++letter),V.str (z1++letter++z2),V.str letter] pick=some (.str W)∧1≤W.length∧W.length≤100∧∀c∈W.cps.toList,KI c=true:=by
    have:pick=0∨pick=1∨pick=2∨pick=3:=by omega
    rcases this with rfl | rfl | rfl | rfl
    · refine⟨_,rfl,by rw[len2];omega,by rw[len2];omega,λc hc=>?_⟩;rcases mem2 _ _ c hc with z | z
      · exact okl.all c z
      · exact okf.all c z
    · refine⟨_,rfl,by rw[len2];omega,by rw[len2];omega,λc hc=>?_⟩;rcases mem2 _ _ c hc with z | z
      · exact okf.all c z
      · exact okl.all c z
    · refine⟨_,rfl,by rw[len2,len2];omega,by rw[len2,len2];omega,λc hc=>?_⟩;rcases mem2 _ _ c hc with z | z
      · rcases mem2 _ _ c z with z | z
        · exact okf.all c (a3 c z)
        · exact okl.all c z
      · exact okf.all c (b3 c z)
    · exact⟨_,rfl,g1,by omega,okl.all⟩
   refine⟨_,rfl,wl,_,_,_,rfl,rfl,SqL.of e9,hW,_,rfl,W,rfl,by omega,λword v1 v2 v3 v4=>?_⟩;have okw:FieldOk word:=⟨v4 8 rfl rfl (by decide) w1,by have:=v2 8 rfl (by decide);omega,λc hc=>wl' c (v3 c hc)⟩;refine Kp ?_;dsimp only;refine JL (λσ' H'=>∃word:Str,σ'=[some (.ref b),some (.int many),some (.str "abcdefghijklmnopqrstuvwxyz"),some (.ref r),some (.int (0+(i:Int))),some (.int pick),some (.str first),some (.str letter),some (.int at'),some (.str word)]∧FieldOk word∧SameB b g H H'∧Well H' b g l (n+13+20*i+17)∧H' r=some (.lst (ts.map V.str))) (λZ hZ=>?_) ?_
   · refine⟨_,rfl,rfl,_,rfl,HS (λ_=>?_) (λ_=>?_)⟩
     · exact⟨_,rfl,b,g,l,_,8,rfl,B9,by omega,by decide,by decide,λx H10 ok10 B10 S10=>hZ _ _ ⟨x,rfl,ok10,S49.trans S10,B10.mono (by omega),S10 _ _ e8 rb rg⟩⟩
     · exact hZ _ _ ⟨word,rfl,okw,S49,B9.mono (by omega),e8⟩
   rintro σ' H10 ⟨word',rfl,okw',S10,B10,e10⟩;have fl:(ts.map V.str).all Kz=true:=by rw[Fg];exact Cc.mpr λx _=>rfl
   refine⟨_,rfl,_,rfl,r,_,rfl,.inl (SqL.of e10),rfl,fl,_,rfl,?_⟩;have inE:Mm (.str word') (ts.map V.str)=decide (word'∈ts):=by
    unfold Mm;rw[List.any_map,Ch,CM,decide_eq_true_iff];constructor
    · rintro⟨x,hx,e⟩;have:x=word':=by simpa [Kw] using e
      exact this ▸ hx
    · exact λh=>⟨word',h,by simp[Kw]⟩
   rw[inE];by_cases hm:word'∈ts
   · rw[decide_eq_true hm];exact Ht ⟨⟨_,_,_,_,_,_,rfl⟩,S10,B10.mono (by omega),ts,e10,nd,l1,by omega,ok⟩
   · rw[decide_eq_false hm];refine Hw ⟨_,rfl,.inl ⟨rfl,_,SqL.of e10⟩,_,rfl,r,_,_,rfl,rfl,e10,(by rw[Ab];exact II (by omega)),?_⟩;refine⟨⟨_,_,_,_,_,_,rfl⟩,S10.off nr,(B10.off rb rg rl).mono (by omega),ts++[word'],by rw[Hu,Aj];rfl,?_,by rw[Aw];omega,by rw[Aw];simp;omega,λt ht=>?_⟩
     · rw[EW];exact⟨nd,by simp,λa ha b hb=>by rw[Af.mp hb];exact λz=>hm (z ▸ ha)⟩
     · rcases Aq.mp ht with z | z
       · exact ok t z
       · rw[Af.mp z];exact okw'
 · rintro σ H4 ⟨⟨y4,y5,y6,y7,y8,y9,rfl⟩,S4,B4,ts,e4,nd,l1,l2,ok⟩;refine⟨_,rfl,r,ts,rfl,SqL.of e4,by omega,λz ms mp mso hz=>?_⟩;have s5:=Hz hz (.lst (ms.map V.str));exact q z ms _ (B4.back S4 z hz) Hu (SA mso (mp.nodup_iff.mpr nd)) (λf hf=>ok f (mp.mem_iff.mp hf)) (by rw[mp.length_eq];exact l1) (by rw[mp.length_eq];omega) ((B4.same s5).mono (by omega)) (S4.trans s5.sameB)
theorem Ym(F:Fun K "_law_base" "_law_base" Pj f fd)(G_:Γ22 P w K mg base):FnOk P w K mg base HY 2 f fd ["well"] (QW):=by
 refine F.ok G5 (λvs H Q E h=>?_) (λcdv A outer s H vs Q E hr h=>?_)
 · obtain⟨b,g,l,n,rfl,Bg,hn,q⟩:=h;rfl
 obtain⟨b,g,l,n,rfl,Bg,hn,q⟩:=h;refine⟨_,(Hy (HK (i:=1) G5.nd rfl (Or.inl rfl) (HG G_ (hr.mono (by decide)) rfl (Hq (pv 0) (Hq Hv Hs))))
  (Hy (HK (i:=2) G5.nd rfl (Or.inl rfl) (HC KC Hv (HC L3 Hv (HG G_ (hr.mono (by decide)) rfl (Hq (pv 0) (Hq Hv Hs))))))
  (Hy (HZ (Il JX (pv 1) Hv (Ie _)) (HB (HN Hv)) Ii)
  (Hy (HK (i:=3) G5.nd rfl (Or.inl rfl) (HG G_ (hr.mono (by decide)) rfl (Hq (pv 0) (Hq Hv Hs))))
  (Hy (HZ (Il JX (pv 1) Hv (Ie _)) (HB (HK (i:=3) G5.nd rfl (Or.inl rfl) (HC Ix (HC L3 (HC Ix (HC L3 (pv 3) Hv) (HG G_ (hr.mono (by decide)) rfl (Hq (pv 0) (Hq Hv Hs)))) Hv) (HG G_ (hr.mono (by decide)) rfl (Hq (pv 0) (Hq Hv Hs)))))) Ii)
  (HB (HN (HC L3 (pv 2) (HC K3 (pv 3) (HC KC (HC L7 Hv Hv) Hv)))))))))),?_⟩
 have Mo:(10:Int)^(15:Int).toNat=1000000000000000:=by decide
 refine⟨_,rfl,b,g,l,n,3,rfl,Bg,by omega,by decide,by decide,λpick H1 p0 p1 B1 S1=>?_⟩;refine⟨_,rfl,b,g,l,_,2,rfl,B1,by omega,by decide,by decide,λc H2 c0 c1 B2 S2=>?_⟩;have S02:=S1.trans S2;refine⟨_,_,rfl,rfl,.inl ⟨by decide,by decide⟩,_,_,rfl,rfl,?_⟩;refine⟨_,rfl,rfl,_,rfl,HS (λ_=>q _ _ (by decide) (by decide) (B2.mono (by omega)) S02) (λ_=>?_)⟩;refine⟨_,rfl,b,g,l,_,100000,rfl,B2,by omega,by decide,by decide,λm H3 m0 m1 B3 S3=>?_⟩;have S03:=S02.trans S3;refine Kp ?_;dsimp only;refine JL (λσ' H'=>∃m:Int,σ'=[some (.ref b),some (.int pick),some (.int (1 - 2*c)),some (.int m)]∧0≤m∧SameB b g H H'∧Well H' b g l (n+5)) (λZ hZ=>?_) ?_
 · refine⟨_,rfl,rfl,_,rfl,HS (λ_=>?_) (λ_=>hZ _ _ ⟨m,rfl,m0,S03,B3.mono (by omega)⟩)⟩;refine⟨_,rfl,_,_,rfl,rfl,.inl ⟨by omega,by omega⟩,_,rfl,b,g,l,_,100000,rfl,B3,by omega,by decide,by decide,λm2 H4 m20 m21 B4 S4=>?_⟩;refine⟨_,_,rfl,rfl,_,_,rfl,rfl,.inl ⟨by omega,by omega⟩,_,rfl,b,g,l,_,100000,rfl,B4,by omega,by decide,by decide,λm3 H5 m30 m31 B5 S5=>?_⟩;exact⟨_,_,rfl,rfl,hZ _ _ ⟨_,rfl,by omega,S03.trans (S4.trans S5),B5.mono (by omega)⟩⟩
 rintro σ' H4 ⟨m,rfl,m0,S4,B4⟩;refine⟨_,rfl,_,rfl,_,_,rfl,rfl,JT (by decide) (by decide),_,_,rfl,rfl,_,_,rfl,rfl,(by show(0:Int)<10^(15:Int).toNat - 1000;decide),?_⟩;dsimp only;rw[Mo];have y0:=Cj m (show(1000000000000000 - 1000:Int)≠0 by decide);have y1:=BR m (show(0:Int)<1000000000000000 - 1000 by decide);generalize m%(1000000000000000 - 1000)=y at*;have hc:c=0∨c=1:=by omega
 refine⟨_,_,rfl,rfl,.inl ⟨by omega,by omega⟩,q _ _ ?_ ?_ B4 S4⟩
 all_goals
  rcases hc with rfl | rfl
  all_goals omega
theorem Y1(F:Fun K "_law_whole" "_law_whole" P8 f fd)  :FnOk P w K mg base HY 1 f fd ["thing"] (N3 K):=by
 refine F.ok Za (λvs H Q E h=>?_) (λcdv A outer s H vs Q E hr h=>?_)
 · obtain⟨v,t,rfl,hty,q⟩:=h;rfl
 obtain⟨v,t,rfl,hty,q⟩:=h;refine⟨_,(HB (HN (Lj (HP (Jf (n:="")) rfl B.isinstance_ IX (Hq (pv 0) (Hq (IM (v:= .ty "int") rfl B.int_ Np rfl) Hs))) (K4 (QS (HP (Jf (n:="")) rfl B.isinstance_ IX (Hq (pv 0) (Hq (IM (v:= .ty "bool") rfl B.bool_ N2 rfl) Hs)))))))),?_⟩;cases hty
 all_goals first
  | exact⟨_,rfl,_,"int","int",true,rfl,.int _,rfl,_,rfl,Hw ⟨_,rfl,_,"int","bool",false,rfl,.int _,rfl,_,rfl,q⟩⟩
  | exact⟨_,rfl,_,"bool","int",true,rfl,.bl _,rfl,_,rfl,Hw ⟨_,rfl,_,"bool","bool",true,rfl,.bl _,rfl,_,rfl,q⟩⟩
  | exact⟨_,rfl,_,_,"int",false,rfl,(by first | exact .non | exact .str _ | exact .flt _ | (exact .lst (by assumption)) | (exact .frz (by assumption)) | (exact .tup (by assumption)) | (exact .dK (by assumption)) | (exact .dT (by assumption))),rfl,_,rfl,Ht q⟩
theorem Y0(F:Fun K "_law_wants" "_law_wants" P7 f fd)  :FnOk P w K mg base HY 1 f fd ["wish","piece"] (RC):=by
 refine F.ok G6 (λvs H Q E h=>?_) (λcdv A outer s H vs Q E hr h=>?_)
 · obtain⟨a,b,w',p,rfl,hw,hp,pok,q⟩:=h;rfl
 obtain⟨a,b,w',p,rfl,hw,hp,pok,q⟩:=h;refine⟨_,(Hy (HK (i:=2) G6.nd rfl (Or.inl rfl) (Lm (X5 rfl) rfl B.dict_ U6 (Hq (pv 1) Hs)))
  (Hy (Kl B_ rfl (K5 (pv 0)) (Jz rfl (H_ (HJ (i:=3) G6.nd rfl (Or.inl rfl)) (H_ (HJ (i:=4) G6.nd rfl (Or.inl rfl)) (H_ (HJ (i:=5) G6.nd rfl (Or.inl rfl)) Jk)))) (Hy (HZ (IY (WB (Lv hr) (pv 3) (pv 2)) (by with_unfolding_all rfl)) (HB (HN Jp)) Ii)
  (HB (HZ (PW.pt (JB (PW.pt (Kj (IY (Kb (pv 4))) (K8 (Il Lz (Nv (Lv hr) (pv 2) (pv 3) (λ_ _=>rfl)) (pv 4) (Ie _))))) (JZ (PW.pt (Kj (IY (Kb (pv 5))) (K8 (Il Lb (Nv (Lv hr) (pv 2) (pv 3) (λ_ _=>rfl)) (pv 5) (Ie _)))))))) (HB (HN Jp)) Ii))))
  (HB (HN Jp)))),?_⟩
 obtain⟨ps,rfl,hA,hP⟩:=hp;have ll:ps.length≤100:=by have:=pok.len;rw[Ab] at this;exact this
 refine⟨_,rfl,b,Kh ps,rfl,?_,?_,λd hd=>?_⟩
 · unfold Kh;rw[BN];exact hA
 · intro r hr';unfold Kh at hr';obtain⟨P1,hm,rfl⟩:=AN.mp hr';exact hP P1 hm
 have s1:=Hz hd (.dK ((Kh ps).foldl (λacc p=>HM acc p.2.1 p.2.2) []));have h1:(Hr H d (.dK ((Kh ps).foldl (λacc p=>HM acc p.2.1 p.2.2) []))) d=some (.dK ((Kh ps).foldl (λacc p=>HM acc p.2.1 p.2.2) [])):=Hu;have h3:∀f:Str,HU ((Kh ps).foldl (λacc p=>HM acc p.2.1 p.2.2) []) (.inr f:HF)=(IH (ps.map (·.2)) f).map V.int:=X_ ps pok;generalize(Kh ps).foldl (λacc p=>HM acc p.2.1 p.2.2) []=kvs at*;generalize Hr H d (.dK kvs)=H1 at*;obtain⟨ws,rfl,hB,hW⟩:=hw.same s1;refine⟨_,rfl,a,rfl,⟨_,SqT.of hB⟩,O4 (K:=K) (a:=a) (xs:=ws.map λp=>V.ref p.1) (λi σ H'=>(∃y3 y4 y5,σ=[some (.ref a),some (.ref b),some (.ref d),y3,y4,y5])∧Same H1 H'∧HE ((ws.map (·.2)).take i) (ps.map (·.2))=true) ⟨⟨none,none,none,rfl⟩,Same.refl _,rfl⟩ (λi σ H' _ ⟨_,s,_⟩=>s.seqT (SqT.of hB)) ?_ ?_⟩
 · rintro i x σ H' hx ⟨⟨y2,y3,y4,rfl⟩,s,hr'⟩;obtain⟨P1,e1,rfl⟩:=Io hx;have hm:=Am e1;have ew:(ws.map (·.2))[i]?=some P1.2:=by rw[Ai,e1];rfl
   have k1:=s _ _ h1;have kf:=h3 P1.2.1;refine⟨P1.1,_,rfl,SqT.of (s _ _ (hW P1 hm)),rfl,_,_,rfl,_,_,rfl,_,_,rfl,rfl,?_⟩;have out:JE (ps.map (·.2)) P1.2=false→HE (ws.map (·.2)) (ps.map (·.2))=false:=λh=>Xv (Ax hm) h;refine⟨_,rfl,_,rfl,d,_,rfl,DGet.k (k:=Sum.inr P1.2.1) k1,_,rfl,?_⟩;cases hs:IH (ps.map (·.2)) P1.2.1 with
   | none=> rw[hs] at kf;rw[kf];refine Hw ?_;have o1:=out (T7 hs);rw[o1] at q;exact q _ (s1.trans s)
   | some n=>
    rw[hs] at kf;rw[kf];refine Ht ?_;have gd:DGet H' d (.str P1.2.1) (some (.int n)):=by have:=DGet.k (k:=Sum.inr P1.2.1) k1;rw[kf] at this;exact this
    have tp:=NM hs;have bad:Ia P1.2.2.1 P1.2.2.2 n=false→Q (.bl false) H':=λhb=>by have o1:=out (tp.trans hb);rw[o1] at q;exact q _ (s1.trans s)
    have good:Ia P1.2.2.1 P1.2.2.2 n=true→HE ((ws.map (·.2)).take (i+1)) (ps.map (·.2))=true:=λhb=>by rw[IW ew];unfold HE at*;rw[List.all_append,hr',Bool.true_and,Dm,List.all_nil,tp,hb];rfl
    obtain⟨pa,f',lo,hi⟩:=P1;dsimp only at gd bad good;have low:∀l,lo=some l→n<l→Ia lo hi n=false:=λl e h=>by subst e;unfold Ia;rw[show IK (some l) n=false from decide_eq_false (by omega)];rfl
    have high:∀h',hi=some h'→h'<n→Ia lo hi n=false:=λh' e h=>by subst e;unfold Ia;rw[show IR (some h') n=false from decide_eq_false (by omega),E1]
    cases lo with
    | none=>
     refine⟨_,rfl,_,rfl,Ht (Ht ?_)⟩;cases hi with
     | none=>exact⟨_,rfl,_,rfl,Ht (Ht ⟨⟨_,_,_,rfl⟩,s,good rfl⟩)⟩
     | some h'=>
      refine⟨_,rfl,_,rfl,Hw ⟨_,rfl,_,rfl,d,_,rfl,gd,_,rfl,_,_,rfl,rfl,_,rfl,HS (λh=>?_) (λh=>?_)⟩⟩
      · exact bad (high h' rfl (of_decide_eq_true h))
      · refine⟨⟨_,_,_,rfl⟩,s,good ?_⟩;have:¬n>h':=λz=>h (decide_eq_true z);simp[Ia,IK,IR];omega
    | some l'=>
     refine⟨_,rfl,_,rfl,Hw ⟨_,rfl,_,rfl,d,_,rfl,gd,_,rfl,_,_,rfl,rfl,_,rfl,HS (λh=>?_) (λh=>?_)⟩⟩
     · exact Hw (bad (low l' rfl (of_decide_eq_true h)))
     · have hl':¬n<l':=λz=>h (decide_eq_true z);cases hi with
       | none=> refine⟨_,rfl,_,rfl,Ht (Ht ⟨⟨_,_,_,rfl⟩,s,good ?_⟩)⟩;simp[Ia,IK,IR];omega
       | some h'=>
        refine⟨_,rfl,_,rfl,Hw ⟨_,rfl,_,rfl,d,_,rfl,gd,_,rfl,_,_,rfl,rfl,_,rfl,HS (λh=>?_) (λh=>?_)⟩⟩
        · exact bad (high h' rfl (of_decide_eq_true h))
        · refine⟨⟨_,_,_,rfl⟩,s,good ?_⟩;have:¬n>h':=λz=>h (decide_eq_true z);simp[Ia,IK,IR];omega
 · rintro σ H' ⟨_,s,hr'⟩;rw[show(ws.map (·.2)).take (ws.map λp=>V.ref p.1).length=ws.map (·.2) from AL (by simp)] at hr';rw[hr'] at q;exact q _ (s1.trans s)
theorem Zl(F:Fun K "_law_is_piece" "_law_is_piece" NU f fd)(Hb:Γ26 P w K mg base):FnOk P w K mg base HY 2 f fd ["thing"] (QZ):=by
 refine F.ok G7 (λvs H Q E h=>?_) (λcdv A outer s H vs Q E hr h=>?_)
 · obtain⟨a,p',rfl,hp,pok,q⟩:=h;rfl
 obtain⟨a,p',rfl,hp,pok,q⟩:=h;refine⟨_,(Hy (HZ (Jj (Ja (HP (Jf (n:="")) rfl B.isinstance_ IX (Hq (pv 0) (Hq (IM (v:= .ty "tuple") rfl B.tuple_ Km rfl) Hs))))) (HB (HN Jp)) Ii)
  (Hy (HK (i:=1) G7.nd rfl (Or.inl rfl) L4)
  (Hy (Kl B_ rfl (K5 (pv 0)) (HJ (i:=2) G7.nd rfl (Or.inl rfl)) (Hy (HZ (PW.pt (JB (Jj (Ja (HP (Jf (n:="")) rfl B.isinstance_ IX (Hq (pv 2) (Hq (IM (v:= .ty "tuple") rfl B.tuple_ Km rfl) Hs))))) (JB (Il Lc (HP IF rfl B.len_ I0 (Hq (pv 2) Hs)) Hv (Ie _)) (JB (Jj (Ja (HP (Jf (n:="")) rfl B.isinstance_ IX (Hq (HV Jg (pv 2) Hv (λ_ _=>rfl)) (Hq (IM (v:= .ty "str") rfl B.str_ Nq rfl) Hs))))) (JZ (Il OZ (HV Jg (pv 2) Hv (λ_ _=>rfl)) (pv 1) (Ie _))))))) (HB (HN Jp)) Ii)
  (Hy (HZ (PW.pt (JB (Il Lb (HP P3 rfl B.len_ I0 (Hq (HV Jg (pv 2) Hv (λ_ _=>rfl)) Hs)) Hv (Ie _)) (JZ (Il (QR (Me hr)) (JO (N':=["sign"]) (js:=[none]) rfl (I_ (N:=["thing","last","pair"]) (outer:=HI NU) (by decide+kernel)) (QT (HV Jg (pv 2) Hv (λ_ _=>rfl))) (λ_ _ _ _ _=>(HJ (i:=0) Nc rfl (Or.inl rfl))) (λ_ _ _ _ _=>L6 (Il Zh (pv 0) L4 (by with_unfolding_all rfl))) (λ_ _ _ _ _=>(pv 0))) (IC Hs) (Ie _))))) (HB (HN Jp)) Ii)
  (Hy (HZ (Jj (Ja (HG Hb (hr.mono (by decide)) rfl (Hq (HV Jg (pv 2) Hv (λ_ _=>rfl)) Hs)))) (HB (HN Jp)) Ii)
  (HB (HK (i:=1) G7.nd rfl (Or.inl rfl) (HV Jg (pv 2) Hv (λ_ _=>rfl))))))))
  (HB (HN Jp))))),?_⟩
 obtain⟨ps,rfl,hA,hP⟩:=hp;refine⟨_,rfl,_,"tuple","tuple",true,rfl,.tup hA,rfl,_,rfl,Ht ?_⟩;refine⟨_,rfl,a,rfl,⟨_,SqT.of hA⟩,O4 (K:=K) (a:=a) (xs:=ps.map λp=>V.ref p.1) (λi σ H'=>(∃(last:Str)(y2:Option V),σ=[some (.ref a),some (.str last),y2]∧∀x,ps[i]?=some x→last.cps.toList<x.2.1.cps.toList)∧Same H H') ?_ (λi σ H' _ ⟨_,z⟩=>z.seqT (SqT.of hA)) ?_ ?_⟩
 · refine⟨⟨"",none,rfl,λx hx=>?_⟩,Same.refl _⟩;have o1:=(pok.ok x.2 (Ax (Am hx))).one;have:x.2.1.cps.toList≠[]:=λz=>by
    have h1:x.2.1.length=x.2.1.cps.toList.length:=by rw[AC];rfl
    rw[z] at h1;simp at h1;omega
   cases e:x.2.1.cps.toList with
   | nil=>exact absurd e this
   | cons c r=>exact List.nil_lt_cons _ _
 · rintro i x σ H1 hx ⟨⟨last,y2,rfl,lt⟩,s1⟩;obtain⟨P1,e1,rfl⟩:=Io hx;have hm:=Am e1;have h1:=s1 _ _ (hP P1 hm);have F1:=pok.ok P1.2 (Ax hm);have l8:=F1.eight;refine⟨_,rfl,_,"tuple","tuple",true,rfl,.tup h1,rfl,_,rfl,Ht ⟨_,rfl,P1.1,_,rfl,.inr (SqT.of h1),rfl,_,rfl,HS (λh=>absurd h (by simp)) (λ_=>?_)⟩⟩;refine⟨_,rfl,P1.1,_,0,_,rfl,rfl,SqT.of h1,rfl,_,"str","str",true,rfl,.str _,rfl,_,rfl,Ht ?_⟩;refine⟨_,rfl,P1.1,_,0,_,rfl,rfl,SqT.of h1,rfl,_,rfl,_,_,rfl,rfl,_,rfl,?_⟩;rw[decide_eq_true (lt P1 e1)];refine Ht ?_;refine⟨_,rfl,P1.1,_,0,_,rfl,rfl,SqT.of h1,rfl,P1.2.1,rfl,Jt (by omega),_,_,rfl,rfl,_,rfl,HS (λh=>absurd (of_decide_eq_true h) (by omega)) (λ_=>?_)⟩;refine⟨_,rfl,P1.1,_,0,_,rfl,rfl,SqT.of h1,rfl,P1.2.1,rfl,λp hp=>?_⟩;have s2:=Hz hp (.lst []);refine QO (xs:=L2.signs P1.2.1) (λi σ' ys H'=>(∃v,σ'=[v])∧Same H1 H'∧H' p=some (.lst ys)∧ys=[]) ⟨⟨none,rfl⟩,s2,Hu,rfl⟩ ?_ ?_ ?_
   · rintro i σ' ys H' hi ⟨_,_,h1,h2⟩;exact⟨h1,by rw[h2];exact II (by simp)⟩
   · rintro i y σ' ys H' N hy ⟨⟨v,rfl⟩,s,h1,h2⟩ hN;unfold L2.signs at hy;rw[Ai] at hy;cases hc:P1.2.1.cps.toList[i]? with
     | none=>rw[hc] at hy;cases hy
     | some c=> rw[hc] at hy;obtain rfl:V.str ⟨#[c]⟩=y:=A5 hy;have ok:=F1.all c (Am hc);refine⟨_,rfl,_,_,rfl,rfl,_,rfl,?_⟩;rw[TW ok];exact Ht (hN _ _ _ ⟨⟨_,rfl⟩,s,h1,h2⟩)
   · rintro σ' ys H2 ⟨_,s2',h2,rfl⟩;refine⟨KM,λep hep=>?_⟩;have s3:=Hz hep (.lst []);have e3:(Hr H2 ep (.lst [])) ep=some (.lst []):=Hu;have h3:=s3 _ _ h2;generalize Hr H2 ep (.lst [])=H3 at*;refine⟨p,ep,_,rfl,rfl,h3,e3,_,rfl,Ht ?_⟩;have t3:=s2'.trans s3;have g3:=t3 _ _ h1;refine⟨_,rfl,P1.1,_,1,_,rfl,rfl,SqT.of g3,rfl,_,"int",rfl,.int _,_,rfl,Ht ?_⟩;refine⟨_,rfl,P1.1,_,0,_,rfl,rfl,SqT.of g3,rfl,⟨P1.2.1,_,rfl,λx hx=>?_⟩,s1.trans t3⟩;have:=Db.mp pok.asc i (i+1) (by simp;have:=(Al.mp e1).1;omega) (by simp;have:=(Al.mp hx).1;omega) (by omega);simp only[Dg] at this;rw[(Al.mp e1).2,(Al.mp hx).2] at this;exact this
 · rintro σ H1 ⟨_,s1⟩;exact q _ s1
theorem Yz(F:Fun K "_law_alike" "_law_alike" NJ f fd)  (M_self:mg "_law_alike"=some (.ref f)):FnOk P w K mg base HY 11 f fd ["found","due"] (O3 9 OG):=by
 have b_self:=F.binds (ps:=["found","due"]) λ_ _ _ _ _ _=>lS λ_=>lS λ_=>l0 rfl
 refine Vy (L:=0) (D:=9) (QU F Tw b_self M_self 0 (OG) λn sp0 hsp Hc=>?_);refine F.ok Tw (λvs H Q E h=>?_) (λcdv A outer s H vs Q E hr h=>?_)
 · obtain⟨v,v',d,rfl,n9,h1,h2,hn,q⟩:=h;rfl
 obtain⟨v,v',d,rfl,n9,h1,h2,hn,q⟩:=h;refine⟨_,(Hy (HZ (Ja (HP Tq rfl B.isinstance_ IX (Hq (pv 1) (Hq (Ij (Hq (IM (v:= .ty "list") rfl B.list_ Ll rfl) (Hq (IM (v:= .ty "tuple") rfl B.tuple_ Km rfl) Hs))) Hs)))) (Hy (HZ (PW.pt (JB (Jj (Ja (HP Tq rfl B.isinstance_ IX (Hq (pv 0) (Hq (Ij (Hq (IM (v:= .ty "list") rfl B.list_ Ll rfl) (Hq (IM (v:= .ty "tuple") rfl B.tuple_ Km rfl) Hs))) Hs))))) (JZ (Il Lc (HP (Jf (n:="")) rfl B.isinstance_ IX (Hq (pv 0) (Hq (IM (v:= .ty "list") rfl B.list_ Ll rfl) Hs))) (HP (Jf (n:="")) rfl B.isinstance_ IX (Hq (pv 1) (Hq (IM (v:= .ty "list") rfl B.list_ Ll rfl) Hs))) (Ie _))))) (HB (HN Jp)) Ii)
  (HB (HN (Lj (L8 JX (HP IF rfl B.len_ I0 (Hq (pv 0) Hs)) (HP IF rfl B.len_ I0 (Hq (pv 1) Hs)) (Ie _)) (K4 (HP (M3 rfl) rfl B.all_ Mz (Hq (JO (N':=["k","found","due"]) (js:=[none,some 0,some 1]) rfl (I_ (N:=["found","due"]) (outer:=HI NJ) (by decide+kernel)) (Mj rfl B.range_ (Hq (HP IF rfl B.len_ I0 (Hq (pv 1) Hs)) Hs)) (λ_ _ _ _ _=>(HJ (i:=0) Na rfl (Or.inl rfl))) (λ_ _ _ _ _=>J7) (λ_ _ _ _ _=>(HG Hc (hr.mono (by omega)) rfl (Hq (HV (R0 K rfl) (pv 1) (pv 0) (λ_ _=>rfl)) (Hq (HV (R0 K rfl) (pv 2) (pv 0) (λ_ _=>rfl)) Hs))))) Hs))))))) Ii)
  (Hy (HZ (PW.pt (JB (IY (JD (pv 1))) (JZ (IY (JD (pv 0)))))) (HB (HN (Lj (LW (JD (pv 1))) (K4 (LW (JD (pv 0))))))) Ii)
  (Hy (HZ (PW.pt (JB (Il Lc (HP (Jf (n:="")) rfl B.isinstance_ IX (Hq (pv 1) (Hq (IM (v:= .ty "bool") rfl B.bool_ N2 rfl) Hs))) (HP (Jf (n:="")) rfl B.isinstance_ IX (Hq (pv 0) (Hq (IM (v:= .ty "bool") rfl B.bool_ N2 rfl) Hs))) (Ie _)) (JZ (Il Lc (HP (Jf (n:="")) rfl B.isinstance_ IX (Hq (pv 1) (Hq (IM (v:= .ty "int") rfl B.int_ Np rfl) Hs))) (HP (Jf (n:="")) rfl B.isinstance_ IX (Hq (pv 0) (Hq (IM (v:= .ty "int") rfl B.int_ Np rfl) Hs))) (Ie _))))) (HB (HN Jp)) Ii)
  (HB (HN (Lj (L8 JX (HP (Jf (n:="")) rfl B.isinstance_ IX (Hq (pv 0) (Hq (IM (v:= .ty "str") rfl B.str_ Nq rfl) Hs))) (HP (Jf (n:="")) rfl B.isinstance_ IX (Hq (pv 1) (Hq (IM (v:= .ty "str") rfl B.str_ Nq rfl) Hs))) (Ie _)) (K4 (L8 (UO (Me hr)) (pv 0) (pv 1) (Ie _))))))))),?_⟩
 cases d with
 | non=> rw[RepY] at h1 h2;subst h1 h2;refine⟨_,rfl,Iv,λt1 ht1=>?_⟩;have s1:=Hz ht1 (.tup [V.ty "list",V.ty "tuple"]);have c1:(Hr H t1 (.tup [V.ty "list",V.ty "tuple"])) t1=some (.tup [V.ty "list",V.ty "tuple"]):=Hu;generalize Hr H t1 (.tup [V.ty "list",V.ty "tuple"])=H1 at*;refine⟨_,"NoneType",t1,_,false,rfl,.non,c1,rfl,rfl,_,rfl,Ht ?_⟩;exact⟨_,rfl,_,rfl,Hw (Hw ⟨_,rfl,_,rfl,Hw ⟨_,rfl,q H1 s1⟩⟩)⟩
 | bl x=> have r1:=h1;have r2:=h2;rw[RepY] at h1 h2;subst h1 h2;refine⟨_,rfl,Iv,λt1 ht1=>?_⟩;have s1:=Hz ht1 (.tup [V.ty "list",V.ty "tuple"]);have c1:(Hr H t1 (.tup [V.ty "list",V.ty "tuple"])) t1=some (.tup [V.ty "list",V.ty "tuple"]):=Hu;generalize Hr H t1 (.tup [V.ty "list",V.ty "tuple"])=H1 at*;refine⟨_,"bool",t1,_,false,rfl,.bl x,c1,rfl,rfl,_,rfl,Ht ?_⟩;refine⟨_,rfl,_,rfl,Ht ⟨_,rfl,_,rfl,Ht ?_⟩⟩;refine⟨_,rfl,_,"bool","bool",true,rfl,.bl x,rfl,_,rfl,_,"bool","bool",true,rfl,.bl x,rfl,rfl,_,rfl,Ht ?_⟩;refine⟨_,rfl,_,"bool","int",true,rfl,.bl x,rfl,_,rfl,_,"bool","int",true,rfl,.bl x,rfl,rfl,_,rfl,Ht ?_⟩;refine⟨_,rfl,_,"bool","str",false,rfl,.bl x,rfl,_,rfl,_,"bool","str",false,rfl,.bl x,rfl,rfl,_,rfl,Hw ?_⟩;exact⟨_,rfl,_,rfl,_,RepY.same s1 _ r1,RepY.same s1 _ r2,by omega,q H1 s1⟩
 | int x=> have r1:=h1;have r2:=h2;rw[RepY] at h1 h2;subst h1 h2;refine⟨_,rfl,Iv,λt1 ht1=>?_⟩;have s1:=Hz ht1 (.tup [V.ty "list",V.ty "tuple"]);have c1:(Hr H t1 (.tup [V.ty "list",V.ty "tuple"])) t1=some (.tup [V.ty "list",V.ty "tuple"]):=Hu;generalize Hr H t1 (.tup [V.ty "list",V.ty "tuple"])=H1 at*;refine⟨_,"int",t1,_,false,rfl,.int x,c1,rfl,rfl,_,rfl,Ht ?_⟩;refine⟨_,rfl,_,rfl,Ht ⟨_,rfl,_,rfl,Ht ?_⟩⟩;refine⟨_,rfl,_,"int","bool",false,rfl,.int x,rfl,_,rfl,_,"int","bool",false,rfl,.int x,rfl,rfl,_,rfl,Ht ?_⟩;refine⟨_,rfl,_,"int","int",true,rfl,.int x,rfl,_,rfl,_,"int","int",true,rfl,.int x,rfl,rfl,_,rfl,Ht ?_⟩;refine⟨_,rfl,_,"int","str",false,rfl,.int x,rfl,_,rfl,_,"int","str",false,rfl,.int x,rfl,rfl,_,rfl,Hw ?_⟩;exact⟨_,rfl,_,rfl,_,RepY.same s1 _ r1,RepY.same s1 _ r2,by omega,q H1 s1⟩
 | str x=> have r1:=h1;have r2:=h2;rw[RepY] at h1 h2;obtain⟨rfl,hx⟩:=h1;obtain⟨rfl,_⟩:=h2;refine⟨_,rfl,Iv,λt1 ht1=>?_⟩;have s1:=Hz ht1 (.tup [V.ty "list",V.ty "tuple"]);have c1:(Hr H t1 (.tup [V.ty "list",V.ty "tuple"])) t1=some (.tup [V.ty "list",V.ty "tuple"]):=Hu;generalize Hr H t1 (.tup [V.ty "list",V.ty "tuple"])=H1 at*;refine⟨_,"str",t1,_,false,rfl,.str x,c1,rfl,rfl,_,rfl,Ht ?_⟩;refine⟨_,rfl,_,rfl,Ht ⟨_,rfl,_,rfl,Ht ?_⟩⟩;refine⟨_,rfl,_,"str","bool",false,rfl,.str x,rfl,_,rfl,_,"str","bool",false,rfl,.str x,rfl,rfl,_,rfl,Ht ?_⟩;refine⟨_,rfl,_,"str","int",false,rfl,.str x,rfl,_,rfl,_,"str","int",false,rfl,.str x,rfl,rfl,_,rfl,Ht ?_⟩;refine⟨_,rfl,_,"str","str",true,rfl,.str x,rfl,_,rfl,_,"str","str",true,rfl,.str x,rfl,rfl,_,rfl,Hw ?_⟩;exact⟨_,rfl,_,rfl,_,RepY.same s1 _ r1,RepY.same s1 _ r2,by omega,q H1 s1⟩
 | dic=> have r1:=h1;have r2:=h2;rw[RepY] at h1 h2;obtain⟨a,rfl,ha⟩:=h1;obtain⟨a',rfl,ha'⟩:=h2;refine⟨_,rfl,Iv,λt1 ht1=>?_⟩;have s1:=Hz ht1 (.tup [V.ty "list",V.ty "tuple"]);have c1:(Hr H t1 (.tup [V.ty "list",V.ty "tuple"])) t1=some (.tup [V.ty "list",V.ty "tuple"]):=Hu;generalize Hr H t1 (.tup [V.ty "list",V.ty "tuple"])=H1 at*;refine⟨_,"dict",t1,_,false,rfl,.dK (s1 _ _ ha'),c1,rfl,rfl,_,rfl,Ht ?_⟩;refine⟨_,rfl,_,rfl,Ht ⟨_,rfl,_,rfl,Ht ?_⟩⟩;refine⟨_,rfl,_,"dict","bool",false,rfl,.dK (s1 _ _ ha'),rfl,_,rfl,_,"dict","bool",false,rfl,.dK (s1 _ _ ha),rfl,rfl,_,rfl,Ht ?_⟩;refine⟨_,rfl,_,"dict","int",false,rfl,.dK (s1 _ _ ha'),rfl,_,rfl,_,"dict","int",false,rfl,.dK (s1 _ _ ha),rfl,rfl,_,rfl,Ht ?_⟩;refine⟨_,rfl,_,"dict","str",false,rfl,.dK (s1 _ _ ha),rfl,_,rfl,_,"dict","str",false,rfl,.dK (s1 _ _ ha'),rfl,rfl,_,rfl,Hw ?_⟩;exact⟨_,rfl,_,rfl,_,RepY.same s1 _ r1,RepY.same s1 _ r2,by omega,q H1 s1⟩
 | da d=> have r1:=h1;have r2:=h2;rw[RepY] at h1 h2;obtain⟨a,u,rfl,ha,hu⟩:=h1;obtain⟨a',u',rfl,ha',hu'⟩:=h2;refine⟨_,rfl,Iv,λt1 ht1=>?_⟩;have s1:=Hz ht1 (.tup [V.ty "list",V.ty "tuple"]);have c1:(Hr H t1 (.tup [V.ty "list",V.ty "tuple"])) t1=some (.tup [V.ty "list",V.ty "tuple"]):=Hu;generalize Hr H t1 (.tup [V.ty "list",V.ty "tuple"])=H1 at*;refine⟨_,"dict",t1,_,false,rfl,.dK (s1 _ _ ha'),c1,rfl,rfl,_,rfl,Ht ?_⟩;refine⟨_,rfl,_,rfl,Ht ⟨_,rfl,_,rfl,Ht ?_⟩⟩;refine⟨_,rfl,_,"dict","bool",false,rfl,.dK (s1 _ _ ha'),rfl,_,rfl,_,"dict","bool",false,rfl,.dK (s1 _ _ ha),rfl,rfl,_,rfl,Ht ?_⟩;refine⟨_,rfl,_,"dict","int",false,rfl,.dK (s1 _ _ ha'),rfl,_,rfl,_,"dict","int",false,rfl,.dK (s1 _ _ ha),rfl,rfl,_,rfl,Ht ?_⟩;refine⟨_,rfl,_,"dict","str",false,rfl,.dK (s1 _ _ ha),rfl,_,rfl,_,"dict","str",false,rfl,.dK (s1 _ _ ha'),rfl,rfl,_,rfl,Hw ?_⟩;exact⟨_,rfl,_,rfl,_,RepY.same s1 _ r1,RepY.same s1 _ r2,by omega,q H1 s1⟩
 | lst ds=>
  rw[RepY] at h1 h2;obtain⟨a,xs,rfl,ha,h9,hx⟩:=h1;obtain⟨a',xs',rfl,ha',_,hx'⟩:=h2;obtain⟨m,rfl⟩:∃m,n=m+1:=⟨n - 1,by rw[IA] at hn;omega⟩;have e0:=hsp m rfl;subst e0;rw[IA] at hn;have hl:=hx.length;have hl':=hx'.length;refine⟨_,rfl,Iv,λt1 ht1=>?_⟩;have s1:=Hz ht1 (.tup [V.ty "list",V.ty "tuple"]);have c1:(Hr H t1 (.tup [V.ty "list",V.ty "tuple"])) t1=some (.tup [V.ty "list",V.ty "tuple"]):=Hu;generalize Hr H t1 (.tup [V.ty "list",V.ty "tuple"])=H1 at*;refine⟨_,"list",t1,_,true,rfl,.lst (s1 _ _ ha'),c1,rfl,rfl,_,rfl,Hw ⟨_,rfl,Iv,λt2 ht2=>?_⟩⟩;have s2:=Hz ht2 (.tup [V.ty "list",V.ty "tuple"]);have c2:(Hr H1 t2 (.tup [V.ty "list",V.ty "tuple"])) t2=some (.tup [V.ty "list",V.ty "tuple"]):=Hu;generalize Hr H1 t2 (.tup [V.ty "list",V.ty "tuple"])=H2 at*;have S:=s1.trans s2;have ka:=S _ _ ha;have ka':=S _ _ ha';refine⟨_,"list",t2,_,true,rfl,.lst ka,c2,rfl,rfl,_,rfl,Ht ⟨_,rfl,_,"list","list",true,rfl,.lst ka,rfl,_,rfl,_,"list","list",true,rfl,.lst ka',rfl,rfl,_,rfl,Ht ?_⟩⟩;refine⟨_,rfl,a,_,rfl,.inl (SqL.of ka),_,rfl,a',_,rfl,.inl (SqL.of ka'),rfl,_,rfl,?_⟩;rw[decide_eq_true (show V.int ((xs.length:Nat):Int)=V.int ((xs'.length:Nat):Int) by rw[hl,hl'])];refine Hw ⟨_,rfl,a',_,rfl,.inl (SqL.of ka'),_,rfl,by omega,by omega,λp hp=>?_⟩;have s3:=Hz hp (.lst []);refine NF (n:=((xs'.length:Nat):Int).toNat) (λi σ' ys H'=>(∃v,σ'=[v,some (.ref a),some (.ref a')])∧Same H2 H'∧H' p=some (.lst ys)∧ys=(Bt i true).map V.bl) ⟨⟨none,rfl⟩,s3,Hu,rfl⟩ ?_ ?_ ?_
  · rintro i σ' ys H' hi ⟨_,_,h1,h2⟩;exact⟨h1,by rw[h2,Ab,Ck];exact II (by omega)⟩
  · rintro i σ' ys H4 N hi ⟨⟨v,rfl⟩,s4,h1,h2⟩ hN;have hi2:i<xs'.length:=by omega
    obtain⟨x,ex⟩:∃x,xs[i]?=some x:=⟨xs[i]'(by omega),by simp[hl,hl',hi2]⟩;obtain⟨x',ex'⟩:∃x,xs'[i]?=some x:=⟨xs'[i],by simp[hi2]⟩;obtain⟨d,ed,rd⟩:=hx.get ex;obtain⟨d',ed',rd'⟩:=hx'.get ex';rw[ed] at ed';injection ed' with ed';subst ed';have e0:(0:Int)+(i:Int)=(i:Int):=by omega
    have at1:IS xs (0+(i:Int))=some x:=by rw[e0];exact J6 ex
    have at2:IS xs' (0+(i:Int))=some x':=by rw[e0];exact J6 ex'
    have S4:=S.trans s4;refine⟨_,rfl,_,rfl,a,xs,_,x,rfl,rfl,.inl (SqL.of (S4 _ _ ha)),at1,_,rfl,_,rfl,a',xs',_,x',rfl,rfl,.inl (SqL.of (S4 _ _ ha')),at2,x,x',d,rfl,by omega,RepY.same S4 d rd,RepY.same S4 d rd',by have:=Pm (Am ed);omega,λH5 s5=>⟨s5 _ _ h1,hN _ _ _ ⟨⟨_,rfl⟩,?_,Hu,?_⟩⟩⟩
    · intro b o q;have:b≠p:=λz=>by rw[z,hp] at q;cases q
      rw[HD this];exact s5 _ _ (s4 b o q)
    · rw[h2,CF,Aj];rfl
  · rintro σ' ys H4 ⟨_,s4,h1,h2⟩;refine⟨p,_,rfl,SqL.of (by rw[h1,h2]),?_⟩;have e:(Bt ((xs'.length:Nat):Int).toNat true).all id=true:=by simp
    rw[e];exact q H4 (S.trans s4)
 | tup ds=>
  rw[RepY] at h1 h2;obtain⟨a,xs,rfl,ha,h9,hx⟩:=h1;obtain⟨a',xs',rfl,ha',_,hx'⟩:=h2;obtain⟨m,rfl⟩:∃m,n=m+1:=⟨n - 1,by rw[IA] at hn;omega⟩;have e0:=hsp m rfl;subst e0;rw[IA] at hn;have hl:=hx.length;have hl':=hx'.length;refine⟨_,rfl,Iv,λt1 ht1=>?_⟩;have s1:=Hz ht1 (.tup [V.ty "list",V.ty "tuple"]);have c1:(Hr H t1 (.tup [V.ty "list",V.ty "tuple"])) t1=some (.tup [V.ty "list",V.ty "tuple"]):=Hu;generalize Hr H t1 (.tup [V.ty "list",V.ty "tuple"])=H1 at*;refine⟨_,"tuple",t1,_,true,rfl,.tup (s1 _ _ ha'),c1,rfl,rfl,_,rfl,Hw ⟨_,rfl,Iv,λt2 ht2=>?_⟩⟩;have s2:=Hz ht2 (.tup [V.ty "list",V.ty "tuple"]);have c2:(Hr H1 t2 (.tup [V.ty "list",V.ty "tuple"])) t2=some (.tup [V.ty "list",V.ty "tuple"]):=Hu;generalize Hr H1 t2 (.tup [V.ty "list",V.ty "tuple"])=H2 at*;have S:=s1.trans s2;have ka:=S _ _ ha;have ka':=S _ _ ha';refine⟨_,"tuple",t2,_,true,rfl,.tup ka,c2,rfl,rfl,_,rfl,Ht ⟨_,rfl,_,"tuple","list",false,rfl,.tup ka,rfl,_,rfl,_,"tuple","list",false,rfl,.tup ka',rfl,rfl,_,rfl,Ht ?_⟩⟩;refine⟨_,rfl,a,_,rfl,.inr (SqT.of ka),_,rfl,a',_,rfl,.inr (SqT.of ka'),rfl,_,rfl,?_⟩;rw[decide_eq_true (show V.int ((xs.length:Nat):Int)=V.int ((xs'.length:Nat):Int) by rw[hl,hl'])];refine Hw ⟨_,rfl,a',_,rfl,.inr (SqT.of ka'),_,rfl,by omega,by omega,λp hp=>?_⟩;have s3:=Hz hp (.lst []);refine NF (n:=((xs'.length:Nat):Int).toNat) (λi σ' ys H'=>(∃v,σ'=[v,some (.ref a),some (.ref a')])∧Same H2 H'∧H' p=some (.lst ys)∧ys=(Bt i true).map V.bl) ⟨⟨none,rfl⟩,s3,Hu,rfl⟩ ?_ ?_ ?_
  · rintro i σ' ys H' hi ⟨_,_,h1,h2⟩;exact⟨h1,by rw[h2,Ab,Ck];exact II (by omega)⟩
  · rintro i σ' ys H4 N hi ⟨⟨v,rfl⟩,s4,h1,h2⟩ hN;have hi2:i<xs'.length:=by omega
    obtain⟨x,ex⟩:∃x,xs[i]?=some x:=⟨xs[i]'(by omega),by simp[hl,hl',hi2]⟩;obtain⟨x',ex'⟩:∃x,xs'[i]?=some x:=⟨xs'[i],by simp[hi2]⟩;obtain⟨d,ed,rd⟩:=hx.get ex;obtain⟨d',ed',rd'⟩:=hx'.get ex';rw[ed] at ed';injection ed' with ed';subst ed';have e0:(0:Int)+(i:Int)=(i:Int):=by omega
    have at1:IS xs (0+(i:Int))=some x:=by rw[e0];exact J6 ex
    have at2:IS xs' (0+(i:Int))=some x':=by rw[e0];exact J6 ex'
    have S4:=S.trans s4;refine⟨_,rfl,_,rfl,a,xs,_,x,rfl,rfl,.inr (SqT.of (S4 _ _ ha)),at1,_,rfl,_,rfl,a',xs',_,x',rfl,rfl,.inr (SqT.of (S4 _ _ ha')),at2,x,x',d,rfl,by omega,RepY.same S4 d rd,RepY.same S4 d rd',by have:=Pm (Am ed);omega,λH5 s5=>⟨s5 _ _ h1,hN _ _ _ ⟨⟨_,rfl⟩,?_,Hu,?_⟩⟩⟩
    · intro b o q;have:b≠p:=λz=>by rw[z,hp] at q;cases q
      rw[HD this];exact s5 _ _ (s4 b o q)
    · rw[h2,CF,Aj];rfl
  · rintro σ' ys H4 ⟨_,s4,h1,h2⟩;refine⟨p,_,rfl,SqL.of (by rw[h1,h2]),?_⟩;have e:(Bt ((xs'.length:Nat):Int).toNat true).all id=true:=by simp
    rw[e];exact q H4 (S.trans s4)
theorem YU(F:Fun K "_law_turned" "_law_turned" N_ f fd)(G_:Γ22 P w K mg base):FnOk P w K mg base HY 2 f fd ["well","row"] (RT):=by
 refine F.ok G8 (λvs H Q E h=>?_) (λcdv A outer s H vs Q E hr h=>?_)
 · obtain⟨b,g,l,a,n,xs,rfl,Bg,hn,ha,ab,ag,lx,q⟩:=h;rfl
 obtain⟨b,g,l,a,n,xs,rfl,Bg,hn,ha,ab,ag,lx,q⟩:=h;refine⟨_,(Hy (HK (i:=2) G8.nd rfl (Or.inr rfl) (Lm P4 rfl B.list_ Ll (Hq (pv 1) Hs)))
  (HB (HN (JO (N':=["k","well","left"]) (js:=[none,some 0,some 2]) rfl (I_ (N:=["well","row","left"]) (outer:=HI N_) (by decide+kernel)) (Mj rfl B.range_ (Hq (HP IF rfl B.len_ I0 (Hq (pv 1) Hs)) Hs)) (λ_ _ _ _ _=>(HJ (i:=0) M_ rfl (Or.inl rfl))) (λ_ _ _ _ _=>J7) (λ_ _ _ _ _=>(UQ K rfl Cb FO FP Se (pv 2) (Hq (HG G_ (hr.mono (by decide)) rfl (Hq (pv 1) (Hq (HP (Zd K rfl) rfl B.len_ I0 (Hq (pv 2) Hs)) Hs))) Hs))))))),?_⟩
 refine⟨_,rfl,a,_,rfl,.inl (SqL.of ha),λlf hlf=>?_⟩;have s0:=Hz hlf (.lst xs);have e0:(Hr H lf (.lst xs)) lf=some (.lst xs):=Hu;have B0:=Bg.same s0;obtain⟨fb,fg,fl⟩:=Bg.free hlf;have ha0:=s0 _ _ ha;have S0:SameB b g H (Hr H lf (.lst xs)):=s0.sameB;generalize Hr H lf (.lst xs)=H0 at*;refine⟨_,rfl,a,_,rfl,.inl (SqL.of ha0),_,rfl,(by omega),(by omega),λp hp=>?_⟩;have sp:=Hz hp (.lst []);obtain⟨pb,pg,pl⟩:=B0.free hp;have npf:p≠lf:=λe=>by rw[e,e0] at hp;cases hp
 refine NF (lo:=0) (n:=xs.length) (λi σ' ys H'=>(∃v,σ'=[v,some (.ref b),some (.ref lf)])∧(SameB b g H H'∧Well H' b g l (n+(i:Int)))∧H' p=some (.lst ys)∧∃zs:List V,H' lf=some (.lst zs)∧zs.length=xs.length - i∧(ys++zs).Perm xs) ⟨⟨none,rfl⟩,⟨S0.trans sp.sameB,(B0.same sp).mono (by omega)⟩,Hu,xs,sp _ _ e0,by simp,FN _⟩ ?_ ?_ ?_
 · rintro i σ' ys H' hi ⟨_,_,h1,zs,h2,h3,h4⟩;have:=h4.length_eq;rw[Aw] at this;exact⟨h1,II (by omega)⟩
 · rintro i σ' ys H' N hi ⟨⟨v,rfl⟩,⟨S1,B1⟩,h1,zs,h2,h3,h4⟩ hN;refine⟨_,rfl,.inl ⟨rfl,_,SqL.of h2⟩,_,rfl,_,rfl,lf,_,rfl,.inl (SqL.of h2),b,g,l,_,_,rfl,B1,by omega,by omega,JW (by omega),λc H2 c0 c1 B2 S2=>?_⟩;obtain⟨k,rfl⟩:∃k:Nat,c=(k:Int):=⟨c.toNat,by omega⟩;have hk:k<zs.length:=by omega
   have f2:=S2 _ _ h2 fb fg;have g2':=S2 _ _ h1 pb pg;refine⟨lf,zs,(k:Int),k,zs[k],rfl,rfl,f2,by omega,by omega,?_,Ak hk,?_⟩
   · unfold PySem.seqIndex?;simp;omega
   · refine⟨by rw[HD npf];exact g2',hN _ _ _ ⟨⟨_,rfl⟩,⟨?_,?_⟩,Hu,zs.eraseIdx k,?_,?_,?_⟩⟩
     · exact((S1.trans S2).off hlf).off (s0.free hp)
     · exact((B2.off fb fg fl).off pb pg pl).mono (by omega)
     · rw[HD npf.symm,Hu]
     · rw[Dz];simp[hk];omega
     · rw[CW];exact((SW zs k hk).append_left ys).trans h4
 · rintro σ' ys H' ⟨_,⟨S1,B1⟩,h1,zs,h2,h3,h4⟩;have:zs=[]:=Dj.mp (by omega);subst this;rw[Ej] at h4;exact q p ys H' (s0.free hp) h1 h4 (B1.mono (by omega)) S1
theorem Xi(F:Fun K "_law_box" "_law_box" Pc f fd)(G_:Γ22 P w K mg base)(Hd:Γ25 P w K mg base):FnOk P w K mg base HY 3 f fd ["well","names","ends"] (QX):=by
 refine F.ok GA (λvs H Q E h=>?_) (λcdv A outer s H vs Q E hr h=>?_)
 · obtain⟨b,g,l,a,n,fs,rfl,Bg,hn,ha,ab,ag,tf,q⟩:=h;rfl
 obtain⟨b,g,l,a,n,fs,rfl,Bg,hn,ha,ab,ag,tf,q⟩:=h;refine⟨_,(Hy (HK (i:=3) GA.nd rfl (Or.inl rfl) (IC Hs))
  (Hy (Kl B_ rfl (JJ (pv 1)) (HJ (i:=4) GA.nd rfl (Or.inl rfl)) (Hy (HK (i:=5) GA.nd rfl (Or.inl rfl) (HG G_ (hr.mono (by decide)) rfl (Hq (pv 0) (Hq Hv Hs))))
  (Hy (HK (i:=6) GA.nd rfl (Or.inl rfl) (HG Hd (hr.mono (by decide)) rfl (Hq (pv 0) Hs)))
  (Hy (HK (i:=7) GA.nd rfl (Or.inl rfl) (HG G_ (hr.mono (by decide)) rfl (Hq (pv 0) (Hq Hv Hs))))
  (Hy (Kl B_ rfl (Mj rfl B.range_ (Hq (HG G_ (hr.mono (by decide)) rfl (Hq (pv 0) (Hq Hv Hs))) Hs)) (HJ (i:=8) GA.nd rfl (Or.inl rfl)) (HB (HK (i:=7) GA.nd rfl (Or.inl rfl) (HC Ix (HC L3 (pv 7) Hv) (HG G_ (hr.mono (by decide)) rfl (Hq (pv 0) (Hq Hv Hs)))))))
  (Hy (HK (i:=9) GA.nd rfl (Or.inl rfl) (HP (VH rfl) rfl B.min_ QJ (Hq (HC Ix (pv 6) (pv 7)) (Hq (HC KC (HC L7 Hv Hv) Hv) Hs))))
  (Hy (HZ (PW.pt (Kj (Ja (pv 2)) (K8 (Il Lz (pv 5) Hv (Ie _))))) (HB (JQ (HV ID (IC (Hq (Ij (Hq Jy (Hq Jy Hs))) (Hq (Ij (Hq Jy (Hq (pv 9) Hs))) (Hq (Ij (Hq (pv 6) (Hq Jy Hs))) Hs)))) (pv 5) (λ_ _=>rfl)) (Jz rfl (H_ (HJ (i:=6) GA.nd rfl (Or.inl rfl)) (H_ (HJ (i:=9) GA.nd rfl (Or.inl rfl)) Jk))))) Ii)
  (HB (KE (Ld Cb CG CH LF (pv 3) (Hq (Ij (Hq (pv 4) (Hq (pv 6) (Hq (pv 9) Hs)))) Hs)))))))))))
  (HB (HN (Lm Ob rfl B.tuple_ Km (Hq (pv 3) Hs)))))),?_⟩
 have l3:=tf.len;refine⟨KM,λpr hpr=>?_⟩;have s0:=Hz hpr (.lst []);have e0:(Hr H pr (.lst [])) pr=some (.lst []):=Hu;have B0:=Bg.same s0;obtain⟨pb,pg,pl⟩:=Bg.free hpr;have ha0:=s0 _ _ ha;have S0:SameB b g H (Hr H pr (.lst [])):=s0.sameB;generalize Hr H pr (.lst [])=H0 at*;have npa:pr≠a:=λe=>by rw[e,ha] at hpr;cases hpr
 refine⟨_,rfl,a,rfl,⟨_,SqL.of ha0⟩,NE (K:=K) (a:=a) (xs:=fs.map V.str) (λi σ H'=>(∃y4 y5 y6 y7 y8 y9,σ=[some (.ref b),some (.ref a),some (.bl true),some (.ref pr),y4,y5,y6,y7,y8,y9])∧(SameB b g H H'∧Well H' b g l (n+20*(i:Int))∧H' a=some (.lst (fs.map V.str)))∧∃us:List (Addr×WP),H' pr=some (.lst (us.map λx=>V.ref x.1))∧(us.map (·.2)).map (·.1)=fs.take i∧(∀u∈us,H' u.1=some (.tup [.str u.2.1,eV u.2.2.1,eV u.2.2.2]))∧∀u∈us,IV u.2.2.1 u.2.2.2=true) ⟨⟨none,none,none,none,none,none,rfl⟩,⟨S0,B0.mono (by omega),ha0⟩,[],e0,rfl,λu hu=>by simp at hu,λu hu=>by simp at hu⟩ (λi σ H' _ ⟨_,⟨_,_,z⟩,_⟩=>SqL.of z) ?_ ?_⟩
 · rintro i x σ H1 hx ⟨⟨y4,y5,y6,y7,y8,y9,rfl⟩,⟨S1,B1,ha1⟩,us,e1,u1,g1,k1⟩;rw[Ai] at hx;cases ef:fs[i]? with
   | none=>rw[ef] at hx;cases hx
   | some fi=>
    rw[ef] at hx;obtain rfl:V.str fi=x:=A5 hx;have li:=(Al.mp ef).1;have lus:us.length≤3:=by have:=congrArg AX u1;rw[Ab,Ab,AH] at this;omega
    refine⟨_,rfl,b,g,l,_,8,rfl,B1,by omega,by decide,by decide,λpk H2 p0 p1 B2 S2=>?_⟩;refine⟨_,rfl,b,g,l,_,rfl,B2,by omega,λlow H3 w0 w1 B3 S3=>?_⟩;refine⟨_,rfl,b,g,l,_,9,rfl,B3,by omega,by decide,by decide,λwd H4 d0 d1 B4 S4=>?_⟩;refine⟨_,rfl,b,g,l,_,4,rfl,B4,by omega,by decide,by decide,λtk H5 t0 t1 B5 S5=>?_⟩;have S15:=(S2.trans S3).trans (S4.trans S5);have ha5:=S15 _ _ ha1 ab ag;have e5:=S15 _ _ e1 pb pg;have g5:∀u∈us,H5 u.1=some (.tup [.str u.2.1,eV u.2.2.1,eV u.2.2.2]):=λu hu=>B1.tup S15 (g1 u hu);obtain⟨N,eN,hN⟩:∃N:Nat,tk=(N:Int)∧N≤3:=⟨tk.toNat,by omega,by omega⟩;subst eN;refine⟨_,rfl,by omega,by omega,OV (lo:=0) (n:=((N:Int)).toNat) (λj σ H'=>(∃(wd:Int)(y8:Option V),σ=[some (.ref b),some (.ref a),some (.bl true),some (.ref pr),some (.str fi),some (.int pk),some (.int low),some (.int wd),y8,y9]∧0≤wd∧wd<9*100000^j)∧SameB b g H5 H'∧Well H' b g l (n+20*(i:Int)+9+(j:Int))) ⟨⟨wd,_,rfl,d0,by simpa using d1⟩,SameB.refl _ _ _,B5.mono (by omega)⟩ ?_ ?_⟩
    · rintro j σ H6 hj ⟨⟨wd',y8',rfl,z0,z1⟩,S6,B6⟩;have hj3:j<3:=by have:((N:Int)).toNat=N:=rfl;omega
      have p5:(100000:Int)^j≤100000^2:=by
       have:j=0∨j=1∨j=2:=by omega
       rcases this with rfl | rfl | rfl<;>decide
      refine⟨_,rfl,_,_,rfl,rfl,.inr ⟨by decide,by decide⟩,_,rfl,b,g,l,_,100000,rfl,B6,by omega,by decide,by decide,λc H7 c0 c1 B7 S7=>⟨_,_,rfl,rfl,⟨wd'*100000+c,_,rfl,by omega,?_⟩,S6.trans S7,B7.mono (by omega)⟩⟩;rw[Int.pow_succ];generalize(100000:Int)^j=z at*;omega
    · rintro σ H6 ⟨⟨wd',y8',rfl,z0,z1⟩,S6,B6⟩;have e6:=S6 _ _ e5 pb pg;have g6:∀u∈us,H6 u.1=some (.tup [.str u.2.1,eV u.2.2.1,eV u.2.2.2]):=λu hu=>B5.tup S6 (g5 u hu);have hNN:((N:Int)).toNat=N:=rfl;refine⟨_,rfl,_,rfl,_,_,rfl,rfl,_,_,rfl,rfl,JT (by decide) (by decide),_,_,rfl,rfl,?_⟩;dsimp only;obtain⟨hi,ehi,h1,h2⟩:∃hi:Int,(if 10^(15:Int).toNat - 1<low+wd' then 10^(15:Int).toNat - 1 else low+wd')=hi∧low≤hi∧hi≤bL:=by
       refine⟨_,rfl,?_,?_⟩
       · have:(10:Int)^(15:Int).toNat=1000000000000000:=by decide
         rw[this]
         split<;>omega
       · have:(10:Int)^(15:Int).toNat=1000000000000000:=by decide
         rw[this];show _≤(2000000000000000:Int)
         split<;>omega
      refine⟨_,_,rfl,?_⟩;rw[ehi];refine JL (λσ' H'=>∃lo hi:Option Int,σ'=[some (.ref b),some (.ref a),some (.bl true),some (.ref pr),some (.str fi),some (.int pk),some (eV lo),some (.int wd'),y8',some (eV hi)]∧IV lo hi=true∧Same H6 H') (λZ hZ=>?_) ?_
      · refine⟨_,rfl,_,rfl,Hw ⟨_,rfl,_,_,rfl,rfl,_,rfl,HS (λh=>?_) (λh=>?_)⟩⟩
        · have p3:pk<3:=of_decide_eq_true h;refine⟨Iv,λt1 ht1=>?_⟩;have s1:=Hz ht1 (.tup [V.non,V.non]);have c1:(Hr H6 t1 (.tup [V.non,V.non])) t1=some (.tup [V.non,V.non]):=Hu;generalize Hr H6 t1 (.tup [V.non,V.non])=J1 at*;refine⟨_,rfl,Iv,λt2 ht2=>?_⟩;have s2:=Hz ht2 (.tup [V.non,V.int hi]);have c2:(Hr J1 t2 (.tup [V.non,V.int hi])) t2=some (.tup [V.non,V.int hi]):=Hu;generalize Hr J1 t2 (.tup [V.non,V.int hi])=J2 at*;refine⟨_,rfl,Iv,λt3 ht3=>?_⟩;have s3:=Hz ht3 (.tup [V.int low,V.non]);have c3:(Hr J2 t3 (.tup [V.int low,V.non])) t3=some (.tup [V.int low,V.non]):=Hu;generalize Hr J2 t3 (.tup [V.int low,V.non])=J3 at*;refine⟨KB,λtl htl=>?_⟩;have s4:=Hz htl (.lst [V.ref t1,V.ref t2,V.ref t3]);have c4:(Hr J3 tl (.lst [V.ref t1,V.ref t2,V.ref t3])) tl=some (.lst [V.ref t1,V.ref t2,V.ref t3]):=Hu;generalize Hr J3 tl (.lst [V.ref t1,V.ref t2,V.ref t3])=J4 at*;have S:=s1.trans (s2.trans (s3.trans s4));have:pk=0∨pk=1∨pk=2:=by omega
          rcases this with rfl | rfl | rfl
          · exact⟨_,rfl,tl,_,_,_,rfl,rfl,SqL.of c4,rfl,t1,_,rfl,SqT.of ((s2.trans (s3.trans s4)) _ _ c1),rfl,_,_,rfl,_,_,rfl,rfl,hZ _ _ ⟨none,none,rfl,rfl,S⟩⟩
          · exact⟨_,rfl,tl,_,_,_,rfl,rfl,SqL.of c4,rfl,t2,_,rfl,SqT.of ((s3.trans s4) _ _ c2),rfl,_,_,rfl,_,_,rfl,rfl,hZ _ _ ⟨none,some hi,rfl,rfl,S⟩⟩
          · exact⟨_,rfl,tl,_,_,_,rfl,rfl,SqL.of c4,rfl,t3,_,rfl,SqT.of (s4 _ _ c3),rfl,_,_,rfl,_,_,rfl,rfl,hZ _ _ ⟨some low,none,rfl,rfl,S⟩⟩
        · exact hZ _ _ ⟨some low,some hi,rfl,decide_eq_true h1,Same.refl _⟩
      rintro σ' J ⟨lo,hi',rfl,le,sJ⟩;have e6':=sJ _ _ e6;refine⟨_,rfl,.inl ⟨rfl,_,SqL.of e6'⟩,_,rfl,_,rfl,_,rfl,KB,λt ht=>?_⟩;have st:=Hz ht (.tup [V.str fi,eV lo,eV hi']);have e7:=st _ _ e6';refine⟨pr,_,_,rfl,rfl,e7,(by rw[Ab];exact II (by omega)),?_⟩;have tl:=K6 (o:= .lst ((us.map λq=>V.ref q.1)++[V.ref t])) e7;have S7:=(S1.trans (S15.trans (S6.trans (sJ.trans st).sameB)));refine⟨⟨_,_,_,_,_,_,rfl⟩,⟨S7.off hpr,((B6.same (sJ.trans st)).off pb pg pl).mono (by omega),?_⟩,us++[(t,fi,lo,hi')],?_,?_,?_,?_⟩
      · rw[HD npa.symm];exact st _ _ (sJ _ _ (S6 _ _ ha5 ab ag))
      · rw[Hu,Aj];rfl
      · rw[Aj,Aj,u1,IW ef];rfl
      · intro u hu;rcases Aq.mp hu with z | z
        · exact tl _ _ (st _ _ (sJ _ _ (g6 u z)))
        · rw[Af.mp z];exact tl _ _ Hu
      · intro u hu;rcases Aq.mp hu with z | z
        · exact k1 u z
        · rw[Af.mp z];exact le
 · rintro σ H1 ⟨⟨y4,y5,y6,y7,y8,y9,rfl⟩,⟨S1,B1,ha1⟩,us,e1,u1,g1,k1⟩;rw[Ab,C6] at u1;have lus:us.length=fs.length:=by have:=congrArg AX u1;simpa using this
   refine⟨_,rfl,pr,_,rfl,.inl ⟨SqL.of e1,λt ht=>?_⟩⟩;have st:=Hz ht (.tup (us.map λx=>V.ref x.1));refine q t (us.map (·.2)) _ ⟨us,rfl,Hu,λx hx=>st _ _ (g1 x hx)⟩ ⟨⟨by rw[Ab];omega,λp hp=>?_,by rw[u1];exact tf.asc⟩,u1⟩ ((B1.same st).mono (by rw[Ab];omega)) (S1.trans st.sameB);obtain⟨x,hx,rfl⟩:=AN.mp hp;exact⟨tf.ok _ (by rw[←u1];exact Ax (Ax hx)),k1 x hx⟩
theorem Xj(F:Fun K "_law_cut" "_law_cut" Pd f fd)(G_:Γ22 P w K mg base)(Hd:Γ25 P w K mg base):FnOk P w K mg base HY 3 f fd ["well","wish"] (QY):=by
 refine F.ok GB (λvs H Q E h=>?_) (λcdv A outer s H vs Q E hr h=>?_)
 · obtain⟨b,g,l,a,n,w',fs,rfl,Bg,hn,hw,bx,f1,f3,q⟩:=h;rfl
 obtain⟨b,g,l,a,n,w',fs,rfl,Bg,hn,hw,bx,f1,f3,q⟩:=h;refine⟨_,(Hy (HK (i:=2) GB.nd rfl (Or.inl rfl) (HG G_ (hr.mono (by decide)) rfl (Hq (pv 0) (Hq (HP IF rfl B.len_ I0 (Hq (pv 1) Hs)) Hs))))
  (Hy (JQ (HV Jg (pv 1) (pv 2) (λ_ _=>rfl)) (Jz rfl (H_ (HJ (i:=3) GB.nd rfl (Or.inl rfl)) (H_ (HJ (i:=4) GB.nd rfl (Or.inl rfl)) (H_ (HJ (i:=5) GB.nd rfl (Or.inl rfl)) Jk)))))
  (Hy (HZ (PW.pt (Kj (IY (Kb (pv 4))) (K8 (Il JX (pv 4) (pv 5) (Ie _))))) (HB (HN (IC (Hq (pv 1) Hs)))) Ii)
  (Hy (HZ (PW.pt (Kj (IY (JD (pv 4))) (K8 (IY (JD (pv 5)))))) (HB (HK (i:=6) GB.nd rfl (Or.inl rfl) (HG Hd (hr.mono (by decide)) rfl (Hq (pv 0) Hs)))) (HB (HZ (IY (JD (pv 4))) (HB (HK (i:=6) GB.nd rfl (Or.inl rfl) (HC KC (HC KC (pv 5) Hv) (HG G_ (hr.mono (by decide)) rfl (Hq (pv 0) (Hq Hv Hs)))))) (HB (HZ (IY (JD (pv 5))) (HB (HK (i:=6) GB.nd rfl (Or.inl rfl) (HC Ix (pv 4) (HG G_ (hr.mono (by decide)) rfl (Hq (pv 0) (Hq Hv Hs)))))) (Hy (HK (i:=7) GB.nd rfl (Or.inl rfl) (HC L3 (HC Ix (HC L3 (HG G_ (hr.mono (by decide)) rfl (Hq (pv 0) (Hq Hv Hs))) Hv) (HG G_ (hr.mono (by decide)) rfl (Hq (pv 0) (Hq Hv Hs)))) Hv))
  (HB (HK (i:=6) GB.nd rfl (Or.inl rfl) (HC Ix (pv 4) (HC K3 (HC Ix (pv 7) (HG G_ (hr.mono (by decide)) rfl (Hq (pv 0) (Hq Hv Hs)))) (HC KC (pv 5) (pv 4))))))))))))
  (Hy (HK (i:=8) GB.nd rfl (Or.inl rfl) (HC Ko (HC Ko (IQ Kc (pv 1) IN (IP (pv 2))) (Ij (Hq (Ij (Hq (pv 3) (Hq (pv 4) (Hq (pv 6) Hs)))) Hs))) (IQ Kc (pv 1) (IP (HC Ix (pv 2) Hv)) IN)))
  (HB (HN (IC (Hq (pv 8) (Hq (HC Ko (HC Ko (IQ Kc (pv 1) IN (IP (pv 2))) (Ij (Hq (Ij (Hq (pv 3) (Hq (HC Ix (pv 6) Hv) (Hq (pv 5) Hs)))) Hs))) (IQ Kc (pv 1) (IP (HC Ix (pv 2) Hv)) IN)) Hs)))))))))),?_⟩
 have lw:w'.length=fs.length:=by have:=congrArg AX bx.fl;simpa using this
 have hw0:=hw;obtain⟨ps,rfl,hA,hP⟩:=hw;rw[Ab] at lw;refine⟨_,rfl,_,rfl,a,_,rfl,.inr (SqT.of hA),b,g,l,_,_,rfl,Bg,by omega,(by rw[Ab];omega),(by rw[Ab];exact JW (by omega)),λc H1 c0 c1 B1 S1=>?_⟩;obtain⟨k,rfl⟩:∃k:Nat,c=(k:Int):=⟨c.toNat,by omega⟩;rw[Ab] at c1;have hk:k<ps.length:=by omega
 obtain⟨P1,eP⟩:∃P1,ps[k]?=some P1:=⟨ps[k],Ak hk⟩;have mP:=Am eP;have hat:IS (ps.map λp=>V.ref p.1) (k:Int)=some (V.ref P1.1):=J6 (by rw[Ai,eP];rfl);have eW:(ps.map (·.2))[k]?=some P1.2:=by rw[Ai,eP];rfl
 have le:=(bx.ok.ok P1.2 (Ax mP)).2;obtain⟨pa,f',lo,hi⟩:=P1;dsimp only at*;refine⟨_,rfl,_,rfl,a,_,_,_,rfl,rfl,SqT.of (Bg.tup S1 hA),hat,pa,_,rfl,SqT.of (Bg.tup S1 (hP _ mP)),rfl,_,_,rfl,_,_,rfl,_,_,rfl,rfl,?_⟩;dsimp only;have W1:WishAt H1 a (ps.map (·.2)):=hw0.sameW Bg S1;refine JL (λσ' H'=>((lo=none∨lo≠hi)∧σ'=[some (.ref b),some (.ref a),some (.int (k:Int)),some (.str f'),some (eV lo),some (eV hi),none,none,none])∧H'=H1) (λZ hZ=>?_) ?_
 · cases lo with
   | none=>exact⟨_,rfl,_,rfl,Ht (Ht (hZ _ _ ⟨⟨.inl rfl,rfl⟩,rfl⟩))⟩
   | some l'=>
    cases hi with
    | none=>exact⟨_,rfl,_,rfl,Hw ⟨_,rfl,_,rfl,rfl,_,rfl,Ht (hZ _ _ ⟨⟨.inr (by simp),rfl⟩,rfl⟩)⟩⟩
    | some h'=> refine⟨_,rfl,_,rfl,Hw ⟨_,rfl,_,rfl,rfl,_,rfl,HS (λh=>?_) (λh=>hZ _ _ ⟨⟨.inr λe=>h (decide_eq_true (by cases e;rfl)),rfl⟩,rfl⟩)⟩⟩;refine⟨_,rfl,Kf,λr hr=>?_⟩;have s2:=Hz hr (.lst [V.ref a]);obtain⟨rb,rg,rl⟩:=B1.free hr;refine q r [(a,ps.map (·.2))] _ (S1.none hr rb rg) ⟨Hu,λx hx=>?_⟩ (by simp) (by simp) (NT _) ((B1.same s2).mono (by omega)) (S1.trans s2.sameB);rw[Af.mp hx];exact⟨W1.same s2,bx⟩
 rintro σ' H1' ⟨⟨hne,rfl⟩,rfl⟩;refine JL (λσ' H'=>∃(m:Int)(y7:Option V),σ'=[some (.ref b),some (.ref a),some (.int (k:Int)),some (.str f'),some (eV lo),some (eV hi),some (.int m),y7,none]∧(∀l,lo=some l→l≤m)∧(∀u,hi=some u→m<u)∧SameB b g H1' H'∧Well H' b g l (n+8)) (λZ hZ=>?_) ?_
 · cases lo with
   | none=>
    cases hi with
    | none=> refine⟨_,rfl,_,rfl,Hw ⟨_,rfl,_,rfl,Hw ?_⟩⟩;exact⟨_,rfl,b,g,l,_,rfl,B1,by omega,λm H2 _ _ B2 S2=>hZ _ _ ⟨m,_,rfl,λ_ e=>(by cases e),λ_ e=>(by cases e),S2,B2.mono (by omega)⟩⟩
    | some u=> refine⟨_,rfl,_,rfl,Hw ⟨_,rfl,_,rfl,Ht ⟨_,rfl,_,rfl,Hw ?_⟩⟩⟩;exact⟨_,rfl,_,_,rfl,rfl,_,rfl,b,g,l,_,100,rfl,B1,by omega,by decide,by decide,λm H2 m0 _ B2 S2=>⟨_,_,rfl,rfl,hZ _ _ ⟨u - 1 - m,_,rfl,λ_ e=>(by cases e),λ_ e=>(by cases e;omega),S2,B2.mono (by omega)⟩⟩⟩
   | some l'=>
    cases hi with
    | none=> refine⟨_,rfl,_,rfl,Ht (Ht ⟨_,rfl,_,rfl,Ht ⟨_,rfl,_,rfl,Hw ?_⟩⟩)⟩;exact⟨_,rfl,_,rfl,b,g,l,_,100,rfl,B1,by omega,by decide,by decide,λm H2 m0 _ B2 S2=>⟨_,_,rfl,rfl,hZ _ _ ⟨l'+m,_,rfl,λ_ e=>(by cases e;omega),λ_ e=>(by cases e),S2,B2.mono (by omega)⟩⟩⟩
    | some h'=>
     have le':l'≤h':=of_decide_eq_true le;have hlt:l'<h':=by
      rcases hne with e | e
      · cases e
      · have:l'≠h':=λz=>e (by rw[z]);omega
     refine⟨_,rfl,_,rfl,Ht (Ht ⟨_,rfl,_,rfl,Ht ⟨_,rfl,_,rfl,Ht ?_⟩⟩)⟩;refine⟨_,rfl,b,g,l,_,100000,rfl,B1,by omega,by decide,by decide,λc1 H2 _ _ B2 S2=>⟨_,_,rfl,rfl,.inr ⟨by decide,by decide⟩,_,rfl,b,g,l,_,100000,rfl,B2,by omega,by decide,by decide,λc2 H3 _ _ B3 S3=>⟨_,_,rfl,rfl,_,_,rfl,rfl,.inr ⟨by decide,by decide⟩,?_⟩⟩⟩;refine⟨_,rfl,_,rfl,_,rfl,b,g,l,_,100000,rfl,B3,by omega,by decide,by decide,λc3 H4 _ _ B4 S4=>⟨_,_,rfl,rfl,_,rfl,_,rfl,_,_,rfl,rfl,_,_,rfl,rfl,(by omega),_,_,rfl,rfl,?_⟩⟩;refine hZ _ _ ⟨l'+((c1*100000+c2)*100000+c3)%(h' - l'),_,rfl,λ_ e=>?_,λ_ e=>?_,S2.trans (S3.trans S4),B4.mono (by omega)⟩
     · cases e;have:=Cj ((c1*100000+c2)*100000+c3) (show h' - l'≠0 by omega);omega
     · cases e;have:=BR ((c1*100000+c2)*100000+c3) (show 0<h' - l' by omega);omega
 rintro σ' H4 ⟨m,y7,rfl,m1,m2,S4,B4⟩;have W4:WishAt H4 a (ps.map (·.2)):=W1.sameW B1 S4;refine OQ (k:=k) (f:=f') (lo:=lo) (hi:=some m) rfl rfl W4 (by rw[Ab];omega) (λ_ _ _ h=>⟨_,rfl,h⟩) (λ_ _ _ h=>⟨_,rfl,h⟩) (λ_ _ _ h=>⟨_,rfl,h⟩) λo1 H5 s5 W5=>?_;refine⟨_,rfl,?_⟩;refine OQ (k:=k) (f:=f') (lo:=some (m+1)) (hi:=hi) rfl rfl (W4.same s5) (by rw[Ab];omega) (λ_ _ _ h=>⟨_,rfl,h⟩) (λ_ _ _ h=>⟨_,rfl,_,_,rfl,rfl,h⟩) (λ_ _ _ h=>⟨_,rfl,h⟩) λo2 H6 s6 W6=>?_;refine⟨Iv,λr hr=>?_⟩;have s7:=Hz hr (.lst [V.ref o1,V.ref o2]);have B6:=B4.same (s5.trans s6);obtain⟨rb,rg,rl⟩:=B6.free hr;have S6:=(S1.trans S4).trans (s5.trans s6).sameB;refine q r [(o1,HQ (ps.map (·.2)) k (f',lo,some m)),(o2,HQ (ps.map (·.2)) k (f',some (m+1),hi))] _ (S6.none hr rb rg) ⟨Hu,λx hx=>?_⟩ (by simp) (by simp) (NH eW m1 m2) ((B6.same s7).mono (by omega)) (S6.trans s7.sameB);rcases As.mp hx with rfl | hx
 · refine⟨W5.same (s6.trans s7),LX bx eW ?_⟩;cases lo with
   | none=>rfl
   | some l'=>exact decide_eq_true (m1 l' rfl)
 · rw[Af.mp hx];refine⟨W6.same s7,LX bx eW ?_⟩;cases hi with
   | none=>rfl
   | some u=>exact decide_eq_true (by have:=m2 u rfl;omega)
theorem YS(F:Fun K "_law_cut_up" "_law_cut_up" Pt f fd)(G_:Γ22 P w K mg base)(He:Γ32 P w K mg base):FnOk P w K mg base HY 4 f fd ["well","wish","many"] (RO):=by
 refine F.ok GC (λvs H Q E h=>?_) (λcdv A outer s H vs Q E hr h=>?_)
 · obtain⟨b,g,l,a,n,many,w',fs,rfl,Bg,hn,hw,bx,f1,f3,m0,m1,q⟩:=h;rfl
 obtain⟨b,g,l,a,n,many,w',fs,rfl,Bg,hn,hw,bx,f1,f3,m0,m1,q⟩:=h;refine⟨_,(Hy (HK (i:=3) GC.nd rfl (Or.inl rfl) (IC (Hq (pv 1) Hs)))
  (Hy (Kl B_ rfl (Mj rfl B.range_ (Hq (pv 2) Hs)) (HJ (i:=4) GC.nd rfl (Or.inl rfl)) (Hy (HK (i:=5) GC.nd rfl (Or.inl rfl) (HG G_ (hr.mono (by decide)) rfl (Hq (pv 0) (Hq (HP IF rfl B.len_ I0 (Hq (pv 3) Hs)) Hs))))
  (HB (HK (i:=3) GC.nd rfl (Or.inl rfl) (HC Li (HC Li (IQ Lk (pv 3) IN (IP (pv 5))) (HG He (hr.mono (by decide)) rfl (Hq (pv 0) (Hq (HV ID (pv 3) (pv 5) (λ_ _=>rfl)) Hs)))) (IQ Lk (pv 3) (IP (HC Ix (pv 5) Hv)) IN))))))
  (HB (HN (pv 3))))),?_⟩
 refine⟨_,rfl,Kf,λr hr'=>?_⟩;have s0:=Hz hr' (.lst [V.ref a]);have B0:=Bg.same s0;have A0:EsAt fs (Hr H r (.lst [V.ref a])) r [(a,w')]:=⟨Hu,λx hx=>by rw[Af.mp hx];exact⟨hw.same s0,bx⟩⟩;obtain⟨M,rfl,hM⟩:∃M:Nat,many=(M:Int)∧M≤6:=⟨many.toNat,by omega,by omega⟩;generalize Hr H r (.lst [V.ref a])=H0 at*;refine⟨_,rfl,_,rfl,by omega,by omega,OV (lo:=0) (n:=((M:Int)).toNat) (λi σ H'=>(∃(r':Addr)(y4 y5:Option V)(ps:List (Addr×List WP)),σ=[some (.ref b),some (.ref a),some (.int (M:Int)),some (.ref r'),y4,y5]∧H r'=none∧EsAt fs H' r' ps∧ps.length≤i+1∧1≤ps.length∧J5 w' (ps.map (·.2)))∧SameB b g H H'∧Well H' b g l (n+15*(i:Int))) ⟨⟨r,none,none,[(a,w')],rfl,hr',A0,by simp,by simp,NT _⟩,s0.sameB,B0.mono (by omega)⟩ ?_ ?_⟩
 · rintro i σ H1 hi ⟨⟨r',y4,y5,ps,rfl,nr,A1,lp,lp1,sh⟩,S1,B1⟩;obtain⟨qb,qg,ql⟩:r'≠b∧r'≠g∧r'≠l:=Bg.free nr;have hM':((M:Int)).toNat=M:=rfl;refine⟨_,rfl,_,rfl,r',_,rfl,.inl (SqL.of A1.at'),b,g,l,_,_,rfl,B1,by omega,(by rw[Ab];omega),(by rw[Ab];exact JW (by omega)),λc H2 c0 c1 B2 S2=>?_⟩;obtain⟨k,rfl⟩:∃k:Nat,c=(k:Int):=⟨c.toNat,by omega⟩;rw[Ab] at c1;have hk:k<ps.length:=by omega
   obtain⟨P1,eP⟩:∃P1,ps[k]?=some P1:=⟨ps[k],Ak hk⟩;have mP:=Am eP;have hat:IS (ps.map λp=>V.ref p.1) (k:Int)=some (V.ref P1.1):=J6 (by rw[Ai,eP];rfl);have hd:ps.drop k=P1::ps.drop (k+1):=by obtain⟨_,e⟩:=Al.mp eP;rw[Ba hk,e]
   have esp:ps=ps.take k++P1::ps.drop (k+1):=by rw[←hd,CV]
   have A2:=A1.sameW B1 qb qg S2;refine⟨_,rfl,_,rfl,_,rfl,r',_,rfl,SqL.of A2.at',λp1 hp1=>?_⟩;rw[LC rfl,←Cv];have s3:=Hz hp1 (.lst ((ps.take k).map λx=>V.ref x.1));have e3:(Hr H2 p1 (.lst ((ps.take k).map λx=>V.ref x.1))) p1=some (.lst ((ps.take k).map λx=>V.ref x.1)):=Hu;obtain⟨p1b,p1g,p1l⟩:=B2.free hp1;generalize Hr H2 p1 (.lst ((ps.take k).map λx=>V.ref x.1))=H3 at*;have B3:=B2.same s3;have A3:=A2.same s3;refine⟨_,rfl,_,rfl,_,rfl,r',_,_,_,rfl,rfl,SqL.of A3.at',hat,b,g,l,P1.1,_,P1.2,fs,rfl,B3,by omega,(A3.ok P1 mP).1,(A3.ok P1 mP).2,f1,f3,λr2 qs H4 n2 A4 q2 q1 sh2 B4 S4=>?_⟩;have e4:=S4 _ _ e3 p1b p1g;have A34:=A3.sameW B3 qb qg S4;refine⟨p1,r2,_,_,rfl,rfl,e4,A4.at',(by rw[Ab,AH,Ab];exact Jt (by omega)),λp3 hp3=>?_⟩;have s5:=Hz hp3 (.lst (((ps.take k).map λx=>V.ref x.1)++qs.map λx=>V.ref x.1));have e5:(Hr H4 p3 (.lst (((ps.take k).map λx=>V.ref x.1)++qs.map λx=>V.ref x.1))) p3=some (.lst (((ps.take k).map λx=>V.ref x.1)++qs.map λx=>V.ref x.1)):=Hu;generalize Hr H4 p3 (.lst (((ps.take k).map λx=>V.ref x.1)++qs.map λx=>V.ref x.1))=H5 at*;refine⟨_,rfl,_,rfl,_,_,rfl,rfl,_,rfl,r',_,rfl,SqL.of (s5 _ _ A34.at'),λp4 hp4=>?_⟩;rw[LB (n:=k+1) (by omega),←CI];have s6:=Hz hp4 (.lst ((ps.drop (k+1)).map λx=>V.ref x.1));have e6:(Hr H5 p4 (.lst ((ps.drop (k+1)).map λx=>V.ref x.1))) p4=some (.lst ((ps.drop (k+1)).map λx=>V.ref x.1)):=Hu;generalize Hr H5 p4 (.lst ((ps.drop (k+1)).map λx=>V.ref x.1))=H6 at*;refine⟨p3,p4,_,_,rfl,rfl,s6 _ _ e5,e6,(by rw[Aw,Ab,AH,Ab,Ab,BM];exact Jt (by omega)),λp5 hp5=>?_⟩;have s7:=Hz hp5 (.lst (((ps.take k).map λx=>V.ref x.1)++(qs.map λx=>V.ref x.1)++(ps.drop (k+1)).map λx=>V.ref x.1));have s47:=s5.trans (s6.trans s7);have B6:=B4.same (s5.trans s6);have S6:=S1.trans (S2.trans (s3.sameB.trans (S4.trans (s5.trans s6).sameB)));have sh0:=sh;rw[esp,Aj,AK] at sh0;refine⟨⟨p5,_,_,ps.take k++qs++ps.drop (k+1),rfl,B6.back S6 _ hp5,⟨?_,λx hx=>?_⟩,?_,?_,?_⟩,S6.trans s7.sameB,(B6.same s7).mono (by omega)⟩
   · rw[Hu,Aj,Aj]
   · rcases Aq.mp hx with z | z
     · rcases Aq.mp z with z | z
       · have:=A34.ok x (BC z);exact⟨this.1.same s47,this.2⟩
       · exact⟨(A4.ok x z).1.same s47,(A4.ok x z).2⟩
     · have:=A34.ok x (Cw z);exact⟨this.1.same s47,this.2⟩
   · rw[Aw,Aw,AH,BM];omega
   · rw[Aw,Aw];omega
   · rw[Aj,Aj];exact SZ sh0 sh2
 · rintro σ H1 ⟨⟨r',y4,y5,ps,rfl,nr,A1,lp,lp1,sh⟩,S1,B1⟩;have hM':((M:Int)).toNat=M:=rfl;exact⟨_,rfl,q r' ps H1 nr A1 (by omega) lp1 sh (B1.mono (by omega)) S1⟩
theorem Zs(F:Fun K "_law_widened" "_law_widened" Py f fd)(G_:Γ22 P w K mg base):FnOk P w K mg base HY 2 f fd ["well","wish"] (SE):=by
 refine F.ok GD (λvs H Q E h=>?_) (λcdv A outer s H vs Q E hr h=>?_)
 · obtain⟨b,g,l,a,n,w',fs,rfl,Bg,hn,hw,bx,f1,f3,q⟩:=h;rfl
 obtain⟨b,g,l,a,n,w',fs,rfl,Bg,hn,hw,bx,f1,f3,q⟩:=h;refine⟨_,(Hy (HK (i:=2) GD.nd rfl (Or.inl rfl) (HG G_ (hr.mono (by decide)) rfl (Hq (pv 0) (Hq (HP IF rfl B.len_ I0 (Hq (pv 1) Hs)) Hs))))
  (Hy (HK (i:=3) GD.nd rfl (Or.inl rfl) (HG G_ (hr.mono (by decide)) rfl (Hq (pv 0) (Hq Hv Hs))))
  (Hy (JQ (HV Jg (pv 1) (pv 2) (λ_ _=>rfl)) (Jz rfl (H_ (HJ (i:=4) GD.nd rfl (Or.inl rfl)) (H_ (HJ (i:=5) GD.nd rfl (Or.inl rfl)) (H_ (HJ (i:=6) GD.nd rfl (Or.inl rfl)) Jk)))))
  (Hy (HZ (Il JX (pv 3) Hv (Ie _)) (HB (HN (pv 1))) Ii)
  (Hy (HZ (Il JX (pv 3) Hv (Ie _)) (HB (HN (HC Ko (IQ Kc (pv 1) IN (IP (pv 2))) (IQ Kc (pv 1) (IP (HC Ix (pv 2) Hv)) IN)))) Ii)
  (HB (HN (HC Ko (HC Ko (IQ Kc (pv 1) IN (IP (pv 2))) (Ij (Hq (HV ID (IC (Hq (Ij (Hq (pv 4) (Hq Jy (Hq (pv 6) Hs)))) (Hq (Ij (Hq (pv 4) (Hq (pv 5) (Hq Jy Hs)))) Hs))) (HC KC (pv 3) Hv) (λ_ _=>rfl)) Hs))) (IQ Kc (pv 1) (IP (HC Ix (pv 2) Hv)) IN))))))))),?_⟩
 have lw:w'.length=fs.length:=by have:=congrArg AX bx.fl;simpa using this
 have hw0:=hw;obtain⟨ps,rfl,hA,hP⟩:=hw;rw[Ab] at lw;refine⟨_,rfl,_,rfl,a,_,rfl,.inr (SqT.of hA),b,g,l,_,_,rfl,Bg,by omega,(by rw[Ab];omega),(by rw[Ab];exact JW (by omega)),λc H1 c0 c1 B1 S1=>?_⟩;obtain⟨k,rfl⟩:∃k:Nat,c=(k:Int):=⟨c.toNat,by omega⟩;rw[Ab] at c1;have hk:k<ps.length:=by omega
 refine⟨_,rfl,b,g,l,_,4,rfl,B1,by omega,by decide,by decide,λpk H2 p0 p1 B2 S2=>?_⟩;have S12:=S1.trans S2;obtain⟨P1,eP⟩:∃P1,ps[k]?=some P1:=⟨ps[k],Ak hk⟩;have mP:=Am eP;have hat:IS (ps.map λp=>V.ref p.1) (k:Int)=some (V.ref P1.1):=J6 (by rw[Ai,eP];rfl);have eW:(ps.map (·.2))[k]?=some P1.2:=by rw[Ai,eP];rfl
 obtain⟨pa,f',lo,hi⟩:=P1;dsimp only at*;have W2:WishAt H2 a (ps.map (·.2)):=hw0.sameW Bg S12;have inw:∀{w:List WP},BoxE fs w→Js fs w:=λ{w}h p hp=>by rw[←h.fl];exact Ax hp
 refine⟨_,rfl,_,rfl,a,_,_,_,rfl,rfl,SqT.of (Bg.tup S12 hA),hat,pa,_,rfl,SqT.of (Bg.tup S12 (hP _ mP)),rfl,_,_,rfl,_,_,rfl,_,_,rfl,rfl,?_⟩;refine⟨_,rfl,rfl,_,rfl,HS (λh=>?_) (λh0=>?_)⟩
 · exact⟨_,rfl,q a _ H2 W2 bx.ok (inw bx) (λ_ h=>h) (B2.mono (by omega)) S12⟩
 refine⟨_,rfl,rfl,_,rfl,HS (λh=>?_) (λh1=>?_)⟩
 · refine XY (k:=k) rfl rfl W2 (by rw[Ab];omega) λr H3 s3 W3=>?_;have sub:((ps.map (·.2)).eraseIdx k).Sublist (ps.map (·.2)):=Dw _ _;exact q r _ H3 W3 ⟨AY sub.length_le bx.ok.len,λp hp=>bx.ok.ok p (sub.subset hp),bx.ok.asc.sublist (sub.map _)⟩ (λp hp=>inw bx p (sub.subset hp)) (λP t=>XZ t) ((B2.same s3).mono (by omega)) (S12.trans s3.sameB)
 have hpk:pk=2∨pk=3:=by have z0:pk≠0:=λe=>h0 (decide_eq_true (by rw[e]));have z1:pk≠1:=λe=>h1 (decide_eq_true (by rw[e]));omega
 rcases hpk with rfl | rfl
 · refine SQ (k:=k) (f:=f') (lo:=none) (hi:=hi) rfl rfl W2 (by rw[Ab];omega) ?_ λr H3 s3 W3=>?_
   · intro J R sJ hR;refine⟨_,rfl,_,rfl,KB,λt1 ht1=>?_⟩;have s1:=Hz ht1 (.tup [V.str f',V.non,eV hi]);have c1:(Hr J t1 (.tup [V.str f',V.non,eV hi])) t1=some (.tup [V.str f',V.non,eV hi]):=Hu;generalize Hr J t1 (.tup [V.str f',V.non,eV hi])=J1 at*;refine⟨_,rfl,_,rfl,KB,λt2 ht2=>?_⟩;have s2:=Hz ht2 (.tup [V.str f',eV lo,V.non]);refine⟨Iv,λtl htl=>?_⟩;have s3:=Hz htl (.lst [V.ref t1,V.ref t2]);exact⟨_,rfl,_,_,rfl,rfl,tl,_,_,_,rfl,rfl,SqL.of Hu,rfl,hR t1 _ (s1.trans (s2.trans s3)) (s3 _ _ (s2 _ _ c1))⟩
   · have Bx:=LX bx eW (lo:=none) (hi:=hi) rfl;exact q r _ H3 W3 Bx.ok (inw Bx) (λP t=>T8 eW (λk z=>by unfold Ia at z ⊢;rw[AB] at z ⊢;exact⟨rfl,z.2⟩) t) ((B2.same s3).mono (by omega)) (S12.trans s3.sameB)
 · refine SQ (k:=k) (f:=f') (lo:=lo) (hi:=none) rfl rfl W2 (by rw[Ab];omega) ?_ λr H3 s3 W3=>?_
   · intro J R sJ hR;refine⟨_,rfl,_,rfl,KB,λt1 ht1=>?_⟩;have s1:=Hz ht1 (.tup [V.str f',V.non,eV hi]);generalize Hr J t1 (.tup [V.str f',V.non,eV hi])=J1 at*;refine⟨_,rfl,_,rfl,KB,λt2 ht2=>?_⟩;have s2:=Hz ht2 (.tup [V.str f',eV lo,V.non]);refine⟨Iv,λtl htl=>?_⟩;have s3:=Hz htl (.lst [V.ref t1,V.ref t2]);exact⟨_,rfl,_,_,rfl,rfl,tl,_,_,_,rfl,rfl,SqL.of Hu,rfl,hR t2 _ (s1.trans (s2.trans s3)) (s3 _ _ Hu)⟩
   · have Bx:=LX bx eW (lo:=lo) (hi:=none) (by cases lo<;>rfl);exact q r _ H3 W3 Bx.ok (inw Bx) (λP t=>T8 eW (λk z=>by unfold Ia at z ⊢;rw[AB] at z ⊢;exact⟨z.1,rfl⟩) t) ((B2.same s3).mono (by omega)) (S12.trans s3.sameB)
theorem Zr(F:Fun K "_law_shorter" "_law_shorter" Oe f fd)(G_:Γ22 P w K mg base)(Hd:Γ25 P w K mg base):FnOk P w K mg base HY 3 f fd ["well","wish"] (SD):=by
 refine F.ok GE (λvs H Q E h=>?_) (λcdv A outer s H vs Q E hr h=>?_)
 · obtain⟨b,g,l,a,n,w',fs,rfl,Bg,hn,hw,bx,f1,f3,q⟩:=h;rfl
 obtain⟨b,g,l,a,n,w',fs,rfl,Bg,hn,hw,bx,f1,f3,q⟩:=h;refine⟨_,(Hy (HK (i:=2) GE.nd rfl (Or.inr rfl) (HG G_ (hr.mono (by decide)) rfl (Hq (pv 0) (Hq (HP IF rfl B.len_ I0 (Hq (pv 1) Hs)) Hs))))
  (Hy (JQ (HV Jg (pv 1) (pv 2) (λ_ _=>rfl)) (Jz rfl (H_ (HJ (i:=3) GE.nd rfl (Or.inr rfl)) (H_ (HJ (i:=4) GE.nd rfl (Or.inl rfl)) (H_ (HJ (i:=5) GE.nd rfl (Or.inl rfl)) Jk)))))
  (Hy (HZ (PW.pt (Kj (IY (Kb (pv 4))) (K8 (Il JX (pv 4) (pv 5) (Ie _))))) (HB (HN (Ij (Hq (IC Hs) (Hq (pv 1) Hs))))) Ii)
  (Hy (HK (i:=6) GE.nd rfl (Or.inl rfl) (HG Hd (hr.mono (by decide)) rfl (Hq (pv 0) Hs)))
  (Hy (HK (i:=7) GE.nd rfl (Or.inl rfl) (IC (Hq (Ij (Hq (Ij (Hq (pv 4) (Hq (pv 6) Hs))) (Hq (Ij (Hq (HC Ix (pv 6) Hv) (Hq (pv 5) Hs))) Hs))) Hs)))
  (Hy (HZ (IY (Kb (pv 4))) (HB (HK (i:=7) GE.nd rfl (Or.inl rfl) (IC (Hq (Ij (Hq (Ij (Hq (HC Ix (pv 4) Hv) (Hq (pv 5) Hs))) (Hq (Ij (Hq (pv 4) (Hq (pv 4) Hs))) Hs))) Hs)))) (HB (HZ (IY (Kb (pv 5))) (HB (HK (i:=7) GE.nd rfl (Or.inl rfl) (IC (Hq (Ij (Hq (Ij (Hq (pv 4) (Hq (HC KC (pv 5) Hv) Hs))) (Hq (Ij (Hq (pv 5) (Hq (pv 5) Hs))) Hs))) Hs)))) Ii)))
  (Hy (M6 (N':=["span","wish","at","field"]) (js:=[none,some 1,some 2,some 3]) (i:=8) GE.nd rfl (Or.inl rfl) rfl (I_ (N:=["well","wish","at","field","low","high","number","pairs","made"]) (outer:=HI Oe) (by decide+kernel)) (K5 (HV ID (pv 7) Hv (λ_ _=>rfl))) (λ_ _ _ _ _=>(HJ (i:=0) MZ rfl (Or.inl rfl))) (λ_ _ _ _ _=>J7) (λ_ _ _ _ _=>(HC Ko (HC Ko (IQ Kc (pv 1) IN (IP (pv 2))) (Ij (Hq (Ij (Hq (pv 3) (Hq (HV (Ma K rfl) (pv 0) Hv (λ_ _=>rfl)) (Hq (HV (Ma K rfl) (pv 0) Hv (λ_ _=>rfl)) Hs)))) Hs))) (IQ Kc (pv 1) (IP (HC Ix (pv 2) Hv)) IN))))
  (HB (HN (Ij (Hq (IC (Hq (HV ID (pv 8) Hv (λ_ _=>rfl)) Hs)) (Hq (HV ID (pv 8) Hv (λ_ _=>rfl)) Hs)))))))))))),?_⟩
 have lw:w'.length=fs.length:=by have:=congrArg AX bx.fl;simpa using this
 have hw0:=hw;obtain⟨ps,rfl,hA,hP⟩:=hw;rw[Ab] at lw;refine⟨_,rfl,_,rfl,a,_,rfl,.inr (SqT.of hA),b,g,l,_,_,rfl,Bg,by omega,(by rw[Ab];omega),(by rw[Ab];exact JW (by omega)),λc H1 c0 c1 B1 S1=>?_⟩;obtain⟨k,rfl⟩:∃k:Nat,c=(k:Int):=⟨c.toNat,by omega⟩;rw[Ab] at c1;have hk:k<ps.length:=by omega
 obtain⟨P1,eP⟩:∃P1,ps[k]?=some P1:=⟨ps[k],Ak hk⟩;have mP:=Am eP;have hat:IS (ps.map λp=>V.ref p.1) (k:Int)=some (V.ref P1.1):=J6 (by rw[Ai,eP];rfl);have eW:(ps.map (·.2))[k]?=some P1.2:=by rw[Ai,eP];rfl
 have le:=(bx.ok.ok P1.2 (Ax mP)).2;obtain⟨pa,f',lo,hi⟩:=P1;dsimp only at*;refine⟨_,rfl,_,rfl,a,_,_,_,rfl,rfl,SqT.of (Bg.tup S1 hA),hat,pa,_,rfl,SqT.of (Bg.tup S1 (hP _ mP)),rfl,_,_,rfl,_,_,rfl,_,_,rfl,rfl,?_⟩;dsimp only;have W1:WishAt H1 a (ps.map (·.2)):=hw0.sameW Bg S1;refine JL (λσ' H'=>((lo=none∨lo≠hi)∧σ'=[some (.ref b),some (.ref a),some (.int (k:Int)),some (.str f'),some (eV lo),some (eV hi),none,none,none])∧H'=H1) (λZ hZ=>?_) ?_
 · cases lo with
   | none=>exact⟨_,rfl,_,rfl,Ht (Ht (hZ _ _ ⟨⟨.inl rfl,rfl⟩,rfl⟩))⟩
   | some l'=>
    cases hi with
    | none=>exact⟨_,rfl,_,rfl,Hw ⟨_,rfl,_,rfl,rfl,_,rfl,Ht (hZ _ _ ⟨⟨.inr (by simp),rfl⟩,rfl⟩)⟩⟩
    | some h'=> refine⟨_,rfl,_,rfl,Hw ⟨_,rfl,_,rfl,rfl,_,rfl,HS (λh=>?_) (λh=>hZ _ _ ⟨⟨.inr λe=>h (decide_eq_true (by cases e;rfl)),rfl⟩,rfl⟩)⟩⟩;refine⟨Nm,λr hr=>?_⟩;have s2:=Hz hr (.lst []);obtain⟨rb,rg,rl⟩:=B1.free hr;have c2:(Hr H1 r (.lst [])) r=some (.lst []):=Hu;have B2:=B1.same s2;have W2:=W1.same s2;have n2:=S1.none hr rb rg;have S2:SameB b g H (Hr H1 r (.lst [])):=S1.trans s2.sameB;generalize Hr H1 r (.lst [])=H2 at*;refine⟨_,rfl,Iv,λt ht=>?_⟩;have s3:=Hz ht (.tup [V.ref r,V.ref a]);exact q t r a [] (ps.map (·.2)) _ n2 Hu ⟨s3 _ _ c2,λx hx=>by simp at hx⟩ (by simp) (W2.same s3) bx (NT _) ((B2.same s3).mono (by omega)) (S2.trans s3.sameB)
 rintro σ' H1' ⟨⟨hne,rfl⟩,rfl⟩;refine⟨_,rfl,b,g,l,_,rfl,B1,by omega,λnb H2 _ _ B2 S2=>?_⟩;refine Kp ?_;dsimp only;refine Ru ?_;refine Ph (va:=eV lo) (vb:= .int nb) (vc:= .int (nb+1)) (vd:=eV hi) (λ_ _ h=>⟨_,rfl,h⟩) (λ_ _ h=>⟨_,rfl,h⟩) (λ_ _ h=>⟨_,rfl,_,_,rfl,rfl,h⟩) (λ_ _ h=>⟨_,rfl,h⟩) λpl t3 t1 t2 H3 s3 g1 g2' g3 g4=>?_;have le':∀l' h',lo=some l'→hi=some h'→l'<h':=λl' h' e1 e2=>by
  subst e1 e2;have z:l'≤h':=of_decide_eq_true le;rcases hne with e | e
  · cases e
  · have:l'≠h':=λy=>e (by rw[y]);omega
 refine Kp ?_;refine JL (λσ' H'=>∃(pl t3 t1 t2:Addr)(l1 h1 l2 h2:Option Int),σ'=[some (.ref b),some (.ref a),some (.int (k:Int)),some (.str f'),some (eV lo),some (eV hi),some (.int nb),some (.ref pl),none]∧H' pl=some (.lst [V.ref t3])∧H' t3=some (.tup [V.ref t1,V.ref t2])∧H' t1=some (.tup [eV l1,eV h1])∧H' t2=some (.tup [eV l2,eV h2])∧IV l1 h1=true∧IV l2 h2=true∧J5 (ps.map (·.2)) [HQ (ps.map (·.2)) k (f',l1,h1),HQ (ps.map (·.2)) k (f',l2,h2)]∧Same H2 H') (λZ hZ=>?_) ?_
 · cases lo with
   | some l'=>
    refine⟨_,rfl,_,rfl,Hw ?_⟩;refine R8 ?_;refine Ph (va:= .int (l'+1)) (vb:=eV hi) (vc:= .int l') (vd:= .int l') (λ_ _ h=>⟨_,rfl,_,_,rfl,rfl,h⟩) (λ_ _ h=>⟨_,rfl,h⟩) (λ_ _ h=>⟨_,rfl,h⟩) (λ_ _ h=>⟨_,rfl,h⟩) λpl t3 t1 t2 H4 s4 g1 g2' g3 g4=>?_;refine hZ _ _ ⟨pl,t3,t1,t2,some (l'+1),hi,some l',some l',rfl,g1,g2',g3,g4,?_,decide_eq_true (D4 _),Y7 (NH eW (λx e=>by cases e;exact D4 _) λu e=>le' _ _ rfl e),s3.trans s4⟩;cases hi with
    | none=>rfl
    | some h'=>exact decide_eq_true (by have:=le' _ _ rfl rfl;omega)
   | none=>
    cases hi with
    | none=>exact⟨_,rfl,_,rfl,Ht ⟨_,rfl,_,rfl,Ht (hZ _ _ ⟨pl,t3,t1,t2,none,some nb,some (nb+1),none,rfl,g1,g2',g3,g4,rfl,rfl,NH eW (λx e=>by cases e) (λu e=>by cases e),s3⟩)⟩⟩
    | some u=> refine⟨_,rfl,_,rfl,Ht ⟨_,rfl,_,rfl,Hw ?_⟩⟩;refine R8 ?_;refine Ph (va:= .non) (vb:= .int (u - 1)) (vc:= .int u) (vd:= .int u) (λ_ _ h=>⟨_,rfl,h⟩) (λ_ _ h=>⟨_,rfl,_,_,rfl,rfl,h⟩) (λ_ _ h=>⟨_,rfl,h⟩) (λ_ _ h=>⟨_,rfl,h⟩) λpl t3 t1 t2 H4 s4 g1 g2' g3 g4=>?_;have cs:=NH (n:=u - 1) eW (λx e=>by cases e) (λv e=>by cases e;omega);rw[show u - 1+1=u by omega] at cs;exact hZ _ _ ⟨pl,t3,t1,t2,none,some (u - 1),some u,some u,rfl,g1,g2',g3,g4,rfl,decide_eq_true (D4 _),cs,s3.trans s4⟩
 rintro σ' H4 ⟨pl',t3',t1',t2',l1,h1,l2,h2,rfl,k1,k2,k3,k4,le1,le2,sh,s4⟩;have B4:=B2.same s4;have W4:WishAt H4 a (ps.map (·.2)):=(W1.sameW B1 S2).same s4;refine⟨_,rfl,pl',_,_,_,rfl,rfl,SqL.of k1,rfl,t3',rfl,⟨_,SqT.of k2⟩,λp hp=>?_⟩;have sp:=Hz hp (.lst []);obtain⟨pb,pg,pn⟩:=B4.free hp;refine Nt (K:=K) (xs:=[V.ref t1',V.ref t2']) (λi σ' ys H'=>(∃v,σ'=[v,some (.ref a),some (.int (k:Int)),some (.str f')])∧Same H4 H'∧H' p=some (.lst ys)∧∃qs:List (Addr×List WP),ys=qs.map (λq=>V.ref q.1)∧qs.map (·.2)=[HQ (ps.map (·.2)) k (f',l1,h1),HQ (ps.map (·.2)) k (f',l2,h2)].take i∧∀q∈qs,WishAt H' q.1 q.2) ⟨⟨none,rfl⟩,sp,Hu,[],rfl,rfl,λq hq=>by simp at hq⟩ ?_ ?_ ?_
 · rintro i σ' ys H' hi ⟨_,s,e1,qs,rfl,e2,_⟩;refine⟨s.seqT (SqT.of k2),e1,?_⟩;have:=congrArg AX e2;rw[Ab,AH] at this;rw[Ab];exact II (by simp at this;omega)
 · rintro i x σ' ys H' N hx ⟨⟨v,rfl⟩,s,e1,qs,rfl,e2,e3⟩ hN;have step:∀(t:Addr)(l' h':Option Int),x= .ref t→H4 t=some (.tup [eV l',eV h'])→[HQ (ps.map (·.2)) k (f',l1,h1),HQ (ps.map (·.2)) k (f',l2,h2)].take (i+1)=[HQ (ps.map (·.2)) k (f',l1,h1),HQ (ps.map (·.2)) k (f',l2,h2)].take i++[HQ (ps.map (·.2)) k (f',l',h')]→L5 p (JA 0) Jm
    (Jh Lf (Jh Lf (Kt Jo (HW 1) Kd (Ki (HW 2))) (Jn (Ji (Jn (Ji (HW 3) (Ji (Jh (Ku K) (HW 0) (tC (V.int 0))) (Ji (Jh (Ku K) (HW 0) (tC (V.int 1))) IJ)))) IJ))) (Kt Jo (HW 1) (Ki (Jh (JS λi j=>V.int (i+j)) (HW 2) (tC (V.int 1)))) Kd)) (qs.map λq=>V.ref q.1) x [v,some (.ref a),some (.int (k:Int)),some (.str f')] H' N:=by
    rintro t l' h' rfl et tk;refine M4 ?_;refine OQ (k:=k) (f:=f') (lo:=l') (hi:=h') rfl rfl (W4.same s) (by rw[Ab];omega) (λ_ _ _ h=>⟨_,rfl,h⟩) (λJ R sJ h=>⟨_,rfl,t,_,_,_,rfl,rfl,SqT.of (sJ _ _ (s _ _ et)),rfl,h⟩) (λJ R sJ h=>⟨_,rfl,t,_,_,_,rfl,rfl,SqT.of (sJ _ _ (s _ _ et)),rfl,h⟩) λo1 H5 s5 W5=>?_;have c5:=s5 _ _ e1;have tl:=K6 (o:= .lst ((qs.map λq=>V.ref q.1)++[V.ref o1])) c5;refine⟨c5,hN _ _ _ ⟨⟨_,rfl⟩,K7 (s.trans s5) hp,Hu,qs++[(o1,HQ (ps.map (·.2)) k (f',l',h'))],by rw[Aj];rfl,by rw[Aj,e2,tk];rfl,λq hq=>?_⟩⟩;rcases Aq.mp hq with z | z
    · exact((e3 q z).same s5).keep tl
    · rw[Af.mp z];exact W5.keep tl
   have li:i<2:=(Al.mp hx).1;have:i=0∨i=1:=by omega
   rcases this with rfl | rfl
   · exact step t1' l1 h1 (A5 hx).symm k3 rfl
   · exact step t2' l2 h2 (A5 hx).symm k4 rfl
 · rintro σ' ys H5 ⟨_,s5,e1,qs,rfl,e2,e3⟩;obtain⟨x1,x2,rfl⟩:=Uy (by have:=congrArg AX e2;rw[Ab] at this;exact this);have y1:x1.2=HQ (ps.map (·.2)) k (f',l1,h1):=(EM e2).1;have y2:x2.2=HQ (ps.map (·.2)) k (f',l2,h2):=(EM (EM e2).2).1;refine⟨_,rfl,p,_,_,_,rfl,rfl,SqL.of e1,rfl,Kf,λr hr=>?_⟩;have s6:=Hz hr (.lst [V.ref x1.1]);have c6:(Hr H5 r (.lst [V.ref x1.1])) r=some (.lst [V.ref x1.1]):=Hu;have B5:=B4.same s5;obtain⟨rb,rg,rl⟩:=B5.free hr;have S5:=(S1.trans S2).trans (s4.trans s5).sameB;have n6:=S5.none hr rb rg;have S6:SameB b g H (Hr H5 r (.lst [V.ref x1.1])):=S5.trans s6.sameB;have B6:=B5.same s6;have g6:=s6 _ _ e1;generalize Hr H5 r (.lst [V.ref x1.1])=H6 at*;refine⟨_,rfl,p,_,_,_,rfl,rfl,SqL.of g6,rfl,Iv,λt ht=>?_⟩;have s7:=Hz ht (.tup [V.ref r,V.ref x2.1]);refine q t r x2.1 [x1] x2.2 _ n6 Hu ⟨s7 _ _ c6,λx hx=>?_⟩ (by simp) ((e3 x2 (by simp)).same (s6.trans s7)) (by rw[y2];exact LX bx eW le2) (by show J5 _ [x1.2,x2.2];rw[y1,y2];exact sh) ((B6.same s7).mono (by omega)) (S6.trans s7.sameB);rw[Af.mp hx];exact⟨(e3 x1 (by simp)).same (s6.trans s7),by rw[y1];exact LX bx eW le1⟩
theorem UL{c T:Addr}(F:Fun K "law" "law" K2 f fd)(hc:fd.code= .ref c)(hhd:∀h,K.In h→FQ h c T)(hbm:base.BuiltinsAt mg T)(Hf:Γ21 P w K mg base)(G_:Γ22 P w K mg base)(Hg:Γ24 P w K mg base)(Hh:Γ31 P w K mg base)(Hi:Γ33 P w K mg base)(Hj:Γ30 P w K mg base)(Hk:Γ20 P w K mg base)(Hc:Γ29 P w K mg base)(Hl:Γ35 P w K mg base)(Hm:Γ28 P w K mg base)(Hn:Γ27 P w K mg base)(Ho:Γ34 P w K mg base):FnOk P w K mg base HY 13 f fd ["script"] (Nr K T):=by
 refine F.okC GF (λvs H Q E h=>?_) hc (λA outer s H vs Q E hr h=>?_)
 · obtain⟨a,ns,rfl,hS,h63,eT,q⟩:=h;rfl
 obtain⟨a,ns,rfl,hS,h63,eT,q⟩:=h;refine⟨_,(Hy (HK (i:=1) GF.nd rfl (Or.inr rfl) (HG Hf (hr.mono (by decide)) rfl (Hq (pv 0) Hs)))
  (Hy (HK (i:=2) GF.nd rfl (Or.inl rfl) (HG G_ (hr.mono (by decide)) rfl (Hq (pv 1) (Hq Hv Hs))))
  (Hy (HK (i:=3) GF.nd rfl (Or.inl rfl) (HG G_ (hr.mono (by decide)) rfl (Hq (pv 1) (Hq Hv Hs))))
  (Hy (HK (i:=4) GF.nd rfl (Or.inl rfl) (HG Hg (hr.mono (by decide)) rfl (Hq (pv 1) (Hq Hv Hs))))
  (Hy (HK (i:=5) GF.nd rfl (Or.inr rfl) (pv 4))
  (Hy (HZ (PW.pt (Kj (Il Lb (HP IF rfl B.len_ I0 (Hq (pv 4) Hs)) Hv (Ie _)) (K8 (Il JX (HG G_ (hr.mono (by decide)) rfl (Hq (pv 1) (Hq Hv Hs))) Hv (Ie _))))) (Hy (HK (i:=6) GF.nd rfl (Or.inl rfl) (HG G_ (hr.mono (by decide)) rfl (Hq (pv 1) (Hq (HP IF rfl B.len_ I0 (Hq (pv 4) Hs)) Hs))))
  (HB (HK (i:=5) GF.nd rfl (Or.inr rfl) (HC Li (IQ Lk (pv 4) IN (IP (pv 6))) (IQ Lk (pv 4) (IP (HC Ix (pv 6) Hv)) IN))))) Ii)
  (Hy (HK (i:=7) GF.nd rfl (Or.inl rfl) (HG Hh (hr.mono (by decide)) rfl (Hq (pv 1) (Hq (pv 5) (Hq Jp Hs)))))
  (Hy (HK (i:=8) GF.nd rfl (Or.inl rfl) (HG Hi (hr.mono (by decide)) rfl (Hq (pv 1) (Hq (pv 7) (Hq (pv 3) Hs)))))
  (Hy (HK (i:=9) GF.nd rfl (Or.inl rfl) Jy)
  (Hy (HZ (Il JX (pv 2) Hv (Ie _)) (Hy (HK (i:=10) GF.nd rfl (Or.inr rfl) (L8 Lb (HG G_ (hr.mono (by decide)) rfl (Hq (pv 1) (Hq Hv Hs))) Hv (Ie _)))
  (HB (M6 (N':=["one","well","wider"]) (js:=[none,some 1,some 10]) (i:=8) GF.nd rfl (Or.inl rfl) rfl (I_ (N:=["script","well","pick","cuts","names","own","at","wish","parts","gap","wider","rest","more","wishes","handed","found"]) (outer:=HI K2) (by decide+kernel)) (JJ (pv 8)) (λ_ _ _ _ _=>(HJ (i:=0) MY rfl (Or.inl rfl))) (λ_ _ _ _ _=>J7) (λ_ _ _ _ _=>(NG (Ja (pv 2)) (HG Ho (hr.mono (by decide)) rfl (Hq (pv 1) (Hq (pv 0) Hs))) (pv 0)))))) (Hy (HK (i:=6) GF.nd rfl (Or.inl rfl) (HG G_ (hr.mono (by decide)) rfl (Hq (pv 1) (Hq (HP IF rfl B.len_ I0 (Hq (pv 8) Hs)) Hs))))
  (Hy (JQ (NG (Il JX (pv 2) Hv (Ie _)) (HG Hl (hr.mono (by decide)) rfl (Hq (pv 1) (Hq (HV ID (pv 8) (pv 6) (λ_ _=>rfl)) Hs))) (Ij (Hq (IC Hs) (Hq (HV ID (pv 8) (pv 6) (λ_ _=>rfl)) Hs)))) (Jz rfl (H_ (HJ (i:=11) GF.nd rfl (Or.inl rfl)) (H_ (HJ (i:=9) GF.nd rfl (Or.inl rfl)) Jk))))
  (Hy (HK (i:=8) GF.nd rfl (Or.inl rfl) (HC Li (HC Li (IQ Lk (pv 8) IN (IP (pv 6))) (pv 11)) (IQ Lk (pv 8) (IP (HC Ix (pv 6) Hv)) IN)))
  (Hy (HZ (PW.pt (Kj (Il Lz (HP IF rfl B.len_ I0 (Hq (pv 8) Hs)) Hv (Ie _)) (K8 (Il Lz (HP IF rfl B.len_ I0 (Hq (pv 5) Hs)) (HP IF rfl B.len_ I0 (Hq (pv 4) Hs)) (Ie _))))) (Hy (M6 (N':=["field","own"]) (js:=[none,some 5]) (i:=12) GF.nd rfl (Or.inl rfl) rfl (I_ (N:=["script","well","pick","cuts","names","own","at","wish","parts","gap","wider","rest","more","wishes","handed","found"]) (outer:=HI K2) (by decide+kernel)) (JJ (pv 4)) (λ_ _ _ _ _=>(HJ (i:=0) MX rfl (Or.inl rfl))) (λ_ _ _ _ _=>L6 (Il (WA K rfl) (pv 0) (pv 1) (by with_unfolding_all rfl))) (λ_ _ _ _ _=>(Ij (Hq (pv 0) (Hq Jy (Hq Jy Hs))))))
  (HB (KE (Ld Cb CG CH LF (pv 8) (Hq (Lm Ob rfl B.tuple_ Km (Hq (We 1 "part" (UR rfl hhd hbm) (hr.mono (by decide)) rfl B.sorted_ (Hq (HC Li (Lm P4 rfl B.list_ Ll (Hq (pv 9) Hs)) (pv 12)) Hs)) Hs)) Hs))))) Ii)
  (HB (HZ (PW.pt (Kj (Il Lz (HP IF rfl B.len_ I0 (Hq (pv 8) Hs)) Hv (Ie _)) (K8 (Il (QR (Me hr)) (pv 8) (IC Hs) (Ie _))))) (HB (KE (Ld Cb CG CH LF (pv 8) (Hq (HV ID (pv 8) (HG G_ (hr.mono (by decide)) rfl (Hq (pv 1) (Hq (HP IF rfl B.len_ I0 (Hq (pv 8) Hs)) Hs))) (λ_ _=>rfl)) Hs)))) Ii)))))))
  (Hy (HK (i:=13) GF.nd rfl (Or.inl rfl) (HG Hj (hr.mono (by decide)) rfl (Hq (pv 1) (Hq (pv 8) Hs))))
  (Hy (HK (i:=14) GF.nd rfl (Or.inl rfl) (Lm P4 rfl B.list_ Ll (Hq (pv 13) Hs)))
  (Hy (HK (i:=15) GF.nd rfl (Or.inr rfl) (HG Hk (hr.mono (by decide)) rfl (Hq (pv 7) (Hq (pv 14) Hs))))
  (Hy (HZ (Jj (Ja (HG Hc (hr.mono (by decide)) rfl (Hq (pv 14) (Hq (pv 13) Hs))))) (HB (HN Jp)) Ii)
  (Hy (HZ (IY (JD (pv 9))) (HB (HN (LW (JD (pv 15))))) Ii)
  (Hy (HZ (PW.pt (JB (Jj (Ja (HG Hm (hr.mono (by decide)) rfl (Hq (pv 15) Hs)))) (JB (Jj (Ja (HG Hn (hr.mono (by decide)) rfl (Hq (pv 7) (Hq (pv 15) Hs))))) (JZ (Jj (Ja (HG Hn (hr.mono (by decide)) rfl (Hq (pv 9) (Hq (pv 15) Hs))))))))) (HB (HN Jp)) Ii)
  (HB (HN (L8 (UN (Me hr)) (JO (N':=["one","found"]) (js:=[none,some 15]) rfl (I_ (N:=["script","well","pick","cuts","names","own","at","wish","parts","gap","wider","rest","more","wishes","handed","found"]) (outer:=HI K2) (by decide+kernel)) (JJ (pv 13)) (λ_ _ _ _ _=>(HJ (i:=0) MW rfl (Or.inl rfl))) (λ_ _ _ _ _=>L6 (Ja (HG Hn (hr.mono (by decide)) rfl (Hq (pv 0) (Hq (pv 1) Hs))))) (λ_ _ _ _ _=>(pv 0))) (IC Hs) (Ie _)))))))))))))))))))),?_⟩
 refine⟨_,rfl,a,ns,rfl,hS,h63,λb g l H1 B1 S1 nb ng=>?_⟩;have Tb:T≠b:=λz=>by rw[z,nb] at eT;cases eT
 have Tg:T≠g:=λz=>by rw[z,ng] at eT;cases eT
 refine⟨_,rfl,b,g,l,_,3,rfl,B1,by decide,by decide,by decide,λpick H2 p0 p1 B2 S2=>?_⟩;refine⟨_,rfl,b,g,l,_,7,rfl,B2,by decide,by decide,by decide,λcuts H3 d0 d1 B3 S3=>?_⟩;refine⟨_,rfl,b,g,l,_,3,rfl,B3,by decide,by decide,by decide,λna fs H4 n4 e4 asc4 ok4 l1 l3 B4 S4=>?_⟩;obtain⟨xb,xg,_⟩:=B3.free n4;have l3:fs.length≤3:=by omega
 have tF:ToldF fs:=⟨l3,ok4,asc4⟩;have eT4:=S4 _ _ (S3 _ _ (S2 _ _ (S1 _ _ eT) Tb Tg) Tb Tg) Tb Tg;refine⟨_,rfl,?_⟩;dsimp only;refine JL (λσ' H'=>∃(oa:Addr)(own:List Str)(y6:Option V),σ'=[some (.ref a),some (.ref b),some (.int pick),some (.int cuts),some (.ref na),some (.ref oa),y6,none,none,none,none,none,none,none,none,none]∧H' oa=some (.lst (own.map V.str))∧(oa≠b∧oa≠g)∧own.Sublist fs∧1≤own.length∧H' na=some (.lst (fs.map V.str))∧Well H' b g l 2000∧H' T=some (.tbl #[])) (λZ hZ=>?_) ?_
 · refine⟨_,rfl,na,_,rfl,.inl (SqL.of e4),_,_,rfl,rfl,_,rfl,HS (λh=>?_) (λh=>?_)⟩
   · have l2:1<fs.length:=by
      have:=of_decide_eq_true h;rw[Ab] at this;omega
     refine⟨_,rfl,b,g,l,_,2,rfl,B4,by decide,by decide,by decide,λc5 H5 _ _ B5 S5=>⟨rfl,_,rfl,HS (λ_=>?_) (λ_=>?_)⟩⟩
     · have e5:=S5 _ _ e4 xb xg;refine⟨_,rfl,_,rfl,na,_,rfl,.inl (SqL.of e5),b,g,l,_,_,rfl,B5,by decide,(by rw[Ab];omega),(by rw[Ab];exact JW (by omega)),λc H6 c0 c1 B6 S6=>?_⟩;obtain⟨k,rfl⟩:∃k:Nat,c=(k:Int):=⟨c.toNat,by omega⟩;rw[Ab] at c1;have e6:=S6 _ _ e5 xb xg;refine X9 (k:=k) rfl rfl e6 (by rw[Ab];omega) λr H7 nr s7 e7=>?_;obtain⟨rb,rg,_⟩:=B6.free nr;refine hZ _ _ ⟨r,fs.eraseIdx k,_,rfl,by rw[e7,OW],⟨rb,rg⟩,Dw _ _,?_,s7 _ _ e6,(B6.same s7).mono (by omega),s7 _ _ (S6 _ _ (S5 _ _ eT4 Tb Tg) Tb Tg)⟩;rw[Dz]
       split<;>omega
     · exact hZ _ _ ⟨na,fs,_,rfl,S5 _ _ e4 xb xg,⟨xb,xg⟩,List.Sublist.refl _,by omega,S5 _ _ e4 xb xg,B5.mono (by omega),S5 _ _ eT4 Tb Tg⟩
   · exact Ht (hZ _ _ ⟨na,fs,_,rfl,e4,⟨xb,xg⟩,List.Sublist.refl _,by omega,e4,B4.mono (by omega),eT4⟩)
 clear S1 S2 S3 S4 B1 B2 B3 B4 e4 eT4;rintro σ' H5 ⟨oa,own,y6,rfl,o5,⟨ob,og⟩,sub,o1,e5,B5,eT5⟩;have o3:own.length≤3:=AY sub.length_le l3;have tO:ToldF own:=⟨o3,λf hf=>ok4 f (sub.subset hf),asc4.sublist sub⟩;refine⟨_,rfl,_,rfl,b,g,l,oa,_,own,rfl,B5,by decide,o5,ob,og,tO,λwr w H6 W6 bx B6 S6=>?_⟩;refine⟨_,rfl,_,rfl,_,rfl,b,g,l,wr,_,cuts,w,own,rfl,B6,by decide,W6,bx,o1,o3,d0,by omega,λpr ps H7 n7 A7 l7 lp sh B7 S7=>?_⟩;have W7:=W6.sameW B6 S7;have o7:=S7 _ _ (S6 _ _ o5 ob og) ob og;have e7:=S7 _ _ (S6 _ _ e5 xb xg) xb xg;have eT7:=S7 _ _ (S6 _ _ eT5 Tb Tg) Tb Tg;obtain⟨qb,qg,ql⟩:=B6.free n7;clear S6 S7 B6 W6 n7 B5 e5 o5 eT5;have inw:∀{v:List WP},Js own v→Js fs v:=λh p hp=>sub.subset (h p hp);have inb:∀{v:List WP},BoxE own v→Js own v:=λh p hp=>by rw[←h.fl];exact Ax hp
 refine Kp ?_;dsimp only;refine Ru ?_;refine Kp ?_;refine JL (λσ' H'=>∃(pr:Addr)(ws:List (Addr×List WP))(gv:V)(y6 y10 y11 y12:Option V),σ'=[some (.ref a),some (.ref b),some (.int pick),some (.int cuts),some (.ref na),some (.ref oa),y6,some (.ref wr),some (.ref pr),some gv,y10,y11,y12,none,none,none]∧WsAt H' pr ws∧ws.length≤7∧(pr≠b∧pr≠g)∧(∀x∈ws,Js fs x.2)∧WishAt H' wr w∧Well H' b g l 4000∧((gv= .non∧∀P,HE w P=true→∃x∈ws,HE x.2 P=true)∨∃(ga:Addr)(gap:List WP),gv= .ref ga∧WishAt H' ga gap∧Hole own w gap (ws.map (·.2)))) (λZ hZ=>?_) ?_
 · refine⟨_,rfl,rfl,_,rfl,HS (λh=>?_) (λh=>?_)⟩
   · refine⟨_,rfl,b,g,l,_,3,rfl,B7,by decide,by decide,by decide,λwd H8 _ _ B8 S8=>⟨_,_,rfl,rfl,?_⟩⟩;have A8:=A7.sameW B7 qb qg S8;have W8:=W7.sameW B7 S8;refine⟨_,rfl,pr,rfl,⟨_,SqL.of A8.at'⟩,λfl hfl=>?_⟩;have sT:=Hz hfl (.lst []);obtain⟨fb,fg,fll⟩:=B8.free hfl;refine Mb (xs:=ps.map λx=>V.ref x.1) (λi σ' ys H'=>(∃v,σ'=[v,some (.ref b),some (.bl (decide (0<wd)))])∧SameB b g H8 H'∧Well H' b g l (3000+2*(i:Int))∧H' fl=some (.lst ys)∧∃us:List (Addr×List WP),ys=us.map (λx=>V.ref x.1)∧us.length=i∧(∀x∈us,WishAt H' x.1 x.2∧WOk x.2∧Js own x.2)∧∀P,(∃x∈ps.take i,HE x.2 P=true)→∃x∈us,HE x.2 P=true) ⟨⟨none,rfl⟩,sT.sameB,(B8.same sT).mono (by omega),Hu,[],rfl,rfl,λx hx=>by simp at hx,λP h=>by simp at h⟩ ?_ ?_ ?_
     · rintro i σ' ys H' hi ⟨_,sB,Bw,h1,us,rfl,lu,_,_⟩;refine⟨SqL.of (sB _ _ A8.at' qb qg),h1,?_⟩;rw[Ab] at hi ⊢;exact II (by omega)
     · rintro i x σ' ys H9 N hx ⟨⟨v,rfl⟩,sB,Bw,h1,us,rfl,lu,ok,tk⟩ hN;obtain⟨X1,ew,rfl⟩:=Io hx;have mX:=Am ew;have hi:=(Al.mp ew).1;have ww:=(A8.ok X1 mX).1.sameW B8 sB;have bw:=(A8.ok X1 mX).2;have fin:∀(r:Addr)(w':List WP)(H10:Hp),WishAt H10 r w'→WOk w'→Js own w'→(∀P,HE X1.2 P=true→HE w' P=true)→Well H10 b g l (3000+2*(i:Int)+2)→SameB b g H9 H10→H10 fl=some (.lst (us.map λx=>V.ref x.1))∧N [some (.ref X1.1),some (.ref b),some (.bl (decide (0<wd)))] (us.map (λx=>V.ref x.1)++[V.ref r]) (Hr H10 fl (.lst (us.map (λx=>V.ref x.1)++[V.ref r]))):=by
        intro r w' H10 W10 k10 i10 t10 B10 S10;have h10:=S10 _ _ h1 fb fg;have tl:=K6 (o:= .lst (us.map (λx=>V.ref x.1)++[V.ref r])) h10;refine⟨h10,hN _ _ _ ⟨⟨_,rfl⟩,(sB.trans S10).off hfl,(B10.off fb fg fll).mono (by omega),Hu,us++[(r,w')],by rw[Aj];rfl,by rw[Aw,lu];rfl,λy hy=>?_,λP h=>?_⟩⟩
        · rcases Aq.mp hy with z | z
          · exact⟨((ok y z).1.sameW Bw S10).keep λ_ _ e=>tl _ _ e,(ok y z).2⟩
          · rw[Af.mp z];exact⟨W10.keep λ_ _ e=>tl _ _ e,k10,i10⟩
        · obtain⟨y,hy,t⟩:=h;rw[IW ew] at hy;rcases Aq.mp hy with z | z
          · obtain⟨u,hu,tu⟩:=tk P ⟨y,z,t⟩;exact⟨u,BB _ hu,tu⟩
          · rw[Af.mp z] at t;exact⟨_,Ag _ (Af.mpr rfl),t10 P t⟩
       refine M4 ?_;refine⟨_,rfl,_,rfl,HS (λ_=>?_) (λ_=>?_)⟩
       · exact⟨_,rfl,_,rfl,b,g,l,X1.1,_,X1.2,own,rfl,Bw,by omega,ww,bw,o1,o3,λr w' H10 W10 k10 i10 t10 B10 S10=>fin r w' H10 W10 k10 i10 t10 B10 S10⟩
       · exact⟨_,rfl,fin X1.1 X1.2 H9 ww bw.ok (inb bw) (λ_ t=>t) (Bw.mono (by omega)) (SameB.refl _ _ _)⟩
     · rintro σ' ys H9 ⟨_,sB,Bw,h1,us,rfl,lu,ok,tk⟩;rw[Ab] at lu;refine hZ _ _ ⟨fl,us,.non,_,_,_,_,rfl,⟨h1,λx hx=>⟨(ok x hx).1,(ok x hx).2.1⟩,by omega⟩,by omega,⟨fb,fg⟩,λx hx=>inw (ok x hx).2.2,W8.sameW B8 sB,Bw.mono (by rw[Ab];omega),.inl ⟨rfl,λP t=>?_⟩⟩;refine tk P ?_;rw[Ab,C6];rw[←Xs sh P,List.any_map] at t;obtain⟨x,hx,tx⟩:=CM.mp t;exact⟨x,hx,tx⟩
   · refine⟨_,rfl,_,rfl,pr,_,rfl,.inl (SqL.of A7.at'),b,g,l,_,_,rfl,B7,by decide,(by rw[Ab];omega),(by rw[Ab];exact JW (by omega)),λc8 H8 c0 c1 B8 S8=>?_⟩;obtain⟨k,rfl⟩:∃k:Nat,c8=(k:Int):=⟨c8.toNat,by omega⟩;rw[Ab] at c1;have hk:k<ps.length:=by omega
     obtain⟨P1,eP⟩:∃P1,ps[k]?=some P1:=⟨ps[k],Ak hk⟩;have mP:=Am eP;have hat:IS (ps.map λp=>V.ref p.1) (k:Int)=some (V.ref P1.1):=J6 (by rw[Ai,eP];rfl);have hd:ps.drop k=P1::ps.drop (k+1):=by obtain⟨_,e⟩:=Al.mp eP;rw[Ba hk,e]
     have esp:ps=ps.take k++P1::ps.drop (k+1):=by rw[←hd,CV]
     have sh0:=sh;rw[esp,Aj,AK] at sh0;have A8:=A7.sameW B7 qb qg S8;have W8:=W7.sameW B7 S8;have o8:=S8 _ _ o7 ob og;have e8:=S8 _ _ e7 xb xg;have eT8:=S8 _ _ eT7 Tb Tg;refine Kp ?_;dsimp only;refine JL (λσ' H'=>∃(ra ga:Addr)(rs:List (Addr×List WP))(gap:List WP),σ'=[some (.ref a),some (.ref b),some (.int pick),some (.int cuts),some (.ref na),some (.ref oa),some (.int (k:Int)),some (.ref wr),some (.ref pr),some (.ref ga),none,some (.ref ra),none,none,none,none]∧EsAt own H' ra rs∧rs.length≤1∧WishAt H' ga gap∧BoxE own gap∧J5 P1.2 (rs.map (·.2)++[gap])∧SameB b g H8 H'∧Well H' b g l 3500) (λZ hZ2=>?_) ?_
     · refine⟨_,rfl,rfl,_,rfl,HS (λh=>?_) (λh=>?_)⟩
       · exact⟨_,rfl,_,rfl,_,rfl,pr,_,_,_,rfl,rfl,SqL.of A8.at',hat,b,g,l,P1.1,_,P1.2,own,rfl,B8,by decide,(A8.ok P1 mP).1,(A8.ok P1 mP).2,o1,o3,λt r ga rs gap H9 n9 t9 A9 lr W9 b9 s9 B9 S9=>⟨t,_,rfl,SqT.of t9,rfl,_,_,rfl,_,_,rfl,rfl,hZ2 _ _ ⟨r,ga,rs,gap,rfl,A9,lr,W9,b9,s9,S9,B9.mono (by omega)⟩⟩⟩
       · refine⟨Nm,λr hr=>?_⟩;have s9:=Hz hr (.lst []);have c9:(Hr H8 r (.lst [])) r=some (.lst []):=Hu;have A9:=A8.same s9;have B9:=B8.same s9;generalize Hr H8 r (.lst [])=H9 at*;refine⟨_,rfl,_,rfl,pr,_,_,_,rfl,rfl,SqL.of A9.at',hat,Iv,λt ht=>?_⟩;have s10:=Hz ht (.tup [V.ref r,V.ref P1.1]);exact⟨t,_,rfl,SqT.of Hu,rfl,_,_,rfl,_,_,rfl,rfl,hZ2 _ _ ⟨r,P1.1,[],P1.2,rfl,⟨s10 _ _ c9,λx hx=>by simp at hx⟩,by simp,(A9.ok P1 mP).1.same s10,(A9.ok P1 mP).2,NT _,(s9.trans s10).sameB,(B9.same s10).mono (by omega)⟩⟩
     rintro σ' H9 ⟨ra,ga,rs,gap,rfl,R9,lr,G9,gb,sg,S9,B9⟩;have A9:=A8.sameW B8 qb qg S9;have W9:=W8.sameW B8 S9;have o9:=S9 _ _ o8 ob og;have e9:=S9 _ _ e8 xb xg;have eT9:=S9 _ _ eT8 Tb Tg;have hole:Hole own w gap ((ps.take k++rs++ps.drop (k+1)).map (·.2)):=by rw[Aj,Aj];exact V1 (C:=rs.map (·.2)) (SZ sh0 sg) gb
     have lws:(ps.take k++rs++ps.drop (k+1)).length≤7:=by rw[Aw,Aw,AH,BM];omega
     have inE:∀x∈ps.take k++rs++ps.drop (k+1),WishAt H9 x.1 x.2∧BoxE own x.2:=λx hx=>by
      rcases Aq.mp hx with z | z
      · rcases Aq.mp z with z | z
        · exact A9.ok x (BC z)
        · exact R9.ok x z
      · exact A9.ok x (Cw z)
     clear A7 A8 W7 W8 B7 B8 S8 S9 o7 o8 e7 e8 eT7 eT8 sh sh0;refine⟨_,rfl,_,rfl,_,rfl,pr,_,rfl,SqL.of A9.at',λp1 hp1=>?_⟩;rw[LC rfl,←Cv];have s1:=Hz hp1 (.lst ((ps.take k).map λx=>V.ref x.1));have g1:(Hr H9 p1 (.lst ((ps.take k).map λx=>V.ref x.1))) p1=some (.lst ((ps.take k).map λx=>V.ref x.1)):=Hu;generalize Hr H9 p1 (.lst ((ps.take k).map λx=>V.ref x.1))=J1 at*;refine⟨_,rfl,p1,ra,_,_,rfl,rfl,g1,s1 _ _ R9.at',(by rw[Ab,AH,Ab];exact Jt (by omega)),λp3 hp3=>?_⟩;have s2:=Hz hp3 (.lst (((ps.take k).map λx=>V.ref x.1)++rs.map λx=>V.ref x.1));have g2':(Hr J1 p3 (.lst (((ps.take k).map λx=>V.ref x.1)++rs.map λx=>V.ref x.1))) p3=some (.lst (((ps.take k).map λx=>V.ref x.1)++rs.map λx=>V.ref x.1)):=Hu;generalize Hr J1 p3 (.lst (((ps.take k).map λx=>V.ref x.1)++rs.map λx=>V.ref x.1))=J2 at*;refine⟨_,rfl,_,rfl,_,_,rfl,rfl,_,rfl,pr,_,rfl,SqL.of (s2 _ _ (s1 _ _ A9.at')),λp4 hp4=>?_⟩;rw[LB (n:=k+1) (by omega),←CI];have s3:=Hz hp4 (.lst ((ps.drop (k+1)).map λx=>V.ref x.1));have g3:(Hr J2 p4 (.lst ((ps.drop (k+1)).map λx=>V.ref x.1))) p4=some (.lst ((ps.drop (k+1)).map λx=>V.ref x.1)):=Hu;generalize Hr J2 p4 (.lst ((ps.drop (k+1)).map λx=>V.ref x.1))=J3 at*;refine⟨p3,p4,_,_,rfl,rfl,s3 _ _ g2',g3,(by rw[Aw,Ab,AH,Ab,Ab,BM];exact Jt (by omega)),λp5 hp5=>?_⟩;rw[←Aj,←Aj];generalize ps.take k++rs++ps.drop (k+1)=ws at*;have s4:=Hz hp5 (.lst (ws.map λx=>V.ref x.1));have B3:=B9.same (s1.trans (s2.trans s3));obtain⟨b5,g5,l5⟩:=B3.free hp5;have s94:=s1.trans (s2.trans (s3.trans s4));have V10:WsAt (Hr J3 p5 (.lst (ws.map λx=>V.ref x.1))) p5 ws:=⟨Hu,λx hx=>⟨(inE x hx).1.same s94,(inE x hx).2.ok⟩,by omega⟩;have in10:∀x∈ws,Js fs x.2:=λx hx=>inw (inb (inE x hx).2);have B10:=B9.same s94;have W10:=W9.same s94;have G10:=G9.same s94;have o10:=s94 _ _ o9;have e10:=s94 _ _ e9;have eT10:=s94 _ _ eT9;generalize Hr J3 p5 (.lst (ws.map λx=>V.ref x.1))=H10 at*;clear s94 s1 s2 s3 s4 g1 g2' g3 hp1 hp3 hp4 hp5 B3 A9 R9 W9 G9 B9 o9 e9 eT9 inE;refine Kp ?_;dsimp only;refine JL (λσ' H'=>∃(ws:List (Addr×List WP))(y12:Option V),σ'=[some (.ref a),some (.ref b),some (.int pick),some (.int cuts),some (.ref na),some (.ref oa),some (.int (k:Int)),some (.ref wr),some (.ref p5),some (.ref ga),none,some (.ref ra),y12,none,none,none]∧WsAt H' p5 ws∧ws.length≤7∧(∀x∈ws,Js fs x.2)∧WishAt H' wr w∧WishAt H' ga gap∧Hole own w gap (ws.map (·.2))∧Well H' b g l 3500) (λZ hZ2=>?_) ?_
     · refine⟨_,rfl,p5,_,rfl,.inl (SqL.of V10.at'),_,_,rfl,rfl,_,rfl,HS (λh1=>?_) (λh1=>Ht ?_)⟩
       · refine⟨_,rfl,oa,_,rfl,.inl (SqL.of o10),_,rfl,na,_,rfl,.inl (SqL.of e10),_,_,rfl,rfl,_,rfl,HS (λh2=>?_) (λh2=>?_)⟩
         · have k7:ws.length<7:=by
            have:=of_decide_eq_true h1;rw[Ab] at this;omega
           have ko:own.length<fs.length:=by have:=of_decide_eq_true h2;rw[Ab,Ab] at this;omega
           refine⟨_,rfl,na,rfl,⟨_,SqL.of e10⟩,λfl hfl=>?_⟩;have sT:=Hz hfl (.lst []);refine Mb (xs:=fs.map V.str) (λi σ' ys H'=>(∃v,σ'=[v,some (.ref oa)])∧Same H10 H'∧H' fl=some (.lst ys)∧∃us:List (Addr×WP),ys=us.map (λx=>V.ref x.1)∧us.map (·.2)=JC (fs.take i) own∧∀u∈us,H' u.1=some (.tup [.str u.2.1,eV u.2.2.1,eV u.2.2.2])) ⟨⟨none,rfl⟩,sT,Hu,[],rfl,rfl,λu hu=>by simp at hu⟩ ?_ ?_ ?_
           · rintro i σ' ys H' hi ⟨_,s,h1,us,rfl,u1,_⟩;refine⟨s.seq (SqL.of e10),h1,?_⟩;have:=congrArg AX u1;unfold JC at this;rw[Ab,Ab] at this;have h3:=Cn (λf=>!decide (f∈own)) (fs.take i);rw[AH] at h3;rw[Ab];exact II (by omega)
           · rintro i x σ' ys H11 N hx ⟨⟨v,rfl⟩,s11,h3,us,rfl,u1,u2⟩ hN;rw[Ai] at hx;cases ef:fs[i]? with
             | none=>rw[ef] at hx;cases hx
             | some fi=>
              rw[ef] at hx;obtain rfl:V.str fi=x:=A5 hx;refine⟨_,rfl,_,rfl,oa,_,rfl,.inl (SqL.of (s11 _ _ o10)),rfl,Xe _,_,rfl,?_⟩;have st:JC (fs.take (i+1)) own=JC (fs.take i) own++(if(!decide (fi∈own))=true then [(fi,none,none)] else []):=by
               unfold JC;rw[IW ef,Dq,Aj];congr 1;rw[Dy]
               split<;>rfl
              rw[if_pos rfl,Sb];cases c:decide (fi∈own) with
              | true=> rw[c] at st;exact Ht (hN _ _ _ ⟨⟨_,rfl⟩,s11,h3,us,rfl,by rw[u1,st];simp,u2⟩)
              | false=>
               rw[c] at st;refine Hw ⟨_,rfl,KB,λt ht=>?_⟩;have s12:=Hz ht (.tup [V.str fi,V.non,V.non]);have h4:=s12 _ _ h3;have tl:=K6 (o:= .lst (us.map (λx=>V.ref x.1)++[V.ref t])) h4;refine⟨h4,hN _ _ _ ⟨⟨_,rfl⟩,K7 (s11.trans s12) hfl,Hu,us++[(t,fi,none,none)],by rw[Aj];rfl,by rw[Aj,u1,st];rfl,λu hu=>?_⟩⟩;rcases Aq.mp hu with z | z
               · exact tl _ _ (s12 _ _ (u2 u z))
               · rw[Af.mp z];exact tl _ _ Hu
           · rintro σ' ys H11 ⟨_,s11,h3,us,rfl,u1,u2⟩;rw[Ab,C6] at u1;obtain⟨gs,rfl,gA,gP⟩:=G10;have lgs:gs.length=own.length:=by have:=congrArg AX gb.fl;simpa using this
             have lus:us.length≤3:=by have:=congrArg AX u1;unfold JC at this;rw[Ab,Ab] at this;have h3:=Cn (λf=>!decide (f∈own)) fs;omega
             refine⟨_,rfl,.inl ⟨rfl,_,SqL.of (s11 _ _ V10.at')⟩,_,rfl,ga,_,rfl,.inr (SqT.of (s11 _ _ gA)),λL1 hL1=>?_⟩;have t1:=Hz hL1 (.lst (gs.map λp=>V.ref p.1));have f1':(Hr H11 L1 (.lst (gs.map λp=>V.ref p.1))) L1=some (.lst (gs.map λp=>V.ref p.1)):=Hu;generalize Hr H11 L1 (.lst (gs.map λp=>V.ref p.1))=H12 at*;refine⟨_,rfl,L1,fl,_,_,rfl,rfl,f1',t1 _ _ h3,(by rw[Ab,Ab];exact Jt (by omega)),λL2 hL2=>?_⟩;rw[←Aj];have t2:=Hz hL2 (.lst ((gs++us).map λp=>V.ref p.1));have f2':(Hr H12 L2 (.lst ((gs++us).map λp=>V.ref p.1))) L2=some (.lst ((gs++us).map λp=>V.ref p.1)):=Hu;generalize Hr H12 L2 (.lst ((gs++us).map λp=>V.ref p.1))=H13 at*;have t3:=s11.trans (t1.trans t2);refine⟨t3 _ _ eT10,λlf lc pm ctv pz nf nc ne=>?_⟩;have sN:=λo1 o2=>VV (ps:=pz) (o1:=o1) (o2:=o2) (t3 _ _ eT10) nf nc;refine Y8 (cs:=gs++us) Hu ((HD ne.symm).trans Hu) Im (λA outer s H E=>HV Jg (pv 0) Hv (λ_ _=>rfl)) (λu=>rfl) (by rw[Aw];omega) ((sN _ _).lst f2') (λx hx=>?_) (by rw[Aj,u1];exact XD gb (Mc asc4)) λr rs H15 s15 nr15 pm15 asc15 Mo=>?_
             · rcases Aq.mp hx with z | z
               · exact(sN _ _).tups _ _ (t3 _ _ (gP x z))
               · exact(sN _ _).tups _ _ (t2 _ _ (t1 _ _ (u2 x z)))
             have sF:=(sN _ _).then s15
             generalize Hr (Hr (Hr H13 T _) lc _) lf _=H14 at*;refine⟨r,_,rfl,.inl ⟨SqL.of Mo,λt ht=>?_⟩⟩;have s16:=Hz ht (.tup (rs.map λx=>V.ref x.1));have sG:=sF.then s16
             have pp:(rs.map (·.2)).Perm (gs.map (·.2)++JC fs own):=by have:=pm15.map (·.2);rw[Aj,u1] at this;exact this
             obtain⟨okP,inP⟩:=Vf pp gb tF sub asc15;have Wt:WishAt (Hr H15 t (.tup (rs.map λx=>V.ref x.1))) t (rs.map (·.2)):=⟨rs,rfl,Hu,λu hu=>by
              rcases Aq.mp (pm15.mem_iff.mp hu) with z | z
              · exact sG.tups _ _ (t3 _ _ (gP u z))
              · exact sG.tups _ _ (t2 _ _ (t1 _ _ (u2 u z)))⟩
             have V16:=(V10.same t3).sameN sG;have W16:=(W10.same t3).keep sG.tups;have G16:WishAt (Hr H15 t (.tup (rs.map λx=>V.ref x.1))) ga (gs.map (·.2)):=⟨gs,rfl,sG.tups _ _ (t3 _ _ gA),λx hx=>sG.tups _ _ (t3 _ _ (gP x hx))⟩;have B16:=(B10.same t3).sameN sG;generalize Hr H15 t (.tup (rs.map λx=>V.ref x.1))=H16 at*;refine⟨p5,_,_,rfl,rfl,V16.at',(by rw[Ab];exact II (by omega)),?_⟩;have tl:=K6 (o:= .lst (ws.map (λx=>V.ref x.1)++[V.ref t])) V16.at';refine hZ2 _ _ ⟨ws++[(t,rs.map (·.2))],_,rfl,⟨by rw[Hu,Aj];rfl,λx hx=>?_,by rw[Aw];simp;omega⟩,by rw[Aw];simp;omega,λx hx=>?_,W16.keep tl,G16.keep tl,hole.sub (λo ho=>?_) λo ho=>?_,B16.off b5 g5 l5⟩
             · rcases Aq.mp hx with z | z
               · exact⟨(V16.ok x z).1.keep tl,(V16.ok x z).2⟩
               · rw[Af.mp z];exact⟨Wt.keep tl,okP⟩
             · rcases Aq.mp hx with z | z
               · exact in10 x z
               · rw[Af.mp z];exact inP
             · obtain⟨x,hx,rfl⟩:=AN.mp ho;rcases Aq.mp hx with z | z
               · exact .inl (Ax z)
               · rw[Af.mp z];exact .inr λP e=>Ve pp ko (Mc asc4) e
             · rw[Aj];exact BB _ ho
         · exact hZ2 _ _ ⟨ws,_,rfl,V10,lws,in10,W10,G10,hole,B10⟩
       · exact hZ2 _ _ ⟨ws,_,rfl,V10,lws,in10,W10,G10,hole,B10⟩
     clear V10 in10 B10 W10 G10 o10 e10 eT10 hole lws;rintro σ' H11 ⟨ws,y12,rfl,V11,l11,in11,W11,G11,hole,B11⟩;refine⟨_,rfl,p5,_,rfl,.inl (SqL.of V11.at'),_,_,rfl,rfl,_,rfl,HS (λh1=>?_) (λh1=>Ht ?_)⟩
     · have k7:ws.length<7:=by
        have:=of_decide_eq_true h1;rw[Ab] at this;omega
       refine⟨_,rfl,Nm,λel hel=>?_⟩;have s12:=Hz hel (.lst []);have c12:(Hr H11 el (.lst [])) el=some (.lst []):=Hu;have V12:=V11.same s12;have W12:=W11.same s12;have G12:=G11.same s12;have B12:=B11.same s12;generalize Hr H11 el (.lst [])=H12 at*;refine⟨p5,el,_,rfl,rfl,V12.at',c12,_,rfl,HS (λh2=>?_) (λh2=>?_)⟩
       · have n0:1≤ws.length:=by
          cases ws with
          | nil=>simp at h2
          | cons x xs=>simp
         refine⟨_,rfl,.inl ⟨rfl,_,SqL.of V12.at'⟩,_,rfl,_,rfl,_,rfl,p5,_,rfl,.inl (SqL.of V12.at'),b,g,l,_,_,rfl,B12,by decide,(by rw[Ab];omega),(by rw[Ab];exact JW (by omega)),λc13 H13 c0 c1 B13 S13=>?_⟩;obtain⟨j,rfl⟩:∃j:Nat,c13=(j:Int):=⟨c13.toNat,by omega⟩;rw[Ab] at c1;have hj:j<ws.length:=by omega
         obtain⟨X1,eX⟩:∃X1,ws[j]?=some X1:=⟨ws[j],Ak hj⟩;have mX:=Am eX;have hX:IS (ws.map λx=>V.ref x.1) (j:Int)=some (V.ref X1.1):=J6 (by rw[Ai,eX];rfl);have V13:=V12.sameW B12 b5 g5 S13;refine⟨p5,_,_,_,rfl,rfl,SqL.of V13.at',hX,p5,_,_,rfl,rfl,V13.at',(by rw[Ab];exact II (by omega)),?_⟩;have tl:=K6 (o:= .lst (ws.map (λx=>V.ref x.1)++[V.ref X1.1])) V13.at';refine hZ _ _ ⟨p5,ws++[X1],.ref ga,_,_,_,_,rfl,⟨by rw[Hu,Aj];rfl,λx hx=>?_,by rw[Aw];simp;omega⟩,by rw[Aw];simp;omega,⟨b5,g5⟩,λx hx=>?_,(W12.sameW B12 S13).keep tl,(B13.off b5 g5 l5).mono (by omega),.inr ⟨ga,gap,rfl,(G12.sameW B12 S13).keep tl,hole.sub (λo ho=>?_) λo ho=>?_⟩⟩
         · rcases Aq.mp hx with z | z
           · exact⟨(V13.ok x z).1.keep tl,(V13.ok x z).2⟩
           · rw[Af.mp z];exact⟨(V13.ok X1 mX).1.keep tl,(V13.ok X1 mX).2⟩
         · rcases Aq.mp hx with z | z
           · exact in11 x z
           · rw[Af.mp z];exact in11 X1 mX
         · obtain⟨x,hx,rfl⟩:=AN.mp ho;rcases Aq.mp hx with z | z
           · exact .inl (Ax z)
           · rw[Af.mp z];exact .inl (Ax mX)
         · rw[Aj];exact BB _ ho
       · exact hZ _ _ ⟨p5,ws,.ref ga,_,_,_,_,rfl,V12,l11,⟨b5,g5⟩,in11,W12,B12.mono (by omega),.inr ⟨ga,gap,rfl,G12,hole⟩⟩
     · exact hZ _ _ ⟨p5,ws,.ref ga,_,_,_,_,rfl,V11,l11,⟨b5,g5⟩,in11,W11,B11.mono (by omega),.inr ⟨ga,gap,rfl,G11,hole⟩⟩
 clear A7 W7 B7 o7 e7 eT7 sh;rintro σ' H12 ⟨pr',ws,gv,y6',y10,y11,y12,rfl,V12,lw7,⟨qb',qg'⟩,in12,W12,B12,hgv⟩;refine⟨_,rfl,_,rfl,b,g,l,pr',_,_,rfl,B12,by decide,V12.at',qb',qg',(by rw[Ab];omega),λr ys H13 nr e13 pm B13 S13=>?_⟩;obtain⟨us,pu,rfl⟩:=YH pm ws rfl;have V13:WsAt H13 r us:=⟨e13,λx hx=>⟨(V12.ok x (pu.subset hx)).1.sameW B12 S13,(V12.ok x (pu.subset hx)).2⟩,by rw[pu.length_eq];omega⟩;have W13:=W12.sameW B12 S13;have lu:us.length≤7:=by rw[pu.length_eq];omega
 refine⟨_,rfl,r,_,rfl,.inl (SqL.of e13),λhd hhd=>?_⟩;have s14:=Hz hhd (.lst (us.map λx=>V.ref x.1));have V14:=V13.same s14;have D14:WsAt (Hr H13 hd (.lst (us.map λx=>V.ref x.1))) hd us:=⟨Hu,V14.ok,V14.len⟩;have W14:=W13.same s14;have gw:(gv= .non∧∀P,HE w P=true→∃x∈us,HE x.2 P=true)∨∃(ga:Addr)(gap:List WP),gv= .ref ga∧WishAt (Hr H13 hd (.lst (us.map λx=>V.ref x.1))) ga gap∧Hole own w gap (us.map (·.2)):=by
  rcases hgv with⟨e,h⟩ | ⟨ga,gap,e,h1,h2⟩
  · refine .inl ⟨e,λP t=>?_⟩;obtain⟨x,hx,tx⟩:=h P t;exact⟨x,pu.mem_iff.mpr hx,tx⟩
  · exact .inr ⟨ga,gap,e,(h1.sameW B12 S13).same s14,h2.sub (λo ho=> .inl ((pu.map (·.2)).subset ho)) λo ho=>((pu.map (·.2)).symm.subset ho)⟩
 generalize Hr H13 hd (.lst (us.map λx=>V.ref x.1))=H14 at*;clear hgv;refine⟨_,rfl,_,rfl,wr,hd,w,us,fs,rfl,W14,bx.ok,D14,lu,l3,inw (inb bx),λx hx=>in12 x (pu.subset hx),λv H15 s15 T15 A15=>?_⟩;have V15:=V14.same s15;have D15:=D14.same s15;refine⟨_,rfl,_,rfl,3,by decide,_,_,_,rfl,by decide,D15.repY,V15.repY,X7 _,λH16 s16=>⟨_,rfl,Ht ?_⟩⟩;have T16:=T15.same s16;have t16:=s15.trans s16;have V16:=V14.same t16;have W16:=W14.same t16;generalize HR w (us.map (·.2))=qs at*;rcases gw with⟨rfl,cov⟩ | ⟨ga,gap,rfl,G14,hole⟩
 · refine⟨_,rfl,_,rfl,Hw ?_⟩;cases qs with
   | nil=> have:v= .non:=T16;subst this;exact⟨_,rfl,q _⟩
   | cons p0 qs=> exfalso;obtain⟨k0,f0⟩:=A15.ok p0 Az;obtain⟨c1,c2⟩:=A15.sound p0 Az (Jl p0) (Od k0);obtain⟨x,hx,tx⟩:=cov _ c1;have:=c2 ((MI p0).trans f0) x.2 (Ax hx);rw[tx] at this;cases this
 · refine⟨_,rfl,_,rfl,Ht ?_⟩;have G16:=G14.same t16;cases qs with
   | nil=>
    exfalso;obtain⟨P,_,tP,no⟩:=hole.pt;rcases A15.full P tP with⟨p,hp,_⟩ | ⟨o,ho,to⟩
    · simp at hp
    · rw[no o ho] at to;cases to
   | cons p0 qs=>
    obtain⟨pt,rfl,hpt⟩:=T16;obtain⟨k0,f0⟩:=A15.ok p0 Az;obtain⟨c1,c2⟩:=A15.sound p0 Az (Jl p0) (Od k0);have no:=c2 ((MI p0).trans f0);have tg:=hole.inn _ c1 no;have pk:=SX k0;refine⟨_,rfl,pt,_,rfl,hpt,pk,λH17 s17=>⟨_,rfl,Ht ?_⟩⟩;refine⟨_,rfl,_,rfl,wr,pt,w,_,rfl,W16.same s17,hpt.same s17,pk,λH18 s18=>⟨_,rfl,?_⟩⟩;rw[c1];refine Ht ?_;refine⟨_,rfl,_,rfl,ga,pt,gap,_,rfl,G16.same (s17.trans s18),hpt.same (s17.trans s18),pk,λH19 s19=>⟨_,rfl,?_⟩⟩;rw[tg];refine Ht ?_;have t19:=s17.trans (s18.trans s19);have V19:=V16.same t19;have P19:=hpt.same t19;refine⟨_,rfl,r,rfl,⟨_,SqL.of V19.at'⟩,λfl hfl=>?_⟩;refine Mb (xs:=us.map λx=>V.ref x.1) (λi σ' ys H'=>(∃v,σ'=[v,some (.ref pt)])∧Same H19 H'∧H' fl=some (.lst ys)∧ys=[]) ⟨⟨none,rfl⟩,Hz hfl _,Hu,rfl⟩ ?_ ?_ ?_
    · rintro i σ' ys H' hi ⟨_,s,h1,h2⟩;exact⟨s.seq (SqL.of V19.at'),h1,by rw[h2];exact II (by simp)⟩
    · rintro i x σ' ys H20 N hx ⟨⟨v,rfl⟩,s20,h1,h2⟩ hN;obtain⟨X1,e1,rfl⟩:=Io hx;have mX:=Am e1;refine⟨_,rfl,_,rfl,X1.1,pt,X1.2,_,rfl,(V19.ok X1 mX).1.same s20,P19.same s20,pk,λH21 s21=>⟨_,rfl,?_⟩⟩;rw[no X1.2 (Ax mX)];exact Ht (hN _ _ _ ⟨⟨_,rfl⟩,s20.trans s21,s21 _ _ h1,h2⟩)
    · rintro σ' ys H20 ⟨_,s20,h1,rfl⟩;refine⟨Nm,λep hep=>?_⟩;have s21:=Hz hep (.lst []);exact⟨fl,ep,[],rfl,rfl,s21 _ _ h1,Hu,q _⟩
end
open PySem.W (nsIn mg_of mg_none_of fnOf keepIn codeIn)
abbrev dF(n:Str)(s:Stmt):=fnOf n n (KD s) (Kn s) (HI s) .none
theorem Jw{K:Ae}{st:Stmt}{f:Addr}{fd:BG}{p0:Str}(F:Fun K x x st f fd)(h:∀(kV doc pm:Value)(an:Option Addr)(cdv ct u0:Value),bindArgs (fnOf x x (KD st) (Kn st) (HI st) .none kV doc pm an cdv ct) ⟨[u0],[]⟩=pure [(p0,u0)]:=by intros;rfl):Binds K fd [p0] []:=
 F.binds λkV doc pm an cdv ct=>lS λu0=>l0 (h kV doc pm an cdv ct u0)
theorem Jv{K:Ae}{st:Stmt}{f:Addr}{fd:BG}{p0 p1:Str}(F:Fun K x x st f fd)(h:∀(kV doc pm:Value)(an:Option Addr)(cdv ct u0 u1:Value),bindArgs (fnOf x x (KD st) (Kn st) (HI st) .none kV doc pm an cdv ct) ⟨[u0,u1],[]⟩=pure [(p0,u0),(p1,u1)]:=by intros;rfl):Binds K fd [p0,p1] []:=
 F.binds λkV doc pm an cdv ct=>lS λu0=>lS λu1=>l0 (h kV doc pm an cdv ct u0 u1)
theorem TM{K:Ae}{st:Stmt}{f:Addr}{fd:BG}{p0 p1 p2:Str}(F:Fun K x x st f fd)(h:∀(kV doc pm:Value)(an:Option Addr)(cdv ct u0 u1 u2:Value),bindArgs (fnOf x x (KD st) (Kn st) (HI st) .none kV doc pm an cdv ct) ⟨[u0,u1,u2],[]⟩=pure [(p0,u0),(p1,u1),(p2,u2)]:=by intros;rfl):Binds K fd [p0,p1,p2] []:=
 F.binds λkV doc pm an cdv ct=>lS λu0=>lS λu1=>lS λu2=>l0 (h kV doc pm an cdv ct u0 u1 u2)
structure KF(K:Ae)(x:Str)(st:Stmt)(f:Addr)(fd:BG):Prop where
 a:nsIn K AI x=some (some (.ref f))
 F:Fun K x x st f fd
theorem all_mk{l:Ep}{w:World}{K:Ae}{mg:Str→Option Value}{fa f1 f2 f3 f4 f5 f6 f7 f8 f9 f10 f11 f12 f13 f14 f15 f16 f17 f18 f19 f20 f21 f22 f23 f24 f25 f26 f27 f28 f29 f30 f31 f32 f33 f34 f35 f36 f37:Addr}{g1 g2 g3 g4 g5 g6 g7 g8 g9 g10 g11 g12 g13 g14 g15 g16 g17 g18 g19 g20 g21 g22 g23 g24 g25 g26 g27 g28 g29 g30 g31 g32 g33 g34 g35 g36 g37:BG}{c T:Addr}(X:K.In h)(G:h.Ns AI mg)(hfa:mg "law"=some (.ref fa))
 (h1:KF K "is_whole" Pi f1 g1)
 (h2:KF K "is_end" OS f2 g2)
 (h3:KF K "is_span" Pb f3 g3)
 (h4:KF K "span_shared" MC f4 g4)
 (h5:KF K "number_of" Pz f5 g5)
 (h6:KF K "is_field" NQ f6 g6)
 (h7:KF K "is_wish_part" PF f7 g7)
 (h8:KF K "fields_ascend" NX f8 g8)
 (h9:KF K "is_wish" NA f9 g9)
 (h10:KF K "check_wish" Ps f10 g10)
 (h11:KF K "are_wishes" NZ f11 g11)
 (h12:KF K "check_wishes" PJ f12 g12)
 (h13:KF K "spans_by_field" Oh f13 g13)
 (h14:KF K "wish_shared" Of f14 g14)
 (h15:KF K "spans_beside" PH f15 g15)
 (h16:KF K "parts_beside_one" PB f16 g16)
 (h17:KF K "parts_beside" NV f17 g17)
 (h18:KF K "piece_beside" NW f18 g18)
 (h19:KF K "fields_of" NI f19 g19)
 (h20:KF K "check_few" P6 f20 g20)
 (h21:KF K "uncovered_piece" P9 f21 g21)
 (h22:KF K "_law_well" MH f22 g22)
 (h23:KF K "_law_take" Pk f23 g23)
 (h24:KF K "_law_name" NR f24 g24)
 (h25:KF K "_law_fields" Pu f25 g25)
 (h26:KF K "_law_base" Pj f26 g26)
 (h27:KF K "_law_whole" P8 f27 g27)
 (h28:KF K "_law_wants" P7 f28 g28)
 (h29:KF K "_law_is_piece" NU f29 g29)
 (h30:KF K "_law_alike" NJ f30 g30)
 (h31:KF K "_law_turned" N_ f31 g31)
 (h32:KF K "_law_box" Pc f32 g32)
 (h33:KF K "_law_cut" Pd f33 g33)
 (h34:KF K "_law_cut_up" Pt f34 g34)
 (h35:KF K "_law_widened" Py f35 g35)
 (h36:KF K "_law_shorter" Oe f36 g36)
 (h37:KF K "law" K2 f37 g37)
 {tML':Tok} (eML':nsIn K AI "MOST_LETTERS"=some (some (.int 8 tML')))
 {tMW':Tok} (eMW':nsIn K AI "MOST_WISHES"=some (some (.int 7 tMW')))
 {tMF':Tok} (eMF':nsIn K AI "MOST_FIELDS"=some (some (.int 3 tMF')))
 (hcc:g37.code= .ref c) (hch:PySem.W.codeHdIn K c T=true)
 (z_len:nsIn K AI "len"=some none)
 (z_range:nsIn K AI "range"=some none)
 (z_isinstance:nsIn K AI "isinstance"=some none)
 (z_int:nsIn K AI "int"=some none)
 (z_bool:nsIn K AI "bool"=some none)
 (z_tuple:nsIn K AI "tuple"=some none)
 (z_list:nsIn K AI "list"=some none)
 (z_max:nsIn K AI "max"=some none)
 (z_min:nsIn K AI "min"=some none)
 (z_all:nsIn K AI "all"=some none)
 (z_zip:nsIn K AI "zip"=some none)
 (z_str:nsIn K AI "str"=some none)
 (z_dict:nsIn K AI "dict"=some none)
 (z_sorted:nsIn K AI "sorted"=some none)
 (z_set:nsIn K AI "set"=some none)
 (z_any:nsIn K AI "any"=some none)
 (z_sum:nsIn K AI "sum"=some none)
 (z_enumerate:nsIn K AI "enumerate"=some none)
 (z_repr:nsIn K AI "repr"=some none)
 (z_ord:nsIn K AI "ord"=some none)
 (z_chr:nsIn K AI "chr"=some none)
 (z_abs:nsIn K AI "abs"=some none)
 (z_reversed:nsIn K AI "reversed"=some none)
 :∃(fd:BG)(c:Addr),FQ h c T∧(∀(s:Shared)(v:Value),BindsTo s fd ⟨[v],[]⟩ [("script",v)])∧∀base:Heap,K.In base→base.Ns AI mg→base.BuiltinsAt mg T→FnOk l.prog w K mg base HY 13 fa fd ["script"] (Nr K T):=by
 have e:=hfa.symm.trans (PySem.W.mg_of X G h37.a);cases e;obtain⟨_,⟨⟨oc,od,kV,dc,pm,an,cd,ct,sl,rfl,l',c'⟩,k'⟩⟩:=h37;have B:Bl mg:=⟨mg_none_of X G z_len,mg_none_of X G z_range,mg_none_of X G z_isinstance,mg_none_of X G z_int,mg_none_of X G z_bool,mg_none_of X G z_tuple,mg_none_of X G z_list,mg_none_of X G z_max,mg_none_of X G z_min,mg_none_of X G z_all,mg_none_of X G z_zip,mg_none_of X G z_str,mg_none_of X G z_dict,mg_none_of X G z_sorted,mg_none_of X G z_set,mg_none_of X G z_any,mg_none_of X G z_sum,mg_none_of X G z_enumerate,mg_none_of X G z_repr,mg_none_of X G z_ord,mg_none_of X G z_chr,mg_none_of X G z_abs,mg_none_of X G z_reversed⟩;refine⟨Ds "law" "law" (KD K2) (Kn K2) (HI K2) .none kV dc pm an cd ct,c,Gp X hch,λs v=> .of_eq rfl,λbase _ _ hbm=>?_⟩;have QML':=mg_of X G eML';have QMW':=mg_of X G eMW';have QMF':=mg_of X G eMF';have GG:Γ0 l.prog w K mg base:=⟨_,_,Yl B QML' QMW' QMF' h1.F,Jw h1.F,h1.F.2,mg_of X G h1.a⟩;have GH:Γ1 l.prog w K mg base:=⟨_,_,Wz B QML' QMW' QMF' h2.F GG,Jw h2.F,h2.F.2,mg_of X G h2.a⟩;have GJ:Γ2 l.prog w K mg base:=⟨_,_,XS B QML' QMW' QMF' h3.F GH,Jw h3.F,h3.F.2,mg_of X G h3.a⟩;have GP:Γ3 l.prog w K mg base:=⟨_,_,Zt B QML' QMW' QMF' h4.F,Jv h4.F,h4.F.2,mg_of X G h4.a⟩;have GU:Γ4 l.prog w K mg base:=⟨_,_,Y2 B QML' QMW' QMF' h5.F,Jw h5.F,h5.F.2,mg_of X G h5.a⟩;have GI:Γ5 l.prog w K mg base:=⟨_,_,Yk B QML' QMW' QMF' h6.F,Jw h6.F,h6.F.2,mg_of X G h6.a⟩;have GL:Γ6 l.prog w K mg base:=⟨_,_,Zk B QML' QMW' QMF' h7.F GI GJ,Jw h7.F,h7.F.2,mg_of X G h7.a⟩;have GK:Γ7 l.prog w K mg base:=⟨_,_,Zz B QML' QMW' QMF' h8.F,Jw h8.F,h8.F.2,mg_of X G h8.a⟩;have GM:Γ8 l.prog w K mg base:=⟨_,_,XT B QML' QMW' QMF' h9.F GK GL,Jw h9.F,h9.F.2,mg_of X G h9.a⟩;have GV:Γ9 l.prog w K mg base:=⟨_,_,YR B QML' QMW' QMF' h10.F GM,Jw h10.F,h10.F.2,mg_of X G h10.a⟩;have GN:Γ10 l.prog w K mg base:=⟨_,_,YQ B QML' QMW' QMF' h11.F GM,Jw h11.F,h11.F.2,mg_of X G h11.a⟩;have GW:Γ11 l.prog w K mg base:=⟨_,_,Zj B QML' QMW' QMF' h12.F GN,Jw h12.F,h12.F.2,mg_of X G h12.a⟩;have GO:Γ12 l.prog w K mg base:=⟨_,_,Z1 B QML' QMW' QMF' h13.F,Jw h13.F,h13.F.2,mg_of X G h13.a⟩;have GQ:Γ13 l.prog w K mg base:=⟨_,_,Zu B QML' QMW' QMF' h14.F GO GP,Jv h14.F,h14.F.2,mg_of X G h14.a⟩;have GR:Γ14 l.prog w K mg base:=⟨_,_,Zo B QML' QMW' QMF' h15.F,Jv h15.F,h15.F.2,mg_of X G h15.a⟩;have GS:Γ15 l.prog w K mg base:=⟨_,_,Z2 B QML' QMW' QMF' h16.F GQ GR,Jv h16.F,h16.F.2,mg_of X G h16.a⟩;have GT:Γ16 l.prog w K mg base:=⟨_,_,Zm B QML' QMW' QMF' h17.F GS,Jv h17.F,h17.F.2,mg_of X G h17.a⟩;have GY:Γ17 l.prog w K mg base:=⟨_,_,Zn B QML' QMW' QMF' h18.F GT GU,Jv h18.F,h18.F.2,mg_of X G h18.a⟩;have GZ:Γ18 l.prog w K mg base:=⟨_,_,Yy B QML' QMW' QMF' h19.F,Jw h19.F,h19.F.2,mg_of X G h19.a⟩;have GX:Γ19 l.prog w K mg base:=⟨_,_,Yx B QML' QMW' QMF' h20.F,Jv h20.F,h20.F.2,mg_of X G h20.a⟩;have Hk:Γ20 l.prog w K mg base:=⟨_,_,Zx B QML' QMW' QMF' h21.F GV GW GX GY GZ,Jv h21.F,h21.F.2,mg_of X G h21.a⟩;have Hf:Γ21 l.prog w K mg base:=⟨_,_,YG B QML' QMW' QMF' h22.F,Jw h22.F,h22.F.2,mg_of X G h22.a⟩;have G_:Γ22 l.prog w K mg base:=⟨_,_,YF B QML' QMW' QMF' h23.F,Jv h23.F,h23.F.2,mg_of X G h23.a⟩;have Ha:Γ23 l.prog w K mg base:=⟨_,_,Yn B QML' QMW' QMF' h24.F G_,Jv h24.F,h24.F.2,mg_of X G h24.a⟩;have Hg:Γ24 l.prog w K mg base:=⟨_,_,YT B QML' QMW' QMF' h25.F Ha G_,Jv h25.F,h25.F.2,mg_of X G h25.a⟩;have Hd:Γ25 l.prog w K mg base:=⟨_,_,Ym B QML' QMW' QMF' h26.F G_,Jw h26.F,h26.F.2,mg_of X G h26.a⟩;have Hb:Γ26 l.prog w K mg base:=⟨_,_,Y1 B QML' QMW' QMF' h27.F,Jw h27.F,h27.F.2,mg_of X G h27.a⟩;have Hn:Γ27 l.prog w K mg base:=⟨_,_,Y0 B QML' QMW' QMF' h28.F,Jv h28.F,h28.F.2,mg_of X G h28.a⟩;have Hm:Γ28 l.prog w K mg base:=⟨_,_,Zl B QML' QMW' QMF' h29.F Hb,Jw h29.F,h29.F.2,mg_of X G h29.a⟩;have Hc:Γ29 l.prog w K mg base:=⟨_,_,Yz B QML' QMW' QMF' h30.F  (PySem.W.mg_of X G h30.a),Jv h30.F,h30.F.2,mg_of X G h30.a⟩;have Hj:Γ30 l.prog w K mg base:=⟨_,_,YU B QML' QMW' QMF' h31.F G_,Jv h31.F,h31.F.2,mg_of X G h31.a⟩;have Hh:Γ31 l.prog w K mg base:=⟨_,_,Xi B QML' QMW' QMF' h32.F G_ Hd,TM h32.F,h32.F.2,mg_of X G h32.a⟩;have He:Γ32 l.prog w K mg base:=⟨_,_,Xj B QML' QMW' QMF' h33.F G_ Hd,Jv h33.F,h33.F.2,mg_of X G h33.a⟩;have Hi:Γ33 l.prog w K mg base:=⟨_,_,YS B QML' QMW' QMF' h34.F G_ He,TM h34.F,h34.F.2,mg_of X G h34.a⟩;have Ho:Γ34 l.prog w K mg base:=⟨_,_,Zs B QML' QMW' QMF' h35.F G_,Jv h35.F,h35.F.2,mg_of X G h35.a⟩;have Hl:Γ35 l.prog w K mg base:=⟨_,_,Zr B QML' QMW' QMF' h36.F G_ Hd,Jv h36.F,h36.F.2,mg_of X G h36.a⟩;exact UL B QML' QMW' QMF' (fun_mk (st:=K2) l' c' k') hcc (λh x=>Gp x hch) hbm Hf G_ Hg Hh Hi Hj Hk Hc Hl Hm Hn Ho
theorem walk{l:Ep}{q:Br}{loose:List Str}{XP:(Str→Option Value)→Heap→Prop}{YP:World→Heap→Prop}{d:DefRec}{K:Params→Ae}{T:Addr}(hn:l.most=some 63)(hdf:d.params.defaults=[])
 (hY:∀(w:World)(h:Heap),YP w h→(K w.params).In h) (hT:∀(w:World)(h:Heap),YP w h→h.get? T=some (PySem.W.tabObj #[]))
 (nT:∀w:World,(K w.params).lookup T=none)
 (F:∀(w:World)(mg:Str→Option Value)(fa:Addr)(h:Heap),(K w.params).In h→h.Ns AI mg→mg d.name=some (.ref fa)→
  ∃(fd:BG)(c:Addr),FQ h c T∧(∀(s:Shared)(u:Value),BindsTo s fd ⟨[u],[]⟩ [("script",u)])∧∀base:Heap,(K w.params).In base→base.Ns AI mg→base.BuiltinsAt mg T→FnOk l.prog w (K w.params) mg base HY 13 fa fd ["script"] (Nr (K w.params) T)):
 PySem.W.WalkO q loose XP YP l.row.toRowW d [] (λf vs=>PySem.call f vs):=
 L2.walk_ofT (n:=63) (k:=13) (x:="script") (CX:=λ_=>HY) (sp:=λw=>Nr (K w.params) T) hn (by decide) hdf ⟨rfl,by decide,by decide,rfl⟩ hY hT nT F (λ_ _ a ns hl hS hE=>⟨a,ns,rfl,hS,hl,hE,λ_=>rfl⟩) λ_ _ _ _ _ z=>z
end K13
namespace PySem.W.Fast
theorem tw10151353650301571243:0=0:=rfl
theorem tw12719526878116198893:0=0:=rfl
theorem tw12670011188569545870:0=0:=rfl
theorem tw16652558607485256630:0=0:=rfl
theorem tw17647810980454279354:0=0:=rfl
theorem tw7320642265659366139:0=0:=rfl
theorem tw9427376861169848957:0=0:=rfl
theorem tw6603438088126162281:0=0:=rfl
theorem tw12952021804943658112:0=0:=rfl
theorem tw9797685578653142304:0=0:=rfl
theorem tw14332999847333988640:0=0:=rfl
theorem tw15304532630921778656:0=0:=rfl
theorem tw7639797770068881984:0=0:=rfl
theorem tw20394677845606976:0=0:=rfl
theorem tw11024971562269429440:0=0:=rfl
theorem tw4281801216783538112:0=0:=rfl
theorem tw16155411477726839776:0=0:=rfl
theorem tw14902798584599498785:0=0:=rfl
theorem tw3466534023674008769:0=0:=rfl
theorem tw9658795512870801665:0=0:=rfl
theorem tw6484318066813804833:0=0:=rfl
theorem tw11795886929237199201:0=0:=rfl
theorem tw5947142729030547873:0=0:=rfl
theorem tw6748416792552214209:0=0:=rfl
theorem tw9685453883513652033:0=0:=rfl
theorem tw9979214764701188993:0=0:=rfl
theorem tw9315269102493896609:0=0:=rfl
theorem tw2107006511472498593:0=0:=rfl
theorem tw2434138429599917025:0=0:=rfl
theorem tw11095801880317584386:0=0:=rfl
theorem tw15946507219633483810:0=0:=rfl
theorem tw17221531853694176322:0=0:=rfl
theorem tw10526394876488713474:0=0:=rfl
theorem tw8113346855448189282:0=0:=rfl
theorem tw12377171226809303490:0=0:=rfl
theorem tw12024028619553808834:0=0:=rfl
theorem tw16949245699374646818:0=0:=rfl
theorem tw8476442950944779810:0=0:=rfl
theorem tw9463154202675788354:0=0:=rfl
theorem tw13406793587450203842:0=0:=rfl
theorem tw8206181907858408194:0=0:=rfl
theorem tw13952201692028177154:0=0:=rfl
theorem tw7192911412274437890:0=0:=rfl
theorem tw15317860832706414370:0=0:=rfl
theorem tw6464411314518053666:0=0:=rfl
theorem tw4271394663757728642:0=0:=rfl
theorem tw10899189513221126050:0=0:=rfl
theorem tw16980129005156156451:0=0:=rfl
theorem tw16639287403038443747:0=0:=rfl
theorem tw11716262571274400035:0=0:=rfl
theorem tw4681904097442495971:0=0:=rfl
theorem tw7702780476922657315:0=0:=rfl
theorem tw12291528192309925475:0=0:=rfl
theorem tw3280062621264864899:0=0:=rfl
theorem tw1913031416849697475:0=0:=rfl
theorem tw1059431631032907555:0=0:=rfl
theorem tw10843100466479035331:0=0:=rfl
theorem tw15047802095153605892:0=0:=rfl
theorem tw9836311021141515684:0=0:=rfl
theorem tw15267634165731586660:0=0:=rfl
theorem tw11273677713592051428:0=0:=rfl
theorem tw17560131303932227556:0=0:=rfl
theorem tw16298291754345647205:0=0:=rfl
theorem tw12971003890284921125:0=0:=rfl
theorem tw1549375795640222277:0=0:=rfl
theorem tw15305562920722540229:0=0:=rfl
theorem tw587739989229037253:0=0:=rfl
theorem tw6626608609457616934:0=0:=rfl
theorem tw8826134361946964006:0=0:=rfl
theorem tw16813691962579930406:0=0:=rfl
theorem tw10363985816562200166:0=0:=rfl
theorem tw6620720301792009319:0=0:=rfl
theorem tw10510841713733325959:0=0:=rfl
theorem tw14734640401794844839:0=0:=rfl
theorem tw6431430097775126727:0=0:=rfl
theorem tw8075829742725365991:0=0:=rfl
theorem tw14160594463451953735:0=0:=rfl
theorem tw7877309164992913031:0=0:=rfl
theorem tw11278260616807616135:0=0:=rfl
theorem tw12880659017964763783:0=0:=rfl
theorem tw3454381275265445799:0=0:=rfl
theorem tw18099738857836407783:0=0:=rfl
theorem tw11325599525176251528:0=0:=rfl
theorem tw2120399140923203944:0=0:=rfl
theorem tw5814045610119141896:0=0:=rfl
theorem tw11394435888313529096:0=0:=rfl
theorem tw14422181083654942568:0=0:=rfl
theorem tw8761798230749213608:0=0:=rfl
theorem tw3877871273289601577:0=0:=rfl
theorem tw4454255578855352009:0=0:=rfl
theorem tw9073200420105007977:0=0:=rfl
theorem tw10180429765647827945:0=0:=rfl
theorem tw4838061701662917642:0=0:=rfl
theorem tw14255862285754894794:0=0:=rfl
theorem tw4691719693269865002:0=0:=rfl
theorem tw15706676864995343978:0=0:=rfl
theorem tw9420348974091299466:0=0:=rfl
theorem tw12286682357383272170:0=0:=rfl
theorem tw14776175397624795946:0=0:=rfl
theorem tw14000351074191291435:0=0:=rfl
theorem tw6491665574940482667:0=0:=rfl
theorem tw12962000704906965259:0=0:=rfl
theorem tw3463894718064074027:0=0:=rfl
theorem tw9811413278588070251:0=0:=rfl
theorem tw5500485060995516971:0=0:=rfl
theorem tw11404708044361347723:0=0:=rfl
theorem tw18090055520483095243:0=0:=rfl
theorem tw13741663570828739339:0=0:=rfl
theorem tw10041753788532303755:0=0:=rfl
theorem tw3795042296068278251:0=0:=rfl
theorem tw11513894398088095884:0=0:=rfl
theorem tw9996413962596010220:0=0:=rfl
theorem tw12088378233438497132:0=0:=rfl
theorem tw16170117315119002092:0=0:=rfl
theorem tw6328079457195773420:0=0:=rfl
theorem tw17614936373957558349:0=0:=rfl
theorem tw3856775383691599021:0=0:=rfl
theorem tw674662187329009997:0=0:=rfl
theorem tw16100902770708415917:0=0:=rfl
theorem tw13891124270038269389:0=0:=rfl
theorem tw7969358745987464909:0=0:=rfl
theorem tw2194891723392081038:0=0:=rfl
theorem tw17824813488128625998:0=0:=rfl
theorem tw15938038241842510798:0=0:=rfl
theorem tw5099240612036671663:0=0:=rfl
theorem tw15078989053697383663:0=0:=rfl
theorem tw5581981080224621871:0=0:=rfl
theorem tw2738426850244073039:0=0:=rfl
theorem tw15901751120004460207:0=0:=rfl
theorem tw16938129648351252143:0=0:=rfl
theorem tw6115162398872411855:0=0:=rfl
theorem tw478025648075465776:0=0:=rfl
theorem tw5026537934726259920:0=0:=rfl
theorem tw18060331606250507600:0=0:=rfl
theorem tw12907553265594170928:0=0:=rfl
theorem tw11465946542039780944:0=0:=rfl
theorem tw9953222033478322928:0=0:=rfl
theorem tw13051290406456599601:0=0:=rfl
theorem tw14399609750622692593:0=0:=rfl
theorem tw714089819610514769:0=0:=rfl
theorem tw13948255235524737521:0=0:=rfl
theorem tw2775122494056264209:0=0:=rfl
theorem tw16438886302254657361:0=0:=rfl
theorem tw18061730138968336754:0=0:=rfl
theorem tw10094702616360627570:0=0:=rfl
theorem tw17285395779089634898:0=0:=rfl
theorem tw7882596457902716722:0=0:=rfl
theorem tw1321795109641395154:0=0:=rfl
theorem tw12989687300733903923:0=0:=rfl
theorem tw4653338725373403187:0=0:=rfl
theorem tw13587846365932468499:0=0:=rfl
theorem tw8474294203787036211:0=0:=rfl
theorem tw16293087131980725811:0=0:=rfl
theorem tw6899279267897306771:0=0:=rfl
theorem tw12696747571549596339:0=0:=rfl
theorem tw12853469103006846803:0=0:=rfl
theorem tw4359276273692853171:0=0:=rfl
theorem tw10775201679394763731:0=0:=rfl
theorem tw14800702690353056852:0=0:=rfl
theorem tw8259209953621156980:0=0:=rfl
theorem tw792724395102253460:0=0:=rfl
theorem tw2790472055179590132:0=0:=rfl
theorem tw3056168982157948500:0=0:=rfl
theorem tw17149729159493142100:0=0:=rfl
theorem tw3932846251872427732:0=0:=rfl
theorem tw1995123554040048468:0=0:=rfl
theorem tw4349109537515942101:0=0:=rfl
theorem tw10986761648057386293:0=0:=rfl
theorem tw14233051124624693685:0=0:=rfl
theorem tw8749427911966668277:0=0:=rfl
theorem tw14703357015121099253:0=0:=rfl
theorem tw11492550976448181813:0=0:=rfl
theorem tw15424479683653031701:0=0:=rfl
theorem tw12404691495138726709:0=0:=rfl
theorem tw10274561137553370933:0=0:=rfl
theorem tw7717786119323459573:0=0:=rfl
theorem tw4338833575544554614:0=0:=rfl
theorem tw2610189621933198454:0=0:=rfl
theorem tw2715595803419095222:0=0:=rfl
theorem tw6745129449108138198:0=0:=rfl
theorem tw13654107768240266806:0=0:=rfl
theorem tw13789522001853795030:0=0:=rfl
theorem tw11613455662496778006:0=0:=rfl
theorem tw8105331354500082614:0=0:=rfl
theorem tw6531723592955160502:0=0:=rfl
theorem tw9927066197801560054:0=0:=rfl
theorem tw10313881318762952791:0=0:=rfl
theorem tw16321272325986761911:0=0:=rfl
theorem tw5953562220228838679:0=0:=rfl
theorem tw16753159032264146263:0=0:=rfl
theorem tw3185758956370430519:0=0:=rfl
theorem tw1130856923690966647:0=0:=rfl
theorem tw9684244108099677879:0=0:=rfl
theorem tw8535648876024778615:0=0:=rfl
theorem tw6088932692770847096:0=0:=rfl
theorem tw1902021975955659256:0=0:=rfl
theorem tw15008302076060733976:0=0:=rfl
theorem tw6118625071497892568:0=0:=rfl
theorem tw811286493297416217:0=0:=rfl
theorem tw8319672427128596537:0=0:=rfl
theorem tw10647494338311419001:0=0:=rfl
theorem tw9012841863907673241:0=0:=rfl
theorem tw4983398613319544377:0=0:=rfl
theorem tw17357260493162600025:0=0:=rfl
theorem tw5749841334920050553:0=0:=rfl
theorem tw7510179448232986489:0=0:=rfl
theorem tw8503859888206541753:0=0:=rfl
theorem tw15240607830933581817:0=0:=rfl
theorem tw1490348843845264410:0=0:=rfl
theorem tw9688259384009143386:0=0:=rfl
theorem tw4297651582533321914:0=0:=rfl
theorem tw9344409242039622874:0=0:=rfl
theorem tw1801373765688416730:0=0:=rfl
theorem tw17113614090243671738:0=0:=rfl
theorem tw8215013405085539130:0=0:=rfl
theorem tw13004653475429194746:0=0:=rfl
theorem tw13346230503111788538:0=0:=rfl
theorem tw7561957791954509883:0=0:=rfl
theorem tw7519915981490932827:0=0:=rfl
theorem tw11494197241849019707:0=0:=rfl
theorem tw15288038038573115899:0=0:=rfl
theorem tw9517309747934611099:0=0:=rfl
theorem tw13012976937863113499:0=0:=rfl
theorem tw4737638604657653563:0=0:=rfl
theorem tw3059071160897214524:0=0:=rfl
theorem tw4926292403506976860:0=0:=rfl
theorem tw973882705742052476:0=0:=rfl
theorem tw3935626146783106364:0=0:=rfl
theorem tw15631447779087771004:0=0:=rfl
theorem tw12504124355916650940:0=0:=rfl
theorem tw9524682067472816604:0=0:=rfl
theorem tw15238972088549346812:0=0:=rfl
theorem tw9650944847543887420:0=0:=rfl
theorem tw11437103966120801852:0=0:=rfl
theorem tw15168677933473115900:0=0:=rfl
theorem tw3075825598209019740:0=0:=rfl
theorem tw10479772363714499452:0=0:=rfl
theorem tw10065966607075953596:0=0:=rfl
theorem tw4363058069226514493:0=0:=rfl
theorem tw1695408826327848093:0=0:=rfl
theorem tw8331611559482336669:0=0:=rfl
theorem tw17020003689258379869:0=0:=rfl
theorem tw885024679880095421:0=0:=rfl
theorem tw10876172189838037725:0=0:=rfl
theorem tw15353868792318752765:0=0:=rfl
theorem tw4703018582213616734:0=0:=rfl
theorem tw9244104986223946046:0=0:=rfl
theorem tw11748328137663566142:0=0:=rfl
theorem tw11085833755407222142:0=0:=rfl
theorem tw18442918940613237118:0=0:=rfl
theorem tw8743725668580960638:0=0:=rfl
theorem tw10089566242960517566:0=0:=rfl
theorem tw332184177711724607:0=0:=rfl
theorem tw10834856643906083551:0=0:=rfl
theorem tw17247362082967544703:0=0:=rfl
theorem tw13626689663902302175:0=0:=rfl
theorem tw14755678632447466495:0=0:=rfl
end PySem.W.Fast
open PySem PySem.W PyProof.Rows
set_option hygiene false in
local macro_rules | `(tactic| walk_at "kF")=> `(tactic| (refine' K13.KF.mk ?a (L2.fun_mk ?l ?c ?k);(case a=>k_is);(case l=>k_is);(case c=>k_is);(case k=>k_is)))
set_option maxRecDepth 100000 in
set_option maxHeartbeats 0 in
theorem PySem.Challenge.cw_newsways_k13_whole_cut_up_holds : PySem.Challenge.rw_newsways_k13_whole_cut_up.Holds := by
 w_on;o_law;k_head;(case hw=>w_witness2)
 k_fill
 refine' K13.walk (l:=PySem.Challenge.rw_newsways_k13_whole_cut_up) rfl rfl (λw h Y=>PySem.W.km_in_of Y) (λw h Y=>PySem.W.km_tabs_of Y _ Az) ?nT ?F
 case F=>
  intro w mg fa h KX G hmg;refine' K13.all_mk KX G hmg ?h1 ?h2 ?h3 ?h4 ?h5 ?h6 ?h7 ?h8 ?h9 ?h10 ?h11 ?h12 ?h13 ?h14 ?h15 ?h16 ?h17 ?h18 ?h19 ?h20 ?h21 ?h22 ?h23 ?h24 ?h25 ?h26 ?h27 ?h28 ?h29 ?h30 ?h31 ?h32 ?h33 ?h34 ?h35 ?h36 ?h37 ?eML' ?eMW' ?eMF'  ?hcc ?hch ?z_len ?z_range ?z_isinstance ?z_int ?z_bool ?z_tuple ?z_list ?z_max ?z_min ?z_all ?z_zip ?z_str ?z_dict ?z_sorted ?z_set ?z_any ?z_sum ?z_enumerate ?z_repr ?z_ord ?z_chr ?z_abs ?z_reversed
  (case h1=>walk_at "kF");(case h2=>walk_at "kF");(case h3=>walk_at "kF");(case h4=>walk_at "kF");(case h5=>walk_at "kF");(case h6=>walk_at "kF");(case h7=>walk_at "kF");(case h8=>walk_at "kF");(case h9=>walk_at "kF");(case h10=>walk_at "kF");(case h11=>walk_at "kF");(case h12=>walk_at "kF");(case h13=>walk_at "kF");(case h14=>walk_at "kF");(case h15=>walk_at "kF");(case h16=>walk_at "kF");(case h17=>walk_at "kF");(case h18=>walk_at "kF");(case h19=>walk_at "kF");(case h20=>walk_at "kF");(case h21=>walk_at "kF");(case h22=>walk_at "kF");(case h23=>walk_at "kF");(case h24=>walk_at "kF");(case h25=>walk_at "kF");(case h26=>walk_at "kF");(case h27=>walk_at "kF");(case h28=>walk_at "kF");(case h29=>walk_at "kF");(case h30=>walk_at "kF");(case h31=>walk_at "kF");(case h32=>walk_at "kF");(case h33=>walk_at "kF");(case h34=>walk_at "kF");(case h35=>walk_at "kF");(case h36=>walk_at "kF");(case h37=>walk_at "kF")
  (case eML'=>k_is);(case eMW'=>k_is);(case eMF'=>k_is)
  (case hcc=>exact rfl);(case hch=>kernel_rfl)
  (case z_len=>k_is);(case z_range=>k_is);(case z_isinstance=>k_is);(case z_int=>k_is);(case z_bool=>k_is);(case z_tuple=>k_is);(case z_list=>k_is);(case z_max=>k_is);(case z_min=>k_is);(case z_all=>k_is);(case z_zip=>k_is);(case z_str=>k_is);(case z_dict=>k_is);(case z_sorted=>k_is);(case z_set=>k_is);(case z_any=>k_is);(case z_sum=>k_is);(case z_enumerate=>k_is);(case z_repr=>k_is);(case z_ord=>k_is);(case z_chr=>k_is);(case z_abs=>k_is);(case z_reversed=>k_is)
 case nT=>exact λw=>by kernel_rfl
