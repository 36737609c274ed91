import PyProof.Rows.All
import Wide.All
import OpenK.AllK
import Wide.FinOn
import Lean
import PyProof.EqAt
import PyProof.EqKinds
import PyProof.TupleCall
import PyProof.NeKinds
import KE.IntBitsLaws
import PyProof.StrWalks
import PyProof.FString5
import PyProof.ConsumeWalk
import PyProof.DictCompW
import PyProof.ZipIter
import PyProof.EnumMake
import PyProof.Rows.SetFrom
import KE.KRevSl
import PyProof.FitsBits
import PyProof.Rows.SortStr
import PyProof.StrBlockL
import PyProof.JoinWalk
import PyProof.AttrMissHeap
import PyProof.ListNew
import PyProof.DictUpdate
import PyProof.DictWalks
import KE.KSortTup
import PyProof.Rows.StrMeet
import KE.KSortKey
import PyProof.ListRange
import PyProof.SumAny
import PyProof.WalkInts
import PyProof.StationsW
import PyProof.RulesAs
import OpenK.KRaise
import PyProof.ExcInit
import PyProof.ExcBaseAll.ValueError
import PyProof.PassesOwn
import PyProof.NsDelKeeps
import PyProof.Rows.Catch
import PyProof.FString
import PyProof.Rows.FStr
import PyProof.ExcArgs
import PyProof.ExcAttrAll.ValueError
import PyProof.Rows.SortWalk
import PyProof.ReprRoads
import PyProof.ReprText
import PyProof.CallFns
import KE.KEqDict
import PyProof.AutoListH
import PyProof.SliceStr2
import PyProof.StrOps2
import PyProof.Rows.StrMadeLen
import PyProof.StrLawsIn
import PyProof.TupleKey
import PyProof.DictRoadsH
import PyProof.SetScanFacts
import OpenK.KTop
import PySem.Challenge.RW_newsways_k64_letters_of_one_wish
open Array renaming length_toList → A6, getElem?_toList → Bj, getD_eq_getD_getElem? → BP, getElem?_eq_some_iff → BW, forIn_toList → C2, mem_toList_iff → Dv, getElem_toList → Dz, getElem?_eq_getElem → D9, size_append → EV, toList_push → EW, size_push → F6, size_map → FU
open Bool renaming false_ne_true → Ar, false_eq_true → A8, and_eq_true → AM, eq_iff_iff → Bi, not_eq_true' → BA, not_true → Cs, not_eq_true → Cv, and_false → E9, eq_false_iff → EZ
open Classical renaming byContradiction → Fc
open False renaming elim → CZ
open Int renaming emod_lt_of_pos → BG, emod_nonneg → B_, eq_ofNat_of_zero_le → Cj, toNat_natCast → CV, max_eq_left → Fz, mul_le_mul → FV
open List renaming length_map → Ab, mem_cons_of_mem → Ag, mem_append_right → Ah, mem_cons_self → Ai, getElem?_map → Aj, mem_of_getElem? → Ak, getElem?_eq_some_iff → Al, mem_singleton → Am, mem_cons → An, map_append → Ao, size_toArray → As, getElem?_eq_getElem → Au, mem_filter → Av, length_append → Aw, map_cons → Ax, mem_map → Az, getD_eq_getElem?_getD → A2, mem_append → A9, length_take → AA, length_cons → AB, length_filter_le → AC, mem_map_of_mem → AF, mem_append_left → AH, range → AJ, not_mem_nil → AK, replicate → AL, mem_range → AQ, take_length → AS, Nodup → AT, filter_append → AV, take_of_length_le → AX, pairwise_iff_getElem → Bs, nodup_cons → Bv, filter_cons → Bx, length_replicate → Bz, map_map → BF, append_assoc → BI, nodup_append → BJ, getElem_map → BQ, replicate_succ' → BS, any_cons → BV, map_nil → Cb, lookup_cons → Cc, any_eq_true → Cf, getElem?_of_mem → Ci, append_nil → Cm, getElem?_append_right → Cr, perm_ext_iff_of_nodup → Ct, mem_flatMap → Cw, find?_eq_none → Cz, getElem?_append_left → C4, drop_eq_getElem_cons → C5, any_map → C8, all_cons → C9, filter_cons_of_pos → CB, filter_cons_of_neg → CC, toList_toArray → CD, map_replicate → CK, length_singleton → CN, mem_iff_getElem? → CP, nodup_iff_pairwise_ne → CT, sum_cons → CU, length_range → CW, mem_of_mem_take → Da, mem_of_find?_eq_some → Db, mem_filterMap → Dg, find?_cons → Di, pairwise_cons → Dj, length → Dk, reverse_cons → Dl, getElem?_set → Dm, take_succ → Dq, lt_irrefl → Ds, getElem?_eq_none → Dt, length_drop → Dw, length_filter_lt_length_iff_exists → D5, filter_sublist → D7, find?_some → DC, range_succ → DD, any_eq_false → DS, take_sublist → DW, pairwise_map → Ea, pairwise_lt_range → Ef, filterMap_cons → Ew, length_reverse → E4, getElem_of_mem → E5, map_congr_left → E6, flatMap_append → E7, nodup_nil → EC, append_of_mem → EI, getElem?_drop → EK, flatMap_cons → EY, cons_append → Fi, getElem_mem → Fl, length_erase_of_mem → Fn, length_eq_zero_iff → Ft, getLast?_cons_cons → Fu, of_mem_zip → Fw, forIn_cons → Fy, getElem?_set_self → F8, range_succ_eq_map → FE, drop_of_length_le → FH, length_pos_of_mem → FI, filter_eq_nil_iff → FK, forIn_nil → FO, drop_zero → FR, getElem?_set_ne → FX, mem_of_getLast? → Ga, mem_iff_getElem → Gb, length_eraseIdx → Gc, getElem?_range → Gj
open List.Pairwise renaming imp_of_mem → Fp
open List.Perm renaming refl → DP, length_eq → Go
open List.cons renaming injEq → DA
open Nat renaming le_refl → Af, ne_of_lt → A3, le_trans → A4, lt_of_lt_of_le → AG, zero_le → AI, le_of_lt → Bo, lt_of_le_of_lt → BD, lt_trans → Co, lt_irrefl → Cq, ne_of_gt → C7, le_add_right → CF, lt_succ_self → CG, not_lt_zero → CO, le_succ → D6, lt_or_ge → DK, zero_add → DL, mod_lt → DQ, lt_succ_of_lt → DZ, lt_trichotomy → D_, add_zero → Fo, add_le_add_left → Gi
open Ne renaming symm → CL
open Option renaming map_some → Er, isSome_iff_exists → Fd, getD_none → Fe, some_ne_none → Gm
open Option.some renaming inj → AD
open PyProof.Rows renaming seqObj → Bd, callWith_type1 → By, slot_tuple_getitem → BB, callWith_builtin1 → Dh, subscriptTail_builtinR → F9
open PyProof.Rows.F renaming plain_set_update_loop → CJ, entry_set_update_loop → DN
open PySem renaming wpAny_bind → Aa, wpAny_pure → Ac, wpAny_mono → A0, sizeLine → A1, wpAny_loadPart' → A5, starEach → A7, mainGlobals → AE, bootBuiltins → AW, Program → AY, wpAny_holding → AZ, compareOp → A_, SetTable → Ba, wpAny_call_entry → Bb, wpAny_seqItems → Bc, wpAny_newObj_type → Be, wpAny_standAt → Bm, wpAny_callSpecial?_slot → Bn, wpAny_truthy_bool → Bp, foldedSetIterable → Bq, wpAny_Call_Name_kw → Bt, wpAny_field → Bu, FuncData → Bw, Around → BC, letOwnedTupleGo → BM, cellsFrom → BO, wpAny_forIn_list → BR, codeAny_mono → BU, wpAny_specialOf → BX, codeAny_builtin → BY, wpAny_comprehension_free → Cd, wpAny_rule → Cg, wpAny_richCompare_same_room → Cn, sysModules → Cp, compStart → Cy, wpAny_typeNameOfWhole_keyiter → CA, wpAny_setField_rec → CI, wpAny_passesOwn → CM, plainId_quiet → CQ, wpAny_setState_of → CY, wpAny_typeNameOf_keyiter → De, mem_of_lookup → Df, wpAny_typeOf → Do, wpAny_isInstance → Dx, codeAny_call_builtin → Dy, wpAny_callSpecialIfBoundUnlessNone?_slot → D0, wpAny_attempt → Ej, wpAny_execs_nil → En, codeAny_loop → Es, wpAny_updateSeq_pair → Et, codeAny_of_tree → Eu, wpAny_setField → EA, wpAny_letGo → ED, wpAny_noted → EE, wpAny_pyIter_tuple → EF, wpAny_tupleItemsOf → EJ, wpAny_onRaise → EO, wpAny_assign_Name → ER, wpAny_pyIter_list → ES, wpAny_sequenceKey → ET, slot_list_getitem → EU, wpAny_dictEntries → EX, wpAny_call → E_, wpAny_getItem_list_slice → Ff, wpAny_askSetting → Fm, wpAny_dictEpoch → F7, wpAny_of_eq → FC, codeAny_compStart_list → FD, codeAny_compStart_dict → FF, wpAny_listPart → FN
open PySem.Around renaming under_plainId → BE, in1_units → Ce
open PySem.AutoSeq1 renaming sub_list_list → Ed
open PySem.Builtin.Dict renaming showsAll → FS
open PySem.Builtin.Dict_items renaming ownsTuple → EB
open PySem.Builtin.Int renaming intBits → E3
open PySem.Builtin.List renaming listSubscript? → EG, listAllItems → Fb, listTooLong → Fg, listSameRef → Fh
open PySem.Builtin.Range renaming rangeSize → Fq
open PySem.Builtin.Slice renaming slicePlaces → C_, sliceAdjust → D8, sliceApplied → EM
open PySem.Builtin.SmallTypes renaming nextOf → Br, ownedTupleIsFree → Ch, ownedTupleHandOut → DJ
open PySem.Builtin.Str renaming strSliceIndices → AR
open PySem.Builtin.Tuple renaming tupleExact → Dc, tupleItemsOf → D2, tupleHashOf → DB
open PySem.Calls renaming spliced_cons → DG, spliced_nil → DV, Name_function_global → EL
open PySem.F renaming plainAttrs_list → AU, slot_list_append → Bf, type_list_append → Bh, slot_dict_keyiterator_next → BK, slot_tuple_hash → Ck, slot_tuple_iterator_next → Cu, slot_NoneType_hash → CS, slot_zip_next → Dr, slot_tuple_eq → Du, args_tuple_add_2 → DH, args_dict_keyiterator_next_1 → DM, entry_dict_keyiterator_next → DO, entry_tuple_add → DR, args_tuple_iterator_next_1 → DX, slot_tuple_add → Eb, entry_tuple_iterator_next → Ec, slot_list_pop → El, type_list_pop → Em, args_zip_next_1 → Fs, entry_zip_next → FG, slot_dict_iter → FJ, plain_set_new → FQ
open PySem.Heap renaming get?_push_of_some → Ae, lt_size → Aq, get?_push_size → Ay, size_push → BL, SameBut → C6, get?_update_self → Dp, get?_update_other → FB, get?_none_of_le → FW, get?_update_ne → Gk
open PySem.Heap.SameBut renaming update → BH
open PySem.Obj renaming mapSeq → AN, data_mapFields → DI, isFreed_of_fields → FP
open PySem.PassesOwn renaming never → AO
open PySem.SeqAt renaming EqAt → Eo
open PySem.SeqAt.EqAt renaming int_str → DE, str_int → DF, same → Ep, none_int → Ex, none_str → Ey, int_none → Ez, str_none → E2, none_bool → FY, bool_none → FZ, bool_bool → F_, bool_int → Ge, bool_str → Gf, int_bool → Gg, str_bool → Gh
open PySem.SeqAt.RcAt renaming lists_lengths → Fj
open PySem.SeqAt.RcNeAt renaming lists_lengths → EN
open PySem.SetTable renaming below → Bk, insertAt_perm → Eg, advance → Ek, grown → FT, sameMemory → Gn
open PySem.Str renaming ofString → Ca
open PySem.Value renaming isStrOf → Eh, isStrOf_shape → Gd
open PySem.W renaming Frag → Ad, kia_one → BN, kia_tup → BZ, cellsFrom_some → CH, fnOf → Dn, kitx_list → DT, kitx_dict → DU, keepIn → E8, methodObj → EQ, instObj → Fv, OpenLaw → Fx, lookIn → FL, codeIn → FM
open PySem.W.KFB renaming if_not → EH
variable{s:PySem.Shared}{w:PySem.World}{A:PySem.Around}{E:PySem.Value→PySem.Shared→Prop}{pins:List (PySem.Addr×PySem.Obj)}{prog:PySem.Program}{pos:PySem.Pos}{h:PySem.Heap}{a:PySem.Addr}{b:PySem.Addr}{i:Nat}{n:Nat}{us:List PySem.Value}{P:PySem.Program}{u:PySem.Value}{e:PySem.Expr}{scope:PySem.Scope}
open PySem PySem.Spec PyProof.Rows
set_option Elab.async false
set_option linter.all false
set_option maxRecDepth 100000
namespace L2
abbrev IT:=Sum Int Str
def MG:IT→Value→Bool
 | .inl k,v=>Value.isInt k v
 | .inr x,v=>Eh x v
def RK(w:World):IT→Int
 | .inl k=>hashInt k
 | .inr x=>hashStr w x
theorem LB:∀{k:IT}{v:Value},MG k v=true→(∃i t,k=Sum.inl i∧v=Value.int i t)∨(∃x t,k=Sum.inr x∧v=Value.str x t)
 | .inl i,v,h=>by obtain⟨t,e⟩:=Value.isInt_shape (k:=i) (v:=v) h;exact .inl ⟨i,t,rfl,e⟩
 | .inr x,v,h=>by obtain⟨t,e⟩:=Gd (x:=x) (v:=v) h;exact .inr ⟨x,t,rfl,e⟩
theorem Vt(i:Int)(t:Tok):MG (.inl i) (.int i t)=true:=by simp[MG,Value.isInt]
theorem Vu(x:Str)(t:Tok):MG (.inr x) (.str x t)=true:=by simp[MG,Eh]
theorem XJ(a b:Int):decide ((Sum.inl a:IT)=Sum.inl b)=(a==b):=by
 by_cases e:a=b
 · subst e;simp
 · have h:¬(Sum.inl a:IT)=Sum.inl b:=λq=>e (Sum.inl.inj q);rw[decide_eq_false h];exact(beq_eq_false_iff_ne.mpr e).symm
theorem XQ(a b:Str):decide ((Sum.inr a:IT)=Sum.inr b)=decide (a=b):=by
 by_cases e:a=b
 · subst e;simp
 · have h:¬(Sum.inr a:IT)=Sum.inr b:=λq=>e (Sum.inr.inj q);rw[decide_eq_false h,decide_eq_false e]
theorem XM(a:Int)(b:Str):decide ((Sum.inl a:IT)=Sum.inr b)=false:=decide_eq_false (λq=>nomatch q)
theorem XN(a:Str)(b:Int):decide ((Sum.inr a:IT)=Sum.inl b)=false:=decide_eq_false (λq=>nomatch q)
def KM(prog:AY)(w:World):PySem.KeyKind prog w IT where
 is:=MG
 hash:=RK w
 inj:=λv a b ha hb=>by
  rcases LB ha with⟨i,t,rfl,rfl⟩ | ⟨x,t,rfl,rfl⟩
  · rcases LB hb with⟨j,u,rfl,e⟩ | ⟨y,u,rfl,e⟩
    · injection e with e1 _;rw[e1]
    · exact nomatch e
  · rcases LB hb with⟨j,u,rfl,e⟩ | ⟨y,u,rfl,e⟩
    · exact nomatch e
    · injection e with e1 _;rw[e1]
 byValue:=λk v h=>by rcases LB h with⟨i,t,rfl,rfl⟩ | ⟨x,t,rfl,rfl⟩<;>rfl
 pyHash:=λhv h=>by
  rcases LB hv with⟨i,t,rfl,rfl⟩ | ⟨x,t,rfl,rfl⟩
  · exact wpAny_pyHash_int h
  · exact wpAny_pyHash_str h
 eqBool:=λhu hv h=>by
  rcases LB hu with⟨i,t,rfl,rfl⟩ | ⟨x,t,rfl,rfl⟩
  · rcases LB hv with⟨j,u,rfl,rfl⟩ | ⟨y,u,rfl,rfl⟩
    · rw[XJ] at h;exact wpAny_eqBool_int h
    · rw[XM] at h;exact DE i t y u _ _ _ _ h
  · rcases LB hv with⟨j,u,rfl,rfl⟩ | ⟨y,u,rfl,rfl⟩
    · rw[XN] at h;exact DF x t j u _ _ _ _ h
    · rw[XQ] at h;exact wpAny_eqBool_str h
 «strs»:=λk x t v h=>by
  rcases LB h with⟨i,u,rfl,e⟩ | ⟨y,u,rfl,e⟩
  · exact nomatch e
  · injection e with e1 _
    subst e1;cases v<;>rfl
theorem zhv(prog:AY)(w:World)(i:Int)(t:Tok):(KM prog w).is (.inl i) (.int i t)=true:=Vt i t
theorem zhu(prog:AY)(w:World)(x:Str)(t:Tok):(KM prog w).is (.inr x) (.str x t)=true:=Vu x t
inductive V where
 | non | bl (b:Bool) | int (i:Int) | str (x:Str) | byt (b:Array UInt8) | flt (b:UInt64) | ref (a:Addr) | ty (n:String)
 deriving DecidableEq
def RelV:V→Value→Prop
 | .non,u=>u=Value.none
 | .bl b,u=>u=Value.bool b
 | .int i,u=>∃t,u=Value.int i t
 | .str x,u=>∃t,u=Value.str x t
 | .byt b,u=>∃t,u=Value.bytes b t
 | .flt b,u=>∃t,u=Value.float b t
 | .ref a,u=>u=Value.ref a
 | .ty n,u=>u=Value.type n
abbrev Vals:List V→List Value→Prop:=Paired RelV
theorem Vals.length{xs:List V}(r:Vals xs us):xs.length=us.length:=Paired.length r
theorem Vals.get:∀{xs:List V}{us:List Value}{i:Nat}{x:V},Vals xs us→xs[i]?=some x→∃u,us[i]?=some u∧RelV x u
 | _,_,_,_,.nil,e=>by simp at e
 | _,_,0,_,.cons r _,e=>by simp at e;subst e;exact⟨_,rfl,r⟩
 | _,_,i+1,x,.cons _ t,e=>by obtain⟨u,h1,h2⟩:=Vals.get (i:=i) (x:=x) t (by simpa using e);exact⟨u,by simpa using h1,h2⟩
theorem Vals.set{x:V}(r:RelV x u):∀{xs:List V}{us:List Value}(i:Nat),Vals xs us→Vals (xs.set i x) (us.set i u)
 | _,_,_,.nil=> .nil
 | _,_,0,.cons _ t=> .cons r t
 | _,_,i+1,.cons q t=> .cons q (Vals.set r i t)
theorem Vals.append:∀{xs ys:List V}{us ws:List Value},Vals xs us→Vals ys ws→Vals (xs++ys) (us++ws)
 | _,_,_,_,.nil,s=>s
 | _,_,_,_,.cons r t,s=> .cons r (Vals.append t s)
theorem Vals.take:∀{xs:List V}{us:List Value}(n:Nat),Vals xs us→Vals (xs.take n) (us.take n)
 | _,_,0,_=> .nil
 | _,_,_+1,.nil=> .nil
 | _,_,n+1,.cons r t=> .cons r (Vals.take n t)
theorem Vals.drop:∀{xs:List V}{us:List Value}(n:Nat),Vals xs us→Vals (xs.drop n) (us.drop n)
 | _,_,0,r=>r
 | _,_,_+1,.nil=> .nil
 | _,_,n+1,.cons _ t=>Vals.drop n t
def RelO:Option V→Option Value→Prop
 | some v,some u=>RelV v u
 | none,none=>True
 | _,_=>False
def KV{κ:Type}:List (κ×V)→List (κ×Value)→Prop:=Paired λ(p:κ×V)(q:κ×Value)=>p.1=q.1∧RelV p.2 q.2
def kV:IT→V
 | .inl i=> .int i
 | .inr x=> .str x
inductive HO where
 | lst (xs:List V)
 | tup (xs:List V)
 | dK (kvs:List (IT×V)) | dT (kvs:List (List IT×V))
 | set (S:Int→Bool) (n:Nat)
 | ins (C dx:Addr) (fs:List (Str×V))
 | own (x:Addr)
 | xd (fs:List (Str×V))
 | met (f x:Addr)
 | rng (lo hi:Int)
 | frz (o:Obj) (u:HO)
 | tbl (ps:Array Value)
 | ext (φ:Heap→Prop)
def IsTupP(h:Heap)(a:Addr)(items:Array Value):Prop:=∃o,h.get? a=some o∧o.cls= .type "tuple"∧o.dict=none∧∃n,o.data= .seq items n
theorem IsTupP.tup{items:Array Value}(x:IsTupP h a items):IsTup h a items:=let⟨o,h1,h2,_,h3⟩:=x;⟨o,h1,h2,h3⟩
theorem IsTupP.new(h:Heap)(items:Array Value):IsTupP (h.push {cls:= .type "tuple",data:= .seq items}) h.objs.size items:=⟨_,Ay _ rfl,rfl,rfl,_,rfl⟩
abbrev Hp:=Addr→Option HO
def upd(H:Hp)(a:Addr)(o:HO):Hp:=λb=>if b=a then some o else H b
theorem Ij{H:Hp}{o:HO}:upd H a o a=some o:=by unfold upd;rw[if_pos rfl]
theorem Iy{H:Hp}{o:HO}(h:b≠a):upd H a o b=H b:=by unfold upd;rw[if_neg h]
theorem Nl{H:Hp}{o u:HO}(h:H a=some o)(h':H b=some u)(d:o≠u):a≠b:=by intro e;subst e;rw[h] at h';exact d (AD h')
theorem J2{H:Hp}{o:HO}(h:H a=some o)(h':H b=none):a≠b:=by intro e;subst e;rw[h] at h';cases h'
section
variable(P:AY)(w:World)
def ObjOk(H:Hp)(h:Heap)(a:Addr):HO→Prop
 | .lst xs=>xs.length≤A1∧∃(its:List Value)(n:Nat),Vals xs its∧h.get? a=some {cls:= .type "list",data:= .seq its.toArray n}
 | .tup xs=>xs.length≤A1∧∃its:List Value,Vals xs its∧IsTupP h a its.toArray
 | .dK kvs=>kvs.length≤A1∧(a==Cp)=false∧∃vs,KV kvs vs∧h.DictOf (KM P w) a vs
 | .dT kvs=>kvs.length≤A1∧(a==Cp)=false∧∃xs:List (List IT×Addr×Value),
  Paired (λ(p:List IT×V)(q:List IT×Addr×Value)=>p.1=q.1∧H q.2.1=some (.tup (p.1.map kV))∧RelV p.2 q.2.2) kvs xs∧
  ∃o es ep,h.get? a=some o∧o.ExactDict∧o.data= .dict es ep∧es.toList=xs.map (entryOfKey (tupleKind (KM P w)))∧(xs.map (·.1)).Nodup
 | .set S n=>h.SetOf (intKind P w) a S n
 | .ins C dx fs=>H dx=some (.own a)∧fs.length≤1000∧dx≠a∧h.get? a=some (Fv C dx)∧
  ∃mA,h.Ns1 dx mA∧(∀f,RelO (fs.lookup f) (mA f))∧PySem.Within mA (fs.map (·.1))
 | .own _=>∃o,h.get? a=some o
 | .xd fs=>∃mA,h.Ns1 a mA∧∀f,RelO (fs.lookup f) (mA f)
 | .rng lo hi=>∃t u v,h.get? a=some {cls:= .type "range",data:= .fields #[.int lo t,.int hi u,.int 1 v]}
 | .frz o u=>h.get? a=some o∧ObjOk H h a u
 | .tbl ps=>h.get? a=some {cls:= .none,data:= .fields ps}
 | .met f x=>h.get? a=some (EQ (.ref f) (.ref x))
 | .ext φ=>φ h∧(∃o,h.get? a=some o)∧∀h1 h2:Heap,φ h1→(∀o,h1.get? a=some o→h2.get? a=some o)→φ h2
def HOk(H:Hp)(h:Heap):Prop:=∀a o,H a=some o→ObjOk P w H h a o
end
section
variable{H H':Hp}{h':Heap}{o:HO}
theorem ObjOk.lt(x:ObjOk P w H h a o):a<h.objs.size:=by
 cases o with
 | lst xs=>obtain⟨_,_,_,_,e⟩:=x;exact Aq e
 | tup xs=>obtain⟨_,_,_,p⟩:=x;exact(show IsTupP _ _ _ from p).tup.lt
 | dK kvs=>obtain⟨_,_,_,_,o,_,_,e,_⟩:=x;exact Aq e
 | dT kvs=>obtain⟨_,_,_,_,o,_,_,e,_⟩:=x;exact Aq e
 | set S n=>obtain⟨o,_,_,_,e,_⟩:=x;exact Aq e
 | ins C dx fs=>obtain⟨_,_,_,e,_⟩:=x;exact Aq e
 | own y=>obtain⟨_,e⟩:=x;exact Aq e
 | xd fs=>obtain⟨_,⟨_,_,_,e,_⟩,_⟩:=x;exact Aq e
 | rng lo hi=>obtain⟨_,_,_,e⟩:=x;exact Aq e
 | frz ob u=>obtain⟨e,_⟩:=x;exact Aq e
 | tbl ps=>exact Aq (show h.get? a=some _ from x)
 | met f y=>exact Aq (show h.get? a=some _ from x)
 | ext φ=>obtain⟨_,⟨_,e⟩,_⟩:=x;exact Aq e
theorem Paired.mapP{α β:Type}{F G:α→β→Prop}:∀{l₁:List α}{l₂:List β},Paired F l₁ l₂→(∀a b,F a b→G a b)→Paired G l₁ l₂
 | _,_,.nil,_=> .nil
 | _,_,.cons r t,f=> .cons (f _ _ r) (Paired.mapP t f)
theorem ObjOk.stay(x:ObjOk P w H h a o)(k:∀b u,(b=a∨H b=some (.own a))→h.get? b=some u→h'.get? b=some u)
 (ho:∀b,H b=some (.own a)→H' b=some (.own a)) (ht:∀b xs,H b=some (.tup xs)→H' b=some (.tup xs)):ObjOk P w H' h' a o:=by
 induction o with
 | lst xs=>obtain⟨z,its,n,r,e⟩:=x;exact⟨z,its,n,r,k _ _ (.inl rfl) e⟩
 | tup xs=>obtain⟨z,its,r,ob,e,c⟩:=x;exact⟨z,its,r,ob,k _ _ (.inl rfl) e,c⟩
 | dK kvs=>obtain⟨z,y,vs,r,ob,es,ep,e,c⟩:=x;exact⟨z,y,vs,r,ob,es,ep,k _ _ (.inl rfl) e,c⟩
 | dT kvs=> obtain⟨z,y,xs,r,ob,es,ep,e,c⟩:=x;exact⟨z,y,xs,Paired.mapP r λp q z=>⟨z.1,ht _ _ z.2.1,z.2.2⟩,ob,es,ep,k _ _ (.inl rfl) e,c⟩
 | set S n=>obtain⟨ob,es,ep,t,e,c⟩:=x;exact⟨ob,es,ep,t,k _ _ (.inl rfl) e,c⟩
 | ins C dx fs=> obtain⟨d,z,ne,e,mA,⟨od,es,ep,e2,c⟩,r⟩:=x;exact⟨ho _ d,z,ne,k _ _ (.inl rfl) e,mA,⟨od,es,ep,k _ _ (.inr d) e2,c⟩,r⟩
 | own y=>obtain⟨ob,e⟩:=x;exact⟨ob,k _ _ (.inl rfl) e⟩
 | xd fs=>obtain⟨mA,⟨od,es,ep,e,c⟩,r⟩:=x;exact⟨mA,⟨od,es,ep,k _ _ (.inl rfl) e,c⟩,r⟩
 | rng lo hi=>obtain⟨t,u,v,e⟩:=x;exact⟨t,u,v,k _ _ (.inl rfl) e⟩
 | frz ob u ih=>obtain⟨e,q⟩:=x;exact⟨k _ _ (.inl rfl) e,ih q⟩
 | tbl ps=> have e:h.get? a=some {cls:= .none,data:= .fields ps}:=x;show h'.get? a=some {cls:= .none,data:= .fields ps};exact k a _ (.inl rfl) e
 | met f y=> have e:h.get? a=some (EQ (.ref f) (.ref y)):=x;show h'.get? a=some (EQ (.ref f) (.ref y));exact k a _ (.inl rfl) e
 | ext φ=>obtain⟨p,⟨o,e⟩,st⟩:=x;exact⟨st _ _ p λo q=>k _ _ (.inl rfl) q,⟨o,k _ _ (.inl rfl) e⟩,st⟩
theorem HOk.lt(x:HOk P w H h)(e:H a=some o):a<h.objs.size:=(x a o e).lt
theorem HOk.fresh(x:HOk P w H h)(e:h.objs.size≤a):H a=none:=by
 cases q:H a with
 | none=>rfl
 | some u=>exact absurd (AG (x.lt q) e) (Cq _)
theorem HOk.kept(x:HOk P w H h)(k:∀b u,h.get? b=some u→h'.get? b=some u):HOk P w H h':=λa o e=>
 (x a o e).stay (λb u _ q=>k b u q) (λ_ q=>q) λ_ _ q=>q
theorem HOk.laid(x:HOk P w H h)(k:∀b u,h.get? b=some u→h'.get? b=some u)(hp:h.objs.size≤a)(new:ObjOk P w (upd H a o) h' a o):HOk P w (upd H a o) h':=λb u e=>by
 have hn:=x.fresh hp;by_cases hb:b=a
 · subst hb;rw[Ij] at e;cases e;exact new
 · rw[Iy hb] at e;exact(x b u e).stay (λc v _ q=>k c v q) (λc q=>by rw[Iy (J2 q hn)];exact q) λc xs q=>by rw[Iy (J2 q hn)];exact q
end
def Rd(H:Hp)(a:Addr)(u:HO):Prop:=H a=some u∨∃o,H a=some (.frz o u)
theorem Rd.ok{H:Hp}{u:HO}(r:Rd H a u)(x:HOk P w H h):ObjOk P w H h a u:=by
 rcases r with r | ⟨o,r⟩
 · exact x a u r
 · obtain⟨_,q⟩:=x a _ r;exact q
def Ow:Option HO→Prop
 | some (.lst _)=>True
 | some (.dK _)=>True
 | some (.dT _)=>True
 | some (.set _ _)=>True
 | some (.ins _ _ _)=>True
 | some (.ext _)=>True
 | _=>False
section
variable{H:Hp}{h':Heap}{x e:Addr}{o':HO}
theorem HOk.write(ok:HOk P w H h)(mu:Ow (H x))(he:e=x∨H e=some (.own x))(k:∀b u,b≠e→h.get? b=some u→h'.get? b=some u)(heo:∃u,h'.get? e=some u)
 (new:ObjOk P w (upd H x o') h' x o'):HOk P w (upd H x o') h':=λb u q=>by
 have nown:∀c y,H c=some (.own y)→c≠x:=λc y r z=>by subst z;rw[r] at mu;exact mu
 have ntup:∀c xs,H c=some (.tup xs)→c≠x:=λc xs r z=>by subst z;rw[r] at mu;exact mu
 by_cases hb:b=x
 · subst hb;rw[Ij] at q;cases q;exact new
 · rw[Iy hb] at q;by_cases hbe:b=e
   · have q':H b=some (.own x):=by
      rcases he with z | z
      · exact absurd (hbe.trans z) hb
      · rw[hbe];exact z
     rw[q] at q';cases q';obtain⟨v,hv⟩:=heo;exact⟨v,by rw[hbe];exact hv⟩
   · refine(ok b u q).stay (λc v hc r=>k c v ?_ r) (λc r=>by rw[Iy (nown c b r)];exact r) λc xs r=>by rw[Iy (ntup c xs r)];exact r
     rcases hc with rfl | hc
     · exact hbe
     · rintro rfl;rcases he with z | z
       · exact nown c b hc z
       · rw[hc] at z;cases z;exact hb rfl
end
structure Un(fs ex:List Addr)(H H':Hp)(h h':Heap):Prop where
 keep:∀b o,h.get? b=some o→H b=none→b ∉ fs→b ∉ ex→h'.get? b=some o
 slot:∀b o,h.get? b=some o→H b=none→b∈fs→b ∉ ex→∃sl,h'.get? b=some {o with slots:=sl}
 free:∀b o,h.get? b=some o→H b=none→b ∉ ex→H' b=none
 there:∀b o,h.get? b=some o→b ∉ ex→∃o',h'.get? b=some o'
 tups:∀b xs,H b=some (.tup xs)→H' b=some (.tup xs)
 frzs:∀b o u,H b=some (.frz o u)→H' b=some (.frz o u)
 tbls:∀b ps,H b=some (.tbl ps)→∃more,H' b=some (.tbl (ps++more))
section
variable{fs fs' ex ex':List Addr}{H H1 H2:Hp}{h1 h2 h':Heap}{x e:Addr}{o:HO}
theorem Un.any(u:Un fs ex H H1 h h1){ob:Obj}(q:h.get? b=some ob)(n:H b=none)(hx:b ∉ ex):∃sl,h1.get? b=some {ob with slots:=sl}:=by
 by_cases hb:b∈fs
 · exact u.slot b ob q n hb hx
 · exact⟨ob.slots,u.keep b ob q n hb hx⟩
theorem Un.kept(k:∀b u,h.get? b=some u→h'.get? b=some u):Un fs ex H H h h':=
 ⟨λb ob q _ _ _=>k b ob q,λb ob q _ _ _=>⟨ob.slots,k b ob q⟩,λ_ _ _ n _=>n,λb ob q _=>⟨ob,k b ob q⟩,λ_ _ q=>q,λ_ _ _ q=>q,λ_ ps q=>⟨#[],by rw[q];simp⟩⟩
theorem Un.refl:Un fs ex H H h h:=Un.kept λ_ _ q=>q
theorem Un.laid(k:∀b u,h.get? b=some u→h'.get? b=some u)(hp:h.objs.size≤a)(hn:H a=none):Un fs ex H (upd H a o) h h' where
 keep:=λb u q _ _ _=>k b u q
 slot:=λb u q _ _ _=>⟨u.slots,k b u q⟩
 free:=λb u q n _=>by rw[Iy (A3 (AG (Aq q) hp))];exact n
 there:=λb u q _=>⟨u,k b u q⟩
 tups:=λb xs q=>by rw[Iy (J2 q hn)];exact q
 frzs:=λb u xs q=>by rw[Iy (J2 q hn)];exact q
 tbls:=λb ps q=>⟨#[],by rw[Iy (J2 q hn),q];simp⟩
theorem Un.write(mu:Ow (H x))(he:e=x∨H e=some (.own x))(k:∀b u,b≠e→h.get? b=some u→h'.get? b=some u)(heo:∃u,h'.get? e=some u):Un fs ex H (upd H x o) h h':=by
 have hx:∀b,H b=none→b≠x:=λb n z=>by subst z;rw[n] at mu;exact mu
 have hb:∀b,H b=none→b≠e:=λb n z=>by
  subst z;rcases he with r | r
  · exact hx b n r
  · rw[n] at r;cases r
 have hm:∀b u,H b=some u→¬Ow (some u)→b≠x:=λb u q nm z=>by subst z;rw[q] at mu;exact nm mu
 refine⟨λb u q n _ _=>k b u (hb b n) q,λb u q n _ _=>⟨u.slots,k b u (hb b n) q⟩,λb u q n _=>by rw[Iy (hx b n)];exact n,λb u q _=>?_,
  λb xs q=>by rw[Iy (hm b _ q λz=>z)];exact q,λb u xs q=>by rw[Iy (hm b _ q λz=>z)];exact q,λb ps q=>⟨#[],by rw[Iy (hm b _ q λz=>z),q];simp⟩⟩
 by_cases hbe:b=e
 · subst hbe;exact heo
 · exact⟨u,k b u hbe q⟩
end
def trk(h:Heap)(H:Hp):List Addr:=(AJ h.objs.size).filter λa=>(H a).isSome
def JW(h:Heap)(H:Hp):Heap:=PySem.W.hideAll h (trk h H)
theorem Zo(h:Heap)(H:Hp):(JW h H).objs.size=h.objs.size:=PySem.W.hideAll_size _ _
theorem Zb{H:Hp}{o:Obj}(e:h.get? b=some o)(n:H b=none):(JW h H).get? b=some o:=
 PySem.W.hideAll_get _ e λhm=>by have q:(H b).isSome=true:=(Av.mp hm).2;rw[n] at q;simp at q
theorem Yy{H:Hp}{o:Obj}(e:(JW h H).get? b=some o):h.get? b=some o∧H b=none:=by
 have e':h.get? b=some o:=PySem.W.of_hideAll (trk h H) e;refine⟨e',?_⟩;cases q:H b with
 | none=>rfl
 | some x=> have hm:b∈trk h H:=Av.mpr ⟨AQ.mpr (Aq e'),by simp[q]⟩;have z:(JW h H).get? b=none:=PySem.W.hideAll_none (trk h H) hm;rw[z] at e;cases e
def Xp(g h:Heap)(L:Addr):List (Addr×Obj):=(AJ h.objs.size).filterMap λa=>if a=L∨(g.get? a).isSome=true then none else(h.get? a).map λo=>(a,o)
def Io(g h:Heap)(L d:Addr):List (Addr×Obj):=(Xp g h L).filter λp=>decide (p.1≠d)
structure Mod(K:Ad)(mg:Str→Option Value)(base:Heap):Prop where
 kin:K.In base
 glob:base.Ns AE mg
 blt:∃mb,base.Ns builtinsNs mb∧∀x:Str,x≠"__name__"→mb x=AW x
 nolimit:base.NoLimit
structure Cx where
 prog:AY
 w:World
 K:Ad
 mg:Str→Option Value
 base:Heap
 A:BC
 N:List Str
 s₀:Shared
 H₀:Hp
 env:Env
 outer:List Env
 stack:List Env
 ex:List Addr
 fn:Str→Bool
 calm:Bool
 pn:List (Addr×Obj)
 xe:Value→Shared→Prop
def Lk(l:List Env):List Addr:=l.filterMap (·.frame)
abbrev Cx.fs(X:Cx):List Addr:=Lk X.outer
def Os(sc:Scope)(x:Str):Prop:=sc.names.lookup x=some .local∨sc.names.lookup x=some .cell∨sc.names.lookup x=some .free
def MC(sc:Scope)(x:Str):Prop:=sc.names.lookup x=some .local∨sc.names.lookup x=some .cell
def RZ(env:Env)(h:Heap)(m:Str→Option Value)(x:Str)(u:Value):Prop:=
 (env.kindOf x=some .local∧m x=some u)∨((env.kindOf x=some .cell∨env.kindOf x=some .free)∧∃c,env.cells.lookup x=some c∧h.IsCell c (some u))
structure Cx.Ok(X:Cx):Prop where
 mod:Mod X.K X.mg X.base
 kind:X.env.scope.kind= .function
 glob:X.env.globals=AE
 blt:X.env.builtins=builtinsNs
 above:X.s₀.heap.objs.size≤X.env.locals
 inj:∀x y c,X.env.cells.lookup x=some c→X.env.cells.lookup y=some c→x=y
 has:∀x,(X.env.kindOf x=some .cell∨X.env.kindOf x=some .free)→∃c,X.env.cells.lookup x=some c
 cab:∀x c,X.fn x=true→X.env.cells.lookup x=some c→X.s₀.heap.objs.size≤c
 hd:X.calm=true→X.A.handled=none
 frames:X.A.frames=some X.stack
 stk:X.stack=X.outer∨(X.stack=X.env::X.outer∧X.env.frame=some X.env.locals)
 exf:∀b∈X.ex,b≠X.env.locals∧∀x c,X.env.cells.lookup x=some c→c≠b
 bs:∀b o,X.base.get? b=some o→X.s₀.heap.get? b=some o∧X.H₀ b=none
 bsz:X.base.objs.size≤X.s₀.heap.objs.size
 noex:∀b o,X.base.get? b=some o→b ∉ X.ex
 exfs:∀b∈X.ex,b ∉ X.fs
 funs:X.s₀.heap.FunFrames X.base X.outer
 frf:∀b∈X.fs,X.H₀ b=none
structure Inv(X:Cx)(pins:List (Addr×Obj))(σ:List (Option V))(H:Hp)(s:Shared):Prop where
 ok:X.Ok
 os:s.os=X.s₀.os
 bare:AllBare s.gens
 base:Un X.fs X.ex X.H₀ H X.s₀.heap s.heap
 loc:∃m,s.heap.Ns X.env.locals m∧∀(i:Nat)(x:Str)(v:V),X.N[i]?=some x→σ[i]?=some (some v)→Os X.env.scope x→∃u,RelV v u∧RZ X.env s.heap m x u
 cell:∀x c,X.env.cells.lookup x=some c→∃v,s.heap.IsCell c v
 free:H X.env.locals=none
 freeC:∀x c,X.env.cells.lookup x=some c→H c=none
 pin:∀p∈X.pn++pins,s.heap.get? p.1=some p.2∧H p.1=none∧p.1≠X.env.locals∧p.1 ∉ X.fs∧∀v,p.2.data≠ .cell v
 hok:HOk X.prog X.w H s.heap
 len:σ.length=X.N.length
section
variable{X:Cx}{σ:List (Option V)}{H H':Hp}{h':Heap}
theorem Cx.Ok.nofr(ok:X.Ok){o:Obj}(e:X.base.get? b=some o):b ∉ X.fs:=λhb=>by have:=(ok.funs.mem hb).1;rw[e] at this;cases this
theorem Inv.bs(I:Inv X pins σ H s):∀b o,X.base.get? b=some o→s.heap.get? b=some o∧H b=none:=λb o e=>
 ⟨I.base.keep b o (I.ok.bs b o e).1 (I.ok.bs b o e).2 (I.ok.nofr e) (I.ok.noex b o e),I.base.free b o (I.ok.bs b o e).1 (I.ok.bs b o e).2 (I.ok.noex b o e)⟩
theorem Inv.bk(I:Inv X pins σ H s):∀b o,X.base.get? b=some o→s.heap.get? b=some o:=λb o e=>(I.bs b o e).1
theorem Inv.mod(I:Inv X pins σ H s):Mod X.K X.mg X.base:=I.ok.mod
theorem Inv.kIn(I:Inv X pins σ H s):X.K.In s.heap:=I.ok.mod.kin.keeps I.bk
theorem Inv.lt(I:Inv X pins σ H s):X.env.locals<s.heap.objs.size:=let⟨_,hn,_⟩:=I.loc;hn.lt
theorem Inv.sz(I:Inv X pins σ H s):X.s₀.heap.objs.size≤s.heap.objs.size:=A4 I.ok.above (Bo I.lt)
theorem Inv.nofs(I:Inv X pins σ H s)(h:s.heap.objs.size≤a):a ∉ X.fs:=λhb=>by obtain⟨_,o,ho,_⟩:=I.ok.funs.mem hb;exact absurd (AG (Aq ho) (A4 I.sz h)) (Cq _)
theorem Inv.cne(I:Inv X pins σ H s):∀x c,X.env.cells.lookup x=some c→c≠X.env.locals:=λx c e z=>by obtain⟨v,o,ho,hd⟩:=I.cell x c e;obtain⟨m,⟨o',es,ep,ho',hd',_⟩,_⟩:=I.loc;rw[z,ho'] at ho;cases ho;rw[hd'] at hd;cases hd
theorem Inv.funs(I:Inv X pins σ H s):s.heap.FunFrames X.base X.outer:=by
 have all:∀(l:List Env),(∀b∈Lk l,b∈X.fs)→X.s₀.heap.FunFrames X.base l→s.heap.FunFrames X.base l:=by
  intro l
  induction l with
  | nil=>intro _ _;trivial
  | cons env r ih=> intro hs hl;obtain⟨hk,⟨L,o,hf,hn,ho,hd⟩,hr⟩:=hl;have hL:L∈X.fs:=hs L (by unfold Lk;rw[Ew,hf];exact Ai);obtain⟨sl,e⟩:=I.base.slot L o ho (I.ok.frf L hL) hL λz=>I.ok.exfs L z hL;exact⟨hk,⟨L,_,hf,hn,e,hd⟩,ih (λb hb=>hs b (by unfold Lk;rw[Ew,hf];exact Ag _ hb)) hr⟩
 exact all X.outer (λ_ hb=>hb) I.ok.funs
theorem Inv.stack(I:Inv X pins σ H s):s.heap.FunFrames X.base X.stack:=by
 rcases I.ok.stk with e | ⟨e,hf⟩
 · rw[e];exact I.funs
 · rw[e];obtain⟨m,hn,_⟩:=I.loc;refine .cons (by rw[I.ok.kind];decide) hf hn ?_ I.funs;exact FW (A4 I.ok.bsz I.ok.above)
theorem Inv.stkSub(I:Inv X pins σ H s):∀b∈Lk X.stack,b∈X.env.locals::X.fs:=λb hb=>by
 rcases I.ok.stk with e | ⟨e,hf⟩
 · rw[e] at hb;exact Ag _ hb
 · rw[e] at hb;unfold Lk at hb;rw[Ew,hf] at hb;exact hb
theorem Inv.stkFree(I:Inv X pins σ H s):∀b∈Lk X.stack,H b=none:=λb hb=>by
 rcases An.mp (I.stkSub b hb) with e | hb
 · rw[e];exact I.free
 · obtain⟨_,o,ho,_⟩:=I.ok.funs.mem hb;exact I.base.free b o ho (I.ok.frf b hb) λz=>I.ok.exfs b z hb
theorem Inv.step{g':Array GenState}{t':Nat}{d':Drawn}{ch:List Addr}(I:Inv X pins σ H s)
 (hch:∀b∈ch,(b∈X.ex∨X.s₀.heap.objs.size≤b)∧b≠X.env.locals∧(∀x c,X.env.cells.lookup x=some c→c≠b)∧∀p∈X.pn++pins,p.1≠b)
 (keep:∀b o,b≠X.env.locals→b ∉ X.fs→b ∉ ch→s.heap.get? b=some o→H b=none→h'.get? b=some o)
 (slot:∀b o,b≠X.env.locals→b∈X.fs→b ∉ ch→s.heap.get? b=some o→H b=none→∃sl,h'.get? b=some {o with slots:=sl}) (free:∀b o,b ∉ ch→s.heap.get? b=some o→H b=none→H' b=none)
 (there:∀b o,b ∉ ch→s.heap.get? b=some o→∃o',h'.get? b=some o')
 (tups:∀b xs,H b=some (.tup xs)→H' b=some (.tup xs)) (frzs:∀b o u,H b=some (.frz o u)→H' b=some (.frz o u)) (tbls:∀b ps,H b=some (.tbl ps)→∃more,H' b=some (.tbl (ps++more)))
 (ns:∀m,s.heap.Ns X.env.locals m→h'.Ns X.env.locals m) (hok:HOk X.prog X.w H' h') (hg:AllBare g'):
 Inv X pins σ H' {s with heap:=h',gens:=g',drawn:=d',toks:=t'}:=by
 have neL:∀b o,X.s₀.heap.get? b=some o→b≠X.env.locals:=λb o e=>A3 (AG (Aq e) I.ok.above);have neC:∀b o,X.s₀.heap.get? b=some o→b ∉ X.ex→b ∉ ch:=λb o e hx hb=>by
  rcases(hch b hb).1 with z | z
  · exact hx z
  · exact absurd (AG (Aq e) z) (Cq _)
 have cellK:∀x c,X.env.cells.lookup x=some c→∀v,s.heap.IsCell c v→h'.IsCell c v:=λx c e v ⟨o,ho,hd⟩=>by
  have nch:c ∉ ch:=λz=>(hch c z).2.2.1 x c e rfl;by_cases hc:c∈X.fs
  · obtain⟨sl,q⟩:=slot c o (I.cne x c e) hc nch ho (I.freeC x c e);exact⟨_,q,hd⟩
  · exact⟨o,keep c o (I.cne x c e) hc nch ho (I.freeC x c e),hd⟩
 refine⟨I.ok,I.os,hg,⟨λb o e n hb hx=>?_,λb o e n hb hx=>?_,λb o e n hx=>?_,λb o e hx=>?_,λb xs e=>tups b xs (I.base.tups b xs e),λb o xs e=>frzs b o xs (I.base.frzs b o xs e),λb ps e=>?_⟩,?_,λx c e=>?_,?_,λx c e=>?_,λp hp=>?_,hok,I.len⟩
 · exact keep b o (neL b o e) hb (neC b o e hx) (I.base.keep b o e n hb hx) (I.base.free b o e n hx)
 · obtain⟨sl,e1⟩:=I.base.slot b o e n hb hx;obtain⟨sl',e2⟩:=slot b _ (neL b o e) hb (neC b o e hx) e1 (I.base.free b o e n hx);exact⟨sl',e2⟩
 · obtain⟨o',e1⟩:=I.base.there b o e hx;exact free b o' (neC b o e hx) e1 (I.base.free b o e n hx)
 · obtain⟨o',e1⟩:=I.base.there b o e hx;exact there b o' (neC b o e hx) e1
 · obtain⟨m1,e1⟩:=I.base.tbls b ps e;obtain⟨m2,e2⟩:=tbls b _ e1;exact⟨m1++m2,by rw[e2,Array.append_assoc]⟩
 · obtain⟨m,hn,hl⟩:=I.loc;refine⟨m,ns m hn,λi x v e1 e2 e3=>?_⟩;obtain⟨u,r,l⟩:=hl i x v e1 e2 e3;refine⟨u,r,?_⟩;rcases l with l | ⟨k,c,e,z⟩
   · exact .inl l
   · exact .inr ⟨k,c,e,cellK x c e _ z⟩
 · obtain⟨v,z⟩:=I.cell x c e;exact⟨v,cellK x c e v z⟩
 · obtain⟨m,⟨o,_,_,ho,_⟩,_⟩:=I.loc;exact free _ o (λz=>(hch _ z).2.1 rfl) ho I.free
 · obtain⟨v,o,ho,hd⟩:=I.cell x c e;exact free c o (λz=>(hch c z).2.2.1 x c e rfl) ho (I.freeC x c e)
 · obtain⟨e,n,ne,nf,d⟩:=I.pin p hp;have nch:p.1 ∉ ch:=λz=>(hch p.1 z).2.2.2 p hp rfl;exact⟨keep p.1 p.2 ne nf nch e n,free p.1 p.2 nch e n,ne,nf,d⟩
theorem Inv.un{t':Nat}(I:Inv X pins σ H s)(u:Un X.fs [] H H' s.heap h')(hok:HOk X.prog X.w H' h'):Inv X pins σ H' {s with heap:=h',toks:=t'}:=by obtain⟨m,⟨o,es,ep,ho,r⟩,_⟩:=id I.loc;obtain⟨sl,hL⟩:=u.any ho I.free (by simp);exact I.step (g':=s.gens) (d':=s.drawn) (ch:=[]) (λ_ z=>nomatch z) (λb o _ hb _ e n=>u.keep b o e n hb (by simp)) (λb o _ hb _ e n=>u.slot b o e n hb (by simp)) (λb o _ e n=>u.free b o e n (by simp)) (λb o _ e=>u.there b o e (by simp)) u.tups u.frzs u.tbls (λm' hm=>by obtain⟨o',es',ep',ho',r'⟩:=hm;rw[ho] at ho';cases ho';exact⟨_,es',ep',hL,r'⟩) hok I.bare
theorem Inv.call{g':Array GenState}{t':Nat}{d':Drawn}{ch:List Addr}(I:Inv X pins σ H s)(u:Un (Lk X.stack) ch H H' s.heap h')(hok:HOk X.prog X.w H' h')(hg:AllBare g')
 (hch:∀b∈ch,(b∈X.ex∨X.s₀.heap.objs.size≤b)∧b≠X.env.locals∧(∀x c,X.env.cells.lookup x=some c→c≠b)∧∀p∈X.pn++pins,p.1≠b):
 Inv X pins σ H' {s with heap:=h',gens:=g',drawn:=d',toks:=t'}:=by
 obtain⟨m,⟨o,es,ep,ho,r⟩,_⟩:=id I.loc;obtain⟨sl,hL⟩:=u.any ho I.free λz=>(hch _ z).2.1 rfl;exact I.step (ch:=ch) hch (λb o hL hb hc e n=>u.keep b o e n (λz=>(An.mp (I.stkSub b z)).elim hL hb) hc) (λb o _ _ hc e n=>u.any e n hc) (λb o hc e n=>u.free b o e n hc) (λb o hc e=>u.there b o e hc) u.tups u.frzs u.tbls (λm' hm=>by obtain⟨o',es',ep',ho',r'⟩:=hm;rw[ho] at ho';cases ho';exact⟨_,es',ep',hL,r'⟩) hok hg
theorem Inv.turned{t':Nat}{it:Addr}(I:Inv X pins σ H s)(k:∀b o,b≠it→s.heap.get? b=some o→h'.get? b=some o)(hn:H it=none)(hL:it≠X.env.locals)
 (h1:it∈X.ex∨X.s₀.heap.objs.size≤it) (h2:∀x c,X.env.cells.lookup x=some c→c≠it) (h3:∀p∈X.pn++pins,p.1≠it):Inv X pins σ H {s with heap:=h',toks:=t'}:=by
 have nit:∀b u,H b=some u→b≠it:=λb u e z=>by rw[z,hn] at e;cases e
 refine I.step (g':=s.gens) (d':=s.drawn) (ch:=[it]) (λb hb=>?_) (λb o _ _ hc e _=>k b o (λz=>hc (by simp[z])) e) (λb o _ _ hc e _=>⟨o.slots,k b o (λz=>hc (by simp[z])) e⟩) (λ_ _ _ _ n=>n)
  (λb o hc e=>⟨o,k b o (λz=>hc (by simp[z])) e⟩) (λ_ _ e=>e) (λ_ _ _ e=>e) (λb ps e=>⟨#[],by rw[e];simp⟩) (λm hm=>?_) (λb u e=>?_) I.bare
 · have e:b=it:=by simpa using hb
   subst e;exact⟨h1,hL,h2,h3⟩
 · obtain⟨o,es,ep,ho,r⟩:=hm;exact⟨o,es,ep,k _ o (CL hL) ho,r⟩
 · refine(I.hok b u e).stay (λc v hc q=>k c v ?_ q) (λ_ q=>q) λ_ _ q=>q;rcases hc with z | z
   · rw[z];exact nit b u e
   · exact nit c _ z
theorem Inv.tok(I:Inv X pins σ H s)(t:Nat):Inv X pins σ H {s with toks:=t}:=I.un (h':=s.heap) (t':=t) Un.refl I.hok
theorem Inv.kept{t':Nat}(I:Inv X pins σ H s)(k:∀b u,s.heap.get? b=some u→h'.get? b=some u):Inv X pins σ H {s with heap:=h',toks:=t'}:=I.un (Un.kept k) (I.hok.kept k)
theorem Inv.laid{o:HO}{t':Nat}(I:Inv X pins σ H s)(k:∀b u,s.heap.get? b=some u→h'.get? b=some u)(hp:s.heap.objs.size≤a)(new:ObjOk X.prog X.w (upd H a o) h' a o):
 Inv X pins σ (upd H a o) {s with heap:=h',toks:=t'}:=I.un (Un.laid k hp (I.hok.fresh hp)) (I.hok.laid k hp new)
theorem Inv.write{x e:Addr}{o:HO}{t':Nat}(I:Inv X pins σ H s)(mu:Ow (H x))(he:e=x∨H e=some (.own x))(k:∀b u,b≠e→s.heap.get? b=some u→h'.get? b=some u)(heo:∃u,h'.get? e=some u)
 (new:ObjOk X.prog X.w (upd H x o) h' x o):Inv X pins σ (upd H x o) {s with heap:=h',toks:=t'}:=I.un (Un.write mu he k heo) (I.hok.write mu he k heo new)
theorem Inv.pins_of{pins':List (Addr×Obj)}(I:Inv X pins σ H s)(h:∀p∈pins',s.heap.get? p.1=some p.2∧H p.1=none∧p.1≠X.env.locals∧p.1 ∉ X.fs∧∀v,p.2.data≠ .cell v):Inv X pins' σ H s:=
 ⟨I.ok,I.os,I.bare,I.base,I.loc,I.cell,I.free,I.freeC,λp hp=>(A9.mp hp).elim (λz=>I.pin p (AH _ z)) (h p),I.hok,I.len⟩
theorem U2{N:List Str}(hN:N.Nodup){j:Nat}{x:Str}(a:N[i]?=some x)(b:N[j]?=some x):i=j:=by obtain⟨h1,e1⟩:=Al.mp a;obtain⟨h2,e2⟩:=Al.mp b;exact(List.getElem_inj hN).mp (e1.trans e2.symm)
theorem Qy{M:Model}{A:BC}{E:Value→Shared→Prop}{x:Str}{v:V}{Q:Unit→Shared→Prop}(I:Inv X pins σ H s)(hN:X.N.Nodup)(hi:X.N[i]?=some x)(hx:MC X.env.scope x)(r:RelV v u)
 (h:∀s',Inv X pins (σ.set i (some v)) H s'→(∃a,C6 a s.heap s'.heap∧(a=X.env.locals∨X.env.cells.lookup x=some a))→Q () s') (hf:X.fn x=true∨X.env.scope.names.lookup x=some .local:=by first | exact .inl rfl | exact .inr rfl | assumption):wpAny M A (storeName X.env x u) Q E s:=by
 obtain⟨m,hn,hl⟩:=id I.loc;have hcls:(X.env.scope.kind== .class || (X.env.scope.kind== .module && X.env.locals !=X.env.globals))=false:=by rw[I.ok.kind];rfl
 have hiσ:i<σ.length:=by rw[I.len];exact(Al.mp hi).1
 have cne:=I.cne;have tracked:∀{a:Addr}{h':Heap},(∃o,s.heap.get? a=some o∧H a=none)→C6 a s.heap h'→HOk X.prog X.w H h':=λ{a h'}ha hs b ob e=>by
  obtain⟨_,_,hfree⟩:=ha;refine(I.hok b ob e).stay (λc w' hc q=>(hs.2 c ?_).trans q) (λ_ q=>q) λ_ _ q=>q;rintro rfl;rcases hc with rfl | hc
  · rw[hfree] at e;cases e
  · rw[hfree] at hc;cases hc
 rcases hx with hk | hk
 · refine wpAny_storeName_local hk hn (λh' hn' hs=>?_) hcls;obtain⟨oL,_,_,hoL,_⟩:=id hn;refine h _ ⟨I.ok,I.os,I.bare,⟨λb o e n hb hx=>?_,λb o e n hb hx=>?_,I.base.free,λb o e hx=>?_,I.base.tups,I.base.frzs,I.base.tbls⟩,⟨_,hn',λj y v' e1 e2 e3=>?_⟩,λy c e=>?_,I.free,I.freeC,λp hp=>?_,tracked ⟨oL,hoL,I.free⟩ hs,by simpa using I.len⟩ ⟨_,hs,.inl rfl⟩
   · exact(hs.2 b (A3 (AG (Aq e) I.ok.above))).trans (I.base.keep b o e n hb hx)
   · obtain⟨sl,e1⟩:=I.base.slot b o e n hb hx;exact⟨sl,(hs.2 b (A3 (AG (Aq e) I.ok.above))).trans e1⟩
   · obtain⟨o',e1⟩:=I.base.there b o e hx;exact⟨o',(hs.2 b (A3 (AG (Aq e) I.ok.above))).trans e1⟩
   · by_cases hj:j=i
     · subst hj;rw[hi] at e1;cases e1;rw[F8 hiσ] at e2;cases e2;exact⟨u,r,.inl ⟨hk,by simp⟩⟩
     · rw[FX (CL hj)] at e2;obtain⟨u',r',q⟩:=hl j y v' e1 e2 e3;refine⟨u',r',?_⟩;rcases q with⟨k,e⟩ | ⟨k,c,e,z⟩
       · refine .inl ⟨k,?_⟩;have:y≠x:=λe=>hj (U2 hN e1 (e ▸ hi));simp[this,e]
       · exact .inr ⟨k,c,e,z.sameBut hs (cne y c e)⟩
   · obtain⟨w',z⟩:=I.cell y c e;exact⟨w',z.sameBut hs (cne y c e)⟩
   · obtain⟨e,n,ne,nf,d⟩:=I.pin p hp;exact⟨(hs.2 p.1 ne).trans e,n,ne,nf,d⟩
 · have hfn:X.fn x=true:=by
    rcases hf with z | z
    · exact z
    · rw[z] at hk;cases hk
   obtain⟨c,hc⟩:=I.ok.has x (.inl hk);obtain⟨w',z⟩:=I.cell x c hc;refine wpAny_storeName_cell I.ok.kind hk hc z (λh' hc' hs=>?_);obtain⟨oc,hoc,hocd⟩:=id z;refine h {s with heap:=h'} ⟨I.ok,I.os,I.bare,⟨λb o e n hb hx=>?_,λb o e n hb hx=>?_,I.base.free,λb o e hx=>?_,I.base.tups,I.base.frzs,I.base.tbls⟩,⟨m,hn.sameBut hs (CL (cne x c hc)),λj y v' e1 e2 e3=>?_⟩,λy c' e=>?_,I.free,I.freeC,λp hp=>?_,tracked ⟨oc,hoc,I.freeC x c hc⟩ hs,by simpa using I.len⟩ ⟨c,hs,.inr hc⟩
   · exact(hs.2 b (A3 (AG (Aq e) (I.ok.cab x c hfn hc)))).trans (I.base.keep b o e n hb hx)
   · obtain⟨sl,e1⟩:=I.base.slot b o e n hb hx;exact⟨sl,(hs.2 b (A3 (AG (Aq e) (I.ok.cab x c hfn hc)))).trans e1⟩
   · obtain⟨o',e1⟩:=I.base.there b o e hx;exact⟨o',(hs.2 b (A3 (AG (Aq e) (I.ok.cab x c hfn hc)))).trans e1⟩
   · by_cases hj:j=i
     · subst hj;rw[hi] at e1;cases e1;rw[F8 hiσ] at e2;cases e2;exact⟨u,r,.inr ⟨.inl hk,c,hc,hc'⟩⟩
     · rw[FX (CL hj)] at e2;obtain⟨u',r',q⟩:=hl j y v' e1 e2 e3;refine⟨u',r',?_⟩;rcases q with q | ⟨k,c',e,z'⟩
       · exact .inl q
       · refine .inr ⟨k,c',e,z'.sameBut hs ?_⟩;rintro rfl;exact hj (U2 hN e1 (I.ok.inj _ _ _ e hc ▸ hi))
   · by_cases hcc:c'=c
     · subst hcc;exact⟨_,hc'⟩
     · obtain⟨w2,z2⟩:=I.cell y c' e;exact⟨w2,z2.sameBut hs hcc⟩
   · obtain⟨e,n,ne,nf,d⟩:=I.pin p hp;refine⟨(hs.2 p.1 ?_).trans e,n,ne,nf,d⟩;intro q;rw[q,hoc] at e;have q':oc=p.2:=AD e;exact d w' (by rw[←q'];exact hocd)
theorem Qj{M:Model}{A:BC}{E:Value→Shared→Prop}{x:Str}{v:V}{Q:Unit→Shared→Prop}(I:Inv X pins σ H s)(hN:X.N.Nodup)(hi:X.N[i]?=some x)(hx:MC X.env.scope x)(r:RelV v u)
 (h:∀s',Inv X pins (σ.set i (some v)) H s'→Q () s') (hf:X.fn x=true∨X.env.scope.names.lookup x=some .local:=by first | exact .inl rfl | exact .inr rfl | assumption):wpAny M A (storeName X.env x u) Q E s:=
 Qy I hN hi hx r (λs' I' _=>h s' I') hf
theorem Inv.call'{s':Shared}{ch:List Addr}(I:Inv X pins σ H s)(ho:s'.os=s.os)(u:Un (Lk X.stack) ch H H' s.heap s'.heap)(hok:HOk X.prog X.w H' s'.heap)(hg:AllBare s'.gens)
 (hch:∀b∈ch,(b∈X.ex∨X.s₀.heap.objs.size≤b)∧b≠X.env.locals∧(∀x c,X.env.cells.lookup x=some c→c≠b)∧∀p∈X.pn++pins,p.1≠b):Inv X pins σ H' s':=by
 obtain⟨h',g',d',t',o'⟩:=s';have e:o'=s.os:=ho;subst e;exact I.call (g':=g') (t':=t') (d':=d') u hok hg hch
end
abbrev XK:=Value→Option Addr→Hp→Prop
abbrev St:=List (Option V)
abbrev VK:=V→Hp→Prop
abbrev TE:=St→Hp→VK→Prop
abbrev TT:=St→Hp→(Bool→Hp→Prop)→Prop
abbrev TA:=St→Hp→(List V→Hp→Prop)→Prop
structure Ends where
 nx:St→Hp→Prop
 rt:VK
 bk:St→Hp→Prop:=λ_ _=>False
 ct:St→Hp→Prop:=λ_ _=>False
abbrev TS:=Ends→St→Hp→Prop
def EP(X:Cx)(pins:List (Addr×Obj))(σ:St)(Q:VK)(u:Value)(s':Shared):Prop:=∃v H',Inv X pins σ H' s'∧RelV v u∧Q v H'
def TP(X:Cx)(pins:List (Addr×Obj))(σ:St)(Q:Bool→Hp→Prop)(b:Bool)(s':Shared):Prop:=∃H',Inv X pins σ H' s'∧Q b H'
def AP(X:Cx)(pins:List (Addr×Obj))(σ:St)(Q:List V→Hp→Prop)(us:List Value)(s':Shared):Prop:=∃vs H',Inv X pins σ H' s'∧Vals vs us∧Q vs H'
def SP(X:Cx)(pins:List (Addr×Obj))(D:Ends)(f:Flow)(s':Shared):Prop:=
 match f with
 | .next=>∃σ' H',Inv X pins σ' H' s'∧D.nx σ' H'
 | .brk=>∃σ' H',Inv X pins σ' H' s'∧D.bk σ' H'
 | .cont=>∃σ' H',Inv X pins σ' H' s'∧D.ct σ' H'
 | .ret u=>∃v σ' H',Inv X pins σ' H' s'∧RelV v u∧D.rt v H'
def PE(X:Cx)(e:Expr)(t:TE):Prop:=
 ∀(pins:List (Addr×Obj))(s:Shared)(σ:St)(H:Hp)(Q:VK),Inv X pins σ H s→t σ H Q→wpAny (model X.prog X.w) X.A (eval e X.env) (EP X pins σ Q) X.xe s
def PT(X:Cx)(e:Expr)(t:TT):Prop:=
 ∀(pins:List (Addr×Obj))(s:Shared)(σ:St)(H:Hp)(Q:Bool→Hp→Prop),Inv X pins σ H s→t σ H Q→wpAny (model X.prog X.w) X.A (isTrue e X.env (eval e X.env)) (TP X pins σ Q) X.xe s
def PW(X:Cx)(e:Expr)(t:TT):Prop:=
 ∀(whole:Sem Value)(pins:List (Addr×Obj))(s:Shared)(σ:St)(H:Hp)(Q:Bool→Hp→Prop),Inv X pins σ H s→t σ H Q→wpAny (model X.prog X.w) X.A (isTrue e X.env whole) (TP X pins σ Q) X.xe s
theorem PW.pt{X:Cx}{t:TT}(h:PW X e t):PT X e t:=h _
def PA(X:Cx)(es:List Expr)(t:TA):Prop:=
 ∀(pos:Pos)(pins:List (Addr×Obj))(s:Shared)(σ:St)(H:Hp)(Q:List V→Hp→Prop),Inv X pins σ H s→t σ H Q→wpAny (model X.prog X.w) X.A (spliced (backTo pos (A7 es X.env))) (AP X pins σ Q) X.xe s
def PS(X:Cx)(st:Stmt)(t:TS):Prop:=
 ∀(pins:List (Addr×Obj))(s:Shared)(σ:St)(H:Hp)(D:Ends),Inv X pins σ H s→t D σ H→wpAny (model X.prog X.w) X.A (exec st X.env) (SP X pins D) X.xe s
def PSs(X:Cx)(st:List Stmt)(t:TS):Prop:=
 ∀(pins:List (Addr×Obj))(s:Shared)(σ:St)(H:Hp)(D:Ends),Inv X pins σ H s→t D σ H→wpAny (model X.prog X.w) X.A (execs st X.env) (SP X pins D) X.xe s
theorem Il{α:Type}{t:Sem α}{Q Q':α→Shared→Prop}{M:Model}(h:wpAny M A t Q E s)(hQ:∀a s,Q a s→Q' a s):wpAny M A t Q' E s:=A0 h hQ λ_ _ x=>x
section
variable{X:Cx}
def Kg(i:Nat):TE:=λσ H Q=>∃v,σ[i]?=some (some v)∧Q v H
def tC(v:V):TE:=λ_ H Q=>Q v H
theorem X9{x:Str}(hN:X.N[i]?=some x)(hv:Os X.env.scope x)(hd:(x==("__debug__":Str))=false:=by decide)(hcd:(x==("__classdict__":Str))=false:=by decide):PE X (.Name x pos) (Kg i):=by
 intro pins s σ H Q I h;obtain⟨v,e,h⟩:=h;obtain⟨m,hn,hl⟩:=I.loc;obtain⟨u,r,l⟩:=hl i x v hN e hv;have fin:EP X pins σ Q u s:=⟨v,H,I,r,h⟩;rcases l with⟨hk,hm⟩ | ⟨hk,c,hc,hcell⟩
 · exact wpAny_Name (wpAny_loadName_local I.ok.kind hk hn hm fin) hd
 · rcases hk with hk | hk
   · exact wpAny_Name (wpAny_loadName_cell I.ok.kind hk hc hcell fin) hd
   · exact wpAny_Name (wpAny_loadName_free I.ok.kind hk hc hcell fin hcd) hd
theorem Ih{i j pos}:PE X (.Constant (.int i) j pos) (tC (.int i)):=λ_ _ _ H _ I h=>wpAny_Constant_int ⟨.int i,H,I.tok _,⟨_,rfl⟩,h⟩
theorem J0{b j pos}:PE X (.Constant (.bool b) j pos) (tC (.bl b)):=λ_ _ _ H _ I h=>Constant_bool ⟨.bl b,H,I,rfl,h⟩
theorem Nn{j pos}:PE X (.Constant .none j pos) (tC .non):=λ_ _ _ H _ I h=>Constant_none ⟨.non,H,I,rfl,h⟩
theorem No{x j pos}:PE X (.Constant (.str x) j pos) (tC (.str x)):=λ_ _ _ H _ I h=>Calls.Constant_str ⟨.str x,H,I.tok _,⟨_,rfl⟩,h⟩
def Gl(X:Cx)(x:Str):Prop:=X.env.kindOf x=some .globalImplicit
theorem Tx{E:Value→Shared→Prop}{σ:St}{H:Hp}{x:Str}{pos:Pos}{Q:Value→Shared→Prop}(I:Inv X pins σ H s)(hg:Gl X x)(hm:X.mg x=some u)(h:Q u s)
 (hd:(x==("__debug__":Str))=false:=by decide):wpAny (model X.prog X.w) X.A (eval (.Name x pos) X.env) Q E s:=
 EL I.ok.kind hg (Calls.loadGlobal_global (by rw[I.ok.glob];exact I.mod.glob.keeps I.bk) hm h) hd
theorem KH{E:Value→Shared→Prop}{σ:St}{H:Hp}{x:Str}{pos:Pos}{Q:Value→Shared→Prop}(I:Inv X pins σ H s)(hg:Gl X x)(hm:X.mg x=none)(hv:AW x=some u)(h:Q u s)
 (hn:x≠"__name__":=by decide) (hd:(x==("__debug__":Str))=false:=by decide):wpAny (model X.prog X.w) X.A (eval (.Name x pos) X.env) Q E s:=by
 obtain⟨mb,h1,h2⟩:=I.mod.blt;exact EL I.ok.kind hg (Calls.loadGlobal_builtin (by rw[I.ok.glob];exact I.mod.glob.keeps I.bk) hm (by rw[I.ok.blt];exact h1.keeps I.bk) ((h2 x hn).trans hv) h) hd
theorem MS{x:Str}{v:V}(hg:Gl X x)(hm:X.mg x=some u)(r:RelV v u)(hd:(x==("__debug__":Str))=false:=by decide):PE X (.Name x pos) (tC v):=
 λ_ _ _ H _ I h=>Tx I hg hm ⟨v,H,I,r,h⟩ hd
theorem JD{x:Str}{v:V}(hg:Gl X x)(hm:X.mg x=none)(hv:AW x=some u)(r:RelV v u)(hn:x≠"__name__":=by decide)(hd:(x==("__debug__":Str))=false:=by decide):PE X (.Name x pos) (tC v):=
 λ_ _ _ H _ I h=>KH I hg hm hv ⟨v,H,I,r,h⟩ hn hd
variable{a b:Expr}{ta tb:TE}
def PC(X:Cx)(op:CmpOp)(a b:Expr)(t:TE):Prop:=
 ∀(pins:List (Addr×Obj))(s:Shared)(σ:St)(H:Hp)(Q:VK),Inv X pins σ H s→t σ H Q→
  wpAny (model X.prog X.w) X.A (eval a X.env) (λv s₁=>wpAny (model X.prog X.w) X.A (eval b X.env) (λu s₂=>wpAny (model X.prog X.w) X.A (A_ op v u) (EP X pins σ Q) X.xe s₂) X.xe s₁) X.xe s
theorem U1(b:Expr){op:CmpOp}(h:op≠ .In)(h2:op≠ .NotIn):behindInMarks op b=false:=by
 have e1:(op==CmpOp.In)=false:=by cases op<;>first | rfl | exact absurd rfl h
 have e2:(op==CmpOp.NotIn)=false:=by cases op<;>first | rfl | exact absurd rfl h2
 cases b<;>simp[behindInMarks,e1,e2]
def Rp(ta:TE):TE:=λσ H Q=>ta σ H λx H1=>Q (.bl (decide (x= .non))) H1
def Xf(ta:TE):TE:=λσ H Q=>ta σ H λx H1=>Q (.bl (!decide (x= .non))) H1
theorem RelV.none_iff{x:V}{v:Value}(r:RelV x v):(v==Value.none)=decide (x= .non):=by
 cases x with
 | non=>cases r;rfl
 | bl _=>cases r;rfl
 | int _=>obtain⟨t,rfl⟩:=r;rfl
 | str _=>obtain⟨t,rfl⟩:=r;rfl
 | byt _=>obtain⟨t,rfl⟩:=r;rfl
 | flt _=>obtain⟨t,rfl⟩:=r;rfl
 | ref _=>cases r;rfl
 | ty _=>cases r;rfl
theorem Kr{j pos'}(ha:PE X a ta):PC X .Is a (.Constant .none j pos') (Rp ta):=by intro pins s σ H Q I h;refine Il (ha pins s σ H _ I h) λv s1 ⟨x,H1,I1,r1,q1⟩=>?_;exact Constant_none (is_none_gen ⟨.bl _,H1,I1,by rw[r1.none_iff];rfl,q1⟩)
theorem Nq{j pos'}(ha:PE X a ta):PC X .IsNot a (.Constant .none j pos') (Xf ta):=by intro pins s σ H Q I h;refine Il (ha pins s σ H _ I h) λv s1 ⟨x,H1,I1,r1,q1⟩=>?_;exact Constant_none (isnot_none_gen ⟨.bl _,H1,I1,by rw[r1.none_iff];rfl,q1⟩)
def tB(t:TE):TT:=λσ H Q=>t σ H λx H1=>∃c,x= .bl c∧Q c H1
theorem KU{op:CmpOp}{t:TE}(h:PC X op a b t)(h1:behindInMarks op b=false:=by first | exact U1 _ (by decide) (by decide) | rfl):PE X (.Compare a [op] [b] pos) t:=λpins s σ H Q I hw=>wpAny_Compare1 (h pins s σ H Q I hw) h1
theorem Lu{op:CmpOp}{t:TE}(h:PC X op a b t)(h1:behindInMarks op b=false:=by first | exact U1 _ (by decide) (by decide) | rfl):PT X (.Compare a [op] [b] pos) (tB t):=by intro pins s σ H Q I hw;refine wpAny_isTrue_Compare1 (Il (h pins s σ H _ I hw) λv s1 h1=>Il h1 λu s2 h2=>Il h2 λc s3 ⟨x,H1,I1,r1,q1⟩=>?_) h1;obtain⟨d,rfl,q⟩:=q1;cases r1;exact Bp ⟨H1,I1,q⟩
theorem Jz{t:TE}(h:PE X e t)(he:∀whole,isTrue e X.env whole=(do let v ←whole;standAt e.pos;holding [v] (truthy v)):=by intro _;rfl):PT X e (tB t):=by intro pins s σ H Q I hw;refine isTrue_plain (Il (h pins s σ H _ I hw) λv s1 ⟨x,H1,I1,r1,q1⟩=>?_) (he _);obtain⟨d,rfl,q⟩:=q1;cases r1;exact Bp ⟨H1,I1,q⟩
variable{tA tB':TT}{Io:List Expr}
def Rv(t u:TT):TT:=λσ H Q=>t σ H λc H1=>if c=true then u σ H1 Q else Q false H1
def tOr(t u:TT):TT:=λσ H Q=>t σ H λc H1=>if c=true then Q true H1 else u σ H1 Q
def Rm(t:TT):TT:=λσ H Q=>t σ H λc H1=>Q (!c) H1
theorem M1(ha:PT X a tA):PW X (.BoolOp .And [a] pos) tA:=by
 intro wh pins s σ H Q I h;refine isTrue_and (Il (ha pins s σ H Q I h) λc s1 e=>?_);cases c with
 | true=>exact isTrue_and_nil e
 | false=>exact e
theorem K2(ha:PT X a tA):PW X (.BoolOp .Or [a] pos) tA:=by
 intro wh pins s σ H Q I h;refine isTrue_or (Il (ha pins s σ H Q I h) λc s1 e=>?_);cases c with
 | false=>exact isTrue_or_nil e
 | true=>exact e
theorem Mr(ha:PT X a tA)(hb:PW X (.BoolOp .And (b::Io) pos) tB'):PW X (.BoolOp .And (a::b::Io) pos) (Rv tA tB'):=by
 intro wh pins s σ H Q I h;refine isTrue_and (Il (ha pins s σ H _ I h) λc s1 ⟨H1,I1,q1⟩=>?_);cases c with
 | true=>exact hb wh pins s1 σ H1 Q I1 q1
 | false=>exact⟨H1,I1,q1⟩
theorem Ky(ha:PT X a tA)(hb:PW X (.BoolOp .Or (b::Io) pos) tB'):PW X (.BoolOp .Or (a::b::Io) pos) (tOr tA tB'):=by
 intro wh pins s σ H Q I h;refine isTrue_or (Il (ha pins s σ H _ I h) λc s1 ⟨H1,I1,q1⟩=>?_);cases c with
 | true=>exact⟨H1,I1,q1⟩
 | false=>exact hb wh pins s1 σ H1 Q I1 q1
theorem J9(ha:PT X a tA):PT X (.UnaryOp .Not a pos) (Rm tA):=by intro pins s σ H Q I h;exact isTrue_not (ha pins s σ H (λc H1=>Q (!c) H1) I h)
def Xc(ta tb:TE):TE:=λσ H Q=>ta σ H λx H1=>∃c,x= .bl c∧if c=true then tb σ H1 Q else Q (.bl false) H1
def Rl(ta tb:TE):TE:=λσ H Q=>ta σ H λx H1=>∃c,x= .bl c∧if c=true then Q (.bl true) H1 else tb σ H1 Q
def Wq(ta:TE):TE:=λσ H Q=>ta σ H λx H1=>∃c,x= .bl c∧Q (.bl (!c)) H1
theorem J_{op}{t:TE}(h:PE X a t):PE X (.BoolOp op [a] pos) t:=λpins s σ H Q I hw=>BoolOp_one (h pins s σ H Q I hw)
theorem Kl(ha:PE X a ta)(hb:PE X (.BoolOp .And (b::Io) pos) tb):PE X (.BoolOp .And (a::b::Io) pos) (Xc ta tb):=by
 intro pins s σ H Q I h;refine BoolOp_and (Il (ha pins s σ H _ I h) λv s1 ⟨x,H1,I1,r1,q1⟩=>?_);obtain⟨c,rfl,q1⟩:=q1;cases r1;refine Bp ?_;cases c with
 | true=>exact hb pins s1 σ H1 Q I1 q1
 | false=>exact⟨.bl false,H1,I1,rfl,q1⟩
theorem Nj(ha:PE X a ta)(hb:PE X (.BoolOp .Or (b::Io) pos) tb):PE X (.BoolOp .Or (a::b::Io) pos) (Rl ta tb):=by
 intro pins s σ H Q I h;refine BoolOp_or (Il (ha pins s σ H _ I h) λv s1 ⟨x,H1,I1,r1,q1⟩=>?_);obtain⟨c,rfl,q1⟩:=q1;cases r1;refine Bp ?_;cases c with
 | false=>exact hb pins s1 σ H1 Q I1 q1
 | true=>exact⟨.bl true,H1,I1,rfl,q1⟩
theorem X7(ha:PE X a ta):PE X (.UnaryOp .Not a pos) (Wq ta):=by intro pins s σ H Q I h;refine UnaryOp_ (Il (ha pins s σ H _ I h) λv s1 ⟨x,H1,I1,r1,q1⟩=>?_);obtain⟨c,rfl,q1⟩:=q1;cases r1;exact not_of (Bp ⟨.bl (!c),H1,I1,rfl,q1⟩)
def tIf(t:TT)(ta tb:TE):TE:=λσ H Q=>t σ H λc H1=>if c=true then ta σ H1 Q else tb σ H1 Q
theorem MW{c:Expr}(hc:PT X c tA)(ha:PE X a ta)(hb:PE X b tb):PE X (.IfExp c a b pos) (tIf tA ta tb):=by
 intro pins s σ H Q I h;refine wpAny_IfExp (Il (hc pins s σ H _ I h) λd s1 ⟨H1,I1,q1⟩=>?_);cases d with
 | true=>exact ha pins s1 σ H1 Q I1 q1
 | false=>exact hb pins s1 σ H1 Q I1 q1
end
def SqL(K:Ad)(H:Hp)(a:Addr)(xs:List V):Prop:=
 Rd H a (.lst xs)∨
  ∃(o:Obj)(its:Array Value)(n:Nat),K.lookup a=some o∧o.cls= .type "list"∧o.dict=none∧o.data= .seq its n∧its.size≤A1∧Vals xs its.toList
def SqT(K:Ad)(H:Hp)(a:Addr)(xs:List V):Prop:=
 Rd H a (.tup xs)∨
  ∃(o:Obj)(its:Array Value)(n:Nat),K.lookup a=some o∧o.cls= .type "tuple"∧o.data= .seq its n∧its.size≤A1∧Vals xs its.toList
def RV:Value→Option V
 | .none=>some .non
 | .bool b=>some (.bl b)
 | .int i _=>some (.int i)
 | .str x _=>some (.str x)
 | .bytes b _=>some (.byt b)
 | .float b _=>some (.flt b)
 | .ref a=>some (.ref a)
 | .type n=>some (.ty n)
 | _=>none
theorem RelV.abs{x:V}(r:RelV x u):RV u=some x:=by
 cases x with
 | non=>cases r;rfl
 | bl _=>cases r;rfl
 | int _=>obtain⟨t,rfl⟩:=r;rfl
 | str _=>obtain⟨t,rfl⟩:=r;rfl
 | byt _=>obtain⟨t,rfl⟩:=r;rfl
 | flt _=>obtain⟨t,rfl⟩:=r;rfl
 | ref _=>cases r;rfl
 | ty _=>cases r;rfl
theorem RelV.inj{x y:V}(r:RelV x u)(q:RelV y u):x=y:=AD (r.abs.symm.trans q.abs)
theorem l0{α:Type}{P:List α→Prop}(h:P []):∀us:List α,us.length=0→P us
 | [],_=>h
theorem lS{α:Type}{n:Nat}{P:List α→Prop}(h:∀a us,us.length=n→P (a::us)):∀us:List α,us.length=n+1→P us
 | a::us,e=>h a us (Nat.succ.inj e)
theorem Vals.inj:∀{xs ys:List V}{us:List Value},Vals xs us→Vals ys us→xs=ys
 | _,_,_,.nil,.nil=>rfl
 | _,_,_,.cons r t,.cons r' t'=>by rw[r.inj r',Vals.inj t t']
section
variable{X:Cx}{σ:St}{H:Hp}{xs ys:List V}
theorem SqL.of{K:Ad}(h:H a=some (.lst xs)):SqL K H a xs:= .inl (.inl h)
theorem SqT.of{K:Ad}(h:H a=some (.tup xs)):SqT K H a xs:= .inl (.inl h)
theorem Inv.list(I:Inv X pins σ H s)(h:SqL X.K H a xs):∃its:List Value,Vals xs its∧PlainL s.heap a its.toArray∧xs.length≤A1:=by
 rcases h with h | ⟨o,its,n,hk,hc,hd,hs,hz,r⟩
 · obtain⟨z,its,n,r,e⟩:=h.ok I.hok;exact⟨its,r,⟨_,n,e,rfl,rfl,rfl⟩,z⟩
 · refine⟨its.toList,r,⟨o,n,I.kIn a o hk,hc,hd,by simpa using hs⟩,?_⟩;have e:=r.length;simp only[A6] at e;omega
theorem Inv.tuple(I:Inv X pins σ H s)(h:SqT X.K H a xs):∃its:List Value,Vals xs its∧IsTup s.heap a its.toArray∧xs.length≤A1:=by
 rcases h with h | ⟨o,its,n,hk,hc,hs,hz,r⟩
 · obtain⟨z,its,r,p⟩:=h.ok I.hok;exact⟨its,r,p.tup,z⟩
 · refine⟨its.toList,r,⟨o,I.kIn a o hk,hc,n,by simpa using hs⟩,?_⟩;have e:=r.length;simp only[A6] at e;omega
theorem Inv.list_inj(I:Inv X pins σ H s)(h:SqL X.K H a xs)(h':SqL X.K H a ys):xs=ys:=by
 obtain⟨its,r,⟨o,n,e,_,_,d⟩,_⟩:=I.list h;obtain⟨its',r',⟨o',n',e',_,_,d'⟩,_⟩:=I.list h';rw[e] at e';cases e';rw[d] at d';injection d' with d1 _;have:its=its':=by simpa using congrArg Array.toList d1
 subst this;exact r.inj r'
theorem Inv.tuple_inj(I:Inv X pins σ H s)(h:SqT X.K H a xs)(h':SqT X.K H a ys):xs=ys:=by
 obtain⟨its,r,⟨o,e,_,n,d⟩,_⟩:=I.tuple h;obtain⟨its',r',⟨o',e',_,n',d'⟩,_⟩:=I.tuple h';rw[e] at e';cases e';rw[d] at d';injection d' with d1 _;have:its=its':=by simpa using congrArg Array.toList d1
 subst this;exact r.inj r'
end
abbrev Cx.wish(X:Cx)(E:Value→Shared→Prop):Cx:={X with xe:=E}
abbrev Cx.nox(X:Cx):Cx:=X.wish λ_ _=>False
theorem Cx.Ok.wish{X:Cx}(ok:X.Ok)(E:Value→Shared→Prop):(X.wish E).Ok:=
 ⟨ok.mod,ok.kind,ok.glob,ok.blt,ok.above,ok.inj,ok.has,ok.cab,ok.hd,ok.frames,ok.stk,ok.exf,ok.bs,ok.bsz,ok.noex,ok.exfs,ok.funs,ok.frf⟩
theorem Cx.Ok.unwish{X:Cx}(ok:(X.wish E).Ok):X.Ok:=
 ⟨ok.mod,ok.kind,ok.glob,ok.blt,ok.above,ok.inj,ok.has,ok.cab,ok.hd,ok.frames,ok.stk,ok.exf,ok.bs,ok.bsz,ok.noex,ok.exfs,ok.funs,ok.frf⟩
section
variable{X:Cx}{σ:St}{H:Hp}
theorem Inv.wish(I:Inv X pins σ H s)(E:Value→Shared→Prop):Inv (X.wish E) pins σ H s:=⟨I.ok.wish E,I.os,I.bare,I.base,I.loc,I.cell,I.free,I.freeC,I.pin,I.hok,I.len⟩
theorem Inv.unwish(I:Inv (X.wish E) pins σ H s):Inv X pins σ H s:=⟨I.ok.unwish,I.os,I.bare,I.base,I.loc,I.cell,I.free,I.freeC,I.pin,I.hok,I.len⟩
theorem SP.unwish{D:Ends}{f:Flow}{s':Shared}(h:SP (X.wish E) pins D f s'):SP X pins D f s':=by
 cases f with
 | next=>obtain⟨σ',H',I,q⟩:=h;exact⟨σ',H',I.unwish,q⟩
 | brk=>obtain⟨σ',H',I,q⟩:=h;exact⟨σ',H',I.unwish,q⟩
 | cont=>obtain⟨σ',H',I,q⟩:=h;exact⟨σ',H',I.unwish,q⟩
 | ret u=>obtain⟨v,σ',H',I,r,q⟩:=h;exact⟨v,σ',H',I.unwish,r,q⟩
theorem PSs.nox{st:List Stmt}{t:TS}(h:PSs X.nox st t):PSs X st t:=λpins s σ H D I hw=> A0 (h pins s σ H D (I.wish _) hw) (λ_ _ q=>q.unwish) λ_ _ z=>CZ z
end
section
variable{X:Cx}{st:Stmt}{Io:List Stmt}{t u:TS}{te:TE}
def Sl:TS:=λD σ H=>D.nx σ H
def K7(t u:TS):TS:=λD σ H=>t {D with nx:=u D} σ H
theorem IN:PSs X [] Sl:=λ_ _ σ H _ I h=>En ⟨σ,H,I,h⟩
theorem Ik(h1:PS X st t)(h2:PSs X Io u):PSs X (st::Io) (K7 t u):=by
 intro pins s σ H D I h;refine wpAny_execs_cons (Il (h1 pins s σ H {D with nx:=u D} I h) λf s1 q=>?_)
 cases f with
 | next=> obtain⟨σ',H',I',q⟩:=q;exact h2 pins s1 σ' H' D I' q
 | ret v=>exact q
 | brk=>exact q
 | cont=>exact q
theorem Im(h1:PS X st t):PSs X [st] t:=by
 intro pins s σ H D I h;refine wpAny_execs_cons (Il (h1 pins s σ H D I h) λf s1 q=>?_);cases f with
 | next=>exact En q
 | ret v=>exact q
 | brk=>exact q
 | cont=>exact q
theorem Inv.quiet{σ:St}{H:Hp}(I:Inv X pins σ H s):interactive X.env=false:=by simp[interactive,I.ok.kind]
def Xe(te:TE):TS:=λD σ H=>te σ H λ_ H1=>D.nx σ H1
theorem K0(he:PE X e te)(hs:swapsWith e none pos.line X.env=pure false:=by rfl):PS X (.Expr e pos) (Xe te):=by intro pins s σ H D I h;exact wpAny_Expr_any (Il (he pins s σ H _ I h) λv s1 ⟨x,H1,I1,r1,q1⟩=>⟨σ,H1,I1,q1⟩) I.quiet hs
def Rk(te:TE):TS:=λD σ H=>te σ H D.rt
theorem Iz(he:PE X e te):PS X (.Return (some e) pos) (Rk te):=by intro pins s σ H D I h;exact wpAny_Return_some (Il (he pins s σ H _ I h) λv s1 ⟨x,H1,I1,r1,q1⟩=>⟨x,σ,H1,I1,r1,q1⟩)
def Rq(c:TT)(t u:TS):TS:=λD σ H=>c σ H λb H1=>if b=true then t D σ H1 else u D σ H1
theorem IL{c:Expr}{a b:List Stmt}{tc:TT}(hc:PT X c tc)(ha:PSs X a t)(hb:PSs X b u):PS X (.If c a b pos) (Rq tc t u):=by
 intro pins s σ H D I h;refine wpAny_If (Il (hc pins s σ H _ I h) λd s1 ⟨H1,I1,q1⟩=>?_);cases d with
 | true=>exact ha pins s1 σ H1 D I1 q1
 | false=>exact hb pins s1 σ H1 D I1 q1
def Xh:TS:=λ_ _ _=>False
theorem My:PS X st Xh:=λ_ _ _ _ _ _ h=>h.elim
end
abbrev TG:=V→St→Hp→(St→Hp→Prop)→Prop
abbrev Mi:=List V→St→Hp→(St→Hp→Prop)→Prop
def PG(X:Cx)(target:Expr)(t:TG):Prop:=
 ∀(pins:List (Addr×Obj))(s:Shared)(σ:St)(H:Hp)(v:V)(u:Value)(Q:St→Hp→Prop),Inv X pins σ H s→RelV v u→t v σ H Q→
  wpAny (model X.prog X.w) X.A (assign target X.env u) (λ_ s'=>∃σ' H',Inv X pins σ' H' s'∧Q σ' H') X.xe s
def Ou(X:Cx)(ts:List Expr)(t:Mi):Prop:=
 ∀(pins:List (Addr×Obj))(s:Shared)(σ:St)(H:Hp)(vs:List V)(us:List Value)(Q:St→Hp→Prop),Inv X pins σ H s→Vals vs us→t vs σ H Q→
  wpAny (model X.prog X.w) X.A (assignInOrder ((assignEach ts X.env).map (·.2)) us) (λ_ s'=>∃σ' H',Inv X pins σ' H' s'∧Q σ' H') X.xe s
abbrev M9:=V→V→V→Hp→(Hp→Prop)→Prop
def Ot(X:Cx)(t:M9):Prop:=
 ∀(pins:List (Addr×Obj))(s:Shared)(σ:St)(H:Hp)(o i v:V)(ov iv u:Value)(Q:Hp→Prop),Inv X pins σ H s→RelV o ov→RelV i iv→RelV v u→t o i v H Q→
  wpAny (model X.prog X.w) X.A (setItem ov iv u) (λ_ s'=>∃H',Inv X pins σ H' s'∧Q H') X.xe s
abbrev Pl:=V→V→Hp→VK→Prop
def Wn(X:Cx)(op:Operator)(t:Pl):Prop:=
 ∀(pins:List (Addr×Obj))(s:Shared)(σ:St)(H:Hp)(x y:V)(v u:Value)(Q:VK),Inv X pins σ H s→RelV x v→RelV y u→t x y H Q→
  wpAny (model X.prog X.w) X.A (inplaceOp op v u) (EP X pins σ Q) X.xe s
section
variable{X:Cx}
def Kx(i:Nat):TG:=λv σ H Q=>Q (σ.set i (some v)) H
theorem Iv{x:Str}(hN:X.N.Nodup)(hi:X.N[i]?=some x)(hx:MC X.env.scope x)(hf:X.fn x=true∨X.env.scope.names.lookup x=some .local:=by first | exact .inl rfl | exact .inr rfl | assumption):PG X (.Name x pos) (Kx i):=by intro pins s σ H v u Q I r h;exact ER (Qj I hN hi hx r (λs' I'=>⟨_,H,I',h⟩) hf)
def RT:Mi:=λvs σ H Q=>vs=[]∧Q σ H
def WQ(t:TG)(u:Mi):Mi:=λvs σ H Q=>∃v r,vs=v::r∧t v σ H λσ' H'=>u r σ' H' Q
theorem J3:Ou X [] RT:=by intro pins s σ H vs us Q I r h;obtain⟨e,h⟩:=h;subst e;cases r;exact assignInOrder_nil ⟨σ,H,I,h⟩
theorem ID{es:List Expr}{t:TG}{u:Mi}(h1:PG X e t)(h2:Ou X es u)
 (hs:(assignEach (e::es) X.env).map (·.2)=assign e X.env::(assignEach es X.env).map (·.2):=by rfl):Ou X (e::es) (WQ t u):=by
 intro pins s σ H vs us Q I r h;obtain⟨v,vr,e1,h⟩:=h;subst e1;cases r with
 | cons r rr=> rw[hs];refine assignInOrder_cons (Il (h1 pins s σ H _ _ _ I r h) λ_ s1 ⟨σ1,H1,I1,q1⟩=>?_);exact h2 pins s1 σ1 H1 _ _ Q I1 rr q1
def Oo(K:Ad)(n:Nat)(t:Mi):TG:=λv σ H Q=>∃a xs,v= .ref a∧SqT K H a xs∧xs.length=n∧t xs σ H Q
theorem JL{es:List Expr}{k:Nat}{t:Mi}{n:Nat}(hc:X.calm=true)(h:Ou X es t)
 (hn:(assignEach es X.env).length=n:=by rfl) (hst:(assignEach es X.env).findIdx? (·.1)=none:=by rfl):PG X (.Tuple es k pos) (Oo X.K n t):=by
 intro pins s σ H v u Q I r hw;obtain⟨a,xs,e1,hq,hl,hw⟩:=hw;subst e1;cases r;obtain⟨its,rv,ht,hz⟩:=I.tuple hq;refine assign_Tuple_tuple (I.ok.hd hc) ht (by simp[hn,←hl,rv.length]) hst λh' hx=>?_;have I1:Inv X pins σ H {s with heap:=h'}:=I.kept (t':=s.toks) λb o e=>hx b o (A3 (Aq e)) e
 exact h pins _ σ H xs _ Q I1 (by simpa using rv) hw
def RS(to ti:TE)(t:M9):TG:=λv σ H Q=>to σ H λo H1=>ti σ H1 λi H2=>t o i v H2 λH3=>Q σ H3
theorem Np{o i:Expr}{to ti:TE}{t:M9}(ho:PE X o to)(hi:PE X i ti)(hs:Ot X t)
 (ha:∀v,assign (.Subscript o i pos) X.env v=(do
  let ov ←holding [v] (eval o X.env)
  let iv ←holding [v,ov] (eval i X.env)
  standAt pos
  holding [v,ov,iv] (setItem ov iv v)
  release [v,ov,iv] []):=by intro _;rfl):PG X (.Subscript o i pos) (RS to ti t):=by
 intro pins s σ H v u Q I r h;rw[ha];refine Aa (AZ (Il (ho pins s σ H _ I h) λov s1 ⟨x,H1,I1,r1,q1⟩=>?_));refine Aa (AZ (Il (hi pins s1 σ H1 _ I1 q1) λiv s2 ⟨y,H2,I2,r2,q2⟩=>?_));refine Aa (Bm (Aa (AZ (Il (hs pins s2 σ H2 x y v ov iv u _ I2 r1 r2 r q2) λ_ s3 ⟨H3,I3,q3⟩=>?_))));exact wpAny_release ⟨σ,H3,I3,q3⟩
def K8(te:TE)(g:TG):TS:=λD σ H=>te σ H λx H1=>g x σ H1 D.nx
theorem Kf{tg:Expr}{te:TE}{g:TG}(he:PE X e te)(hg:PG X tg g)(hs:swapsWithSole [tg] e pos.line X.env=pure false:=by rfl)(hw:swappedStores [tg] e X.env=pure none:=by rfl)
 (h1:(assignEach [tg] X.env).map (·.2)=[assign tg X.env]:=by rfl):PS X (.Assign [tg] e pos) (K8 te g):=by
 intro pins s σ H D I h;refine wpAny_Assign_stores (Il (he pins s σ H _ I h) λv s1 ⟨x,H1,I1,r1,q1⟩=>?_) hs hw;rw[h1];exact Il (hg pins s1 σ H1 x v _ I1 r1 q1) λ_ s2 q=>q
theorem I0{x:Str}{te:TE}{pos':Pos}(hN:X.N.Nodup)(hi:X.N[i]?=some x)(hx:MC X.env.scope x)(he:PE X e te)(hs:swapsWith e (some (.Name x pos')) pos.line X.env=pure false:=by rfl)(hf:X.fn x=true∨X.env.scope.names.lookup x=some .local:=by first | exact .inl rfl | exact .inr rfl | assumption):
 PS X (.Assign [.Name x pos'] e pos) (K8 te (Kx i)):=by
 intro pins s σ H D I h;refine wpAny_Assign_Name (Il (he pins s σ H _ I h) λv s1 ⟨y,H1,I1,r1,q1⟩=>?_) hs;exact Qj I1 hN hi hx r1 (λs2 I2=>⟨_,H1,I2,q1⟩) hf
def Ru(i:Nat)(te:TE)(ti:Pl):TS:=λD σ H=>∃x,σ[i]?=some (some x)∧te σ H λy H1=>ti x y H1 λz H2=>D.nx (σ.set i (some z)) H2
theorem SR{x:Str}{te:TE}{op:Operator}{ti:Pl}{pos':Pos}(hN:X.N.Nodup)(hi:X.N[i]?=some x)(hx:MC X.env.scope x)(he:PE X e te)(ho:Wn X op ti)(hf:X.fn x=true∨X.env.scope.names.lookup x=some .local:=by first | exact .inl rfl | exact .inr rfl | assumption):
 PS X (.AugAssign (.Name x pos') op e pos) (Ru i te ti):=by
 intro pins s σ H D I h;obtain⟨v,e1,h⟩:=h;obtain⟨m,hn,hl⟩:=I.loc;have vis:Os X.env.scope x:=by rcases hx with k | k;exact .inl k;exact .inr (.inl k)
 obtain⟨u,r,l⟩:=hl i x v hi e1 vis;refine wpAny_AugAssign_Name ?_;have go:wpAny (model X.prog X.w) X.A (eval e X.env) (λw s₂=>wpAny (model X.prog X.w) X.A (inplaceOp op u w) (λr s₃=>wpAny (model X.prog X.w) X.A (storeName X.env x r) (λ_=>SP X pins D .next) X.xe s₃) X.xe s₂) X.xe s:=by refine Il (he pins s σ H _ I h) λw s1 ⟨y,H1,I1,r1,q1⟩=>?_;refine Il (ho pins s1 σ H1 v y u w _ I1 r r1 q1) λz s2 ⟨zv,H2,I2,r2,q2⟩=>?_;exact Qj I2 hN hi hx r2 (λs3 I3=>⟨_,H2,I3,q2⟩) hf
 rcases l with⟨hk,hm⟩ | ⟨hk,c,hc,hcell⟩
 · exact wpAny_loadName_local I.ok.kind hk hn hm go
 · rcases hk with hk | hk
   · exact wpAny_loadName_cell I.ok.kind hk hc hcell go
   · rcases hx with k | k
     · have:X.env.scope.names.lookup x=some .free:=hk;rw[k] at this;cases this
     · have:X.env.scope.names.lookup x=some .free:=hk;rw[k] at this;cases this
def ipI(f:Int→Int→Int):Pl:=λx y H Q=>∃i j,x= .int i∧y= .int j∧Q (.int (f i j)) H
theorem SH:Wn X .Add (ipI λi j=>i+j):=by intro pins s σ H x y v u Q I r1 r2 h;obtain⟨i,j,e1,e2,q⟩:=h;subst e1;subst e2;obtain⟨t,rfl⟩:=r1;obtain⟨t',rfl⟩:=r2;exact iadd_int ⟨.int _,H,I.tok _,⟨_,rfl⟩,q⟩
end
section
variable{X:Cx}
def Tl(c:TT)(tb:TS):TS:=λD σ H=>∃W:Nat→St→Hp→Prop,(∃m,W m σ H)∧∀m σ H,W m σ H→
 c σ H λb H1=>if b=true then ∃N:St→Hp→Prop,(∀σ' H',N σ' H'→∃m',m'<m∧W m' σ' H')∧tb {D with nx:=N,ct:=N,bk:=D.nx} σ H1 else D.nx σ H1
theorem UL{c:Expr}{body:List Stmt}{tc:TT}{tb:TS}(hp:PassesOwn (model X.prog X.w) X.A X.env X.xe)(hc:PT X c tc)(hb:PSs X body tb):PS X (.While c body [] pos) (Tl tc tb):=by
 intro pins s σ H D I h;obtain⟨W,⟨m0,w0⟩,turn⟩:=h;refine wpAny_While (codeAny_whileLoop (λn s'=>∃σ' H',Inv X pins σ' H' s'∧W n σ' H') ?_ m0 ⟨σ,H,I,w0⟩);rintro n s1 ⟨σ1,H1,I1,w1⟩;refine CM hp (Il (hc pins s1 σ1 H1 _ I1 (turn n σ1 H1 w1)) λb s2 ⟨H2,I2,q2⟩=>?_);cases b with
 | true=>
  obtain⟨N,hN,q2⟩:=q2;rw[if_pos rfl];refine CM hp (Il (hb pins s2 σ1 H2 _ I2 q2) λf s3 q3=>?_);cases f with
  | next=> obtain⟨σ3,H3,I3,n3⟩:=q3;obtain⟨m',hm,w3⟩:=hN σ3 H3 n3;exact⟨m',hm,σ3,H3,I3,w3⟩
  | cont=> obtain⟨σ3,H3,I3,n3⟩:=q3;obtain⟨m',hm,w3⟩:=hN σ3 H3 n3;exact⟨m',hm,σ3,H3,I3,w3⟩
  | brk=>exact q3
  | ret v=>exact q3
 | false=> rw[if_neg Ar];exact En ⟨σ1,H2,I2,q2⟩
end
structure It where
 go:Nat→Hp→Prop
 yld:Nat→Hp→V→Hp→Prop
 stop:Nat→Hp→Prop
def Ix(X:Cx)(pins:List (Addr×Obj))(H:Hp)(b:Addr):Prop:=
 H b=none∧b≠X.env.locals∧b ∉ X.fs∧(b∈X.ex∨X.s₀.heap.objs.size≤b)∧(∀x c,X.env.cells.lookup x=some c→c≠b)∧∀p∈X.pn++pins,p.1≠b
theorem Inv.fpOk{X:Cx}{σ:St}{H H':Hp}(I:Inv X pins σ H s)(hb:s.heap.objs.size≤b)(hn:H' b=none):Ix X pins H' b:=by
 refine⟨hn,C7 (AG I.lt hb),I.nofs hb,.inr (A4 I.sz hb),λx c e z=>?_,λp hp z=>?_⟩
 · obtain⟨v,q⟩:=I.cell x c e;exact absurd (AG q.lt (by rw[z];exact hb)) (Cq _)
 · exact absurd (AG (Aq (I.pin p hp).1) (by rw[z];exact hb)) (Cq _)
structure Turn(P:AY)(w:World)(K:Ad)(tg:Expr)(J:It)(fp:List Addr)(it:Addr)(tn:Nat→Heap→Prop):Prop where
 mem:it∈fp
 obj:∀i h,tn i h→∀b∈fp,∃o,h.get? b=some o∧∀v,o.data≠ .cell v
 keep:∀i h h',tn i h→(∀b∈fp,∀o,h.get? b=some o→h'.get? b=some o)→tn i h'
 item:∀(X:Cx),X.prog=P→X.w=w→X.K=K→X.calm=true→∀(i:Nat)(pins:List (Addr×Obj))(s:Shared)(σ:St)(H:Hp)(E:Value→Shared→Prop),Inv X pins σ H s→(∀b∈fp,Ix X pins H b)→tn i s.heap→J.go i H→
  wpAny (model P w) X.A (pyNext (.ref it)) (λr s1=>∃u,r=some u∧
   wpAny (model P w) X.A (BM tg (.ref it) u) (λ_ s2=>∃x H',Inv X pins σ H' s2∧RelV x u∧J.yld i H x H'∧tn (i+1) s2.heap∧∀b∈fp,H' b=none) E s1) E s
 done:∀(X:Cx),X.prog=P→X.w=w→X.K=K→X.calm=true→∀(i:Nat)(pins:List (Addr×Obj))(s:Shared)(σ:St)(H:Hp)(E:Value→Shared→Prop),Inv X pins σ H s→(∀b∈fp,Ix X pins H b)→tn i s.heap→J.stop i H→
  wpAny (model P w) X.A (pyNext (.ref it)) (λr s1=>r=none∧Inv X pins σ H s1) E s
 self:∀(A:BC)(i:Nat)(s:Shared)(Q:Value→Shared→Prop)(E:Value→Shared→Prop),tn i s.heap→Q (.ref it) s→wpAny (model P w) A (pyIter (.ref it)) Q E s
abbrev TI:=St→Hp→(It→Hp→Prop)→Prop
def Wo(X:Cx)(pins:List (Addr×Obj))(σ:St)(tg:Expr)(R:It→Hp→Prop)(itv:Value)(s2:Shared):Prop:=
 ∃(it:Addr)(fp:List Addr)(tn:Nat→Heap→Prop)(J:It)(H':Hp),itv= .ref it∧Inv X pins σ H' s2∧Turn X.prog X.w X.K tg J fp it tn∧tn 0 s2.heap∧(∀b∈fp,Ix X pins H' b)∧R J H'
def PI(X:Cx)(tg iter:Expr)(wi:TI):Prop:=
 ∀(pins:List (Addr×Obj))(s:Shared)(σ:St)(H:Hp)(R:It→Hp→Prop),Inv X pins σ H s→wi σ H R→
  wpAny (model X.prog X.w) X.A (eval iter X.env) (λv s1=>wpAny (model X.prog X.w) X.A (pyIter v) (Wo X pins σ tg R) X.xe s1) X.xe s
theorem MJ{M:Model}{A:BC}{E:Value→Shared→Prop}{tg:Expr}{it:Addr}{u:Value}{o:Obj}{n:String}{vs:Array Value}{Q:Unit→Shared→Prop}(ho:s.heap.get? it=some o)(hc:o.cls= .type n)(hd:o.data= .fields vs)
 (hn:["enumerate","zip","dict_itemiterator","dict_reverseitemiterator","odict_iterator","itertools.zip_longest","itertools.pairwise"].contains n=false) (hQ:Q () s):wpAny M A (BM tg (.ref it) u) Q E s:=by
 unfold BM;cases tg<;>first
  | exact Ac hQ
  | (cases u<;>first
   | exact Ac hQ
   | (refine Aa (wpAny_load ho ?_)
      rw[hc,hd];show wpAny M A (if(["enumerate","zip","dict_itemiterator","dict_reverseitemiterator","odict_iterator","itertools.zip_longest","itertools.pairwise"].contains n && vs[0]?==some (rawInt _))=true then _ else _) Q E s
      rw[if_neg (by intro h;rw[hn,Bool.false_and] at h;cases h)];exact Ac hQ))
def KC(K:Ad)(a:Addr):It:=
 ⟨λi H=>∃xs x,SqL K H a xs∧xs[i]?=some x,λi H x H'=>H'=H∧∀xs,SqL K H a xs→xs[i]?=some x,λi H=>∃xs,SqL K H a xs∧xs.length≤i⟩
def Mk(K:Ad)(a:Addr):It:=
 ⟨λi H=>∃xs x,SqT K H a xs∧xs[i]?=some x,λi H x H'=>H'=H∧∀xs,SqT K H a xs→xs[i]?=some x,λi H=>∃xs,SqT K H a xs∧xs.length≤i⟩
def Ml(lo:Int)(n:Nat):It:=⟨λi _=>i<n,λi H x H'=>H'=H∧x= .int (lo+i),λi _=>n≤i⟩
theorem ZJ{K:Ad}{tg:Expr}(a it:Addr):Turn P w K tg (KC K a) [it] it (λi h=>h.IsListIter it a i) where
 mem:=by simp
 obj:=λi h st b hb=>by
  have e:b=it:=by simpa using hb
  subst e;obtain⟨o,e,c,d⟩:=st;exact⟨o,e,λv z=>by rw[d] at z;cases z⟩
 keep:=λi h h' st k=>st.at λo e=>k it (by simp) o e
 item:=by
  intro X hP hw hK hc i pins s σ H E I hf st hg;subst hP hw hK;obtain⟨xs,x,hq,hx⟩:=hg;obtain⟨its,rv,p,hz⟩:=I.list hq;obtain⟨u,hu,ru⟩:=rv.get hx;obtain⟨f0,f1,f2,f3,f4,f5⟩:=hf it (by simp);refine wpAny_pyNext_list_item st p.isList (x:=u) (by simpa using hu) λh' st' sb=>?_;have I1:Inv X pins σ H {s with heap:=h'}:=I.turned (t':=s.toks) (λb o hb e=>(sb.2 b hb).trans e) f0 f1 f3 f4 f5
  obtain⟨o,e,c,d⟩:=id st';exact⟨u,rfl,MJ (s:={s with heap:=h'}) e c d (by decide) ⟨x,H,I1,ru,⟨rfl,λys hy=>by rw[I.list_inj hy hq];exact hx⟩,st',λb hb=>(hf b hb).1⟩⟩
 done:=by intro X hP hw hK hc i pins s σ H E I hf st hg;subst hP hw hK;obtain⟨xs,hq,hx⟩:=hg;obtain⟨its,rv,p,hz⟩:=I.list hq;obtain⟨f0,f1,f2,f3,f4,f5⟩:=hf it (by simp);have hl:=rv.length;exact wpAny_pyNext_list_end (I.ok.hd hc) st p.isList (by simp;omega) λh' eb=>⟨rfl,I.turned (t':=s.toks) (λb o hb e=>eb b o hb e) f0 f1 f3 f4 f5⟩
 self:=λ_ _ _ _ _ st h=>wpAny_pyIter_listiter st h
theorem ziy{K:Ad}{tg:Expr}(a it:Addr):Turn P w K tg (Mk K a) [it] it (λi h=>h.IsTupleIter it a i) where
 mem:=by simp
 obj:=λi h st b hb=>by
  have e:b=it:=by simpa using hb
  subst e;obtain⟨o,e,c,d⟩:=st;exact⟨o,e,λv z=>by rw[d] at z;cases z⟩
 keep:=λi h h' st k=>st.at λo e=>k it (by simp) o e
 item:=by
  intro X hP hw hK hc i pins s σ H E I hf st hg;subst hP hw hK;obtain⟨xs,x,hq,hx⟩:=hg;obtain⟨its,rv,p,hz⟩:=I.tuple hq;obtain⟨u,hu,ru⟩:=rv.get hx;obtain⟨f0,f1,f2,f3,f4,f5⟩:=hf it (by simp);refine wpAny_pyNext_tuple_item st (show s.heap.IsTuple a its.toArray from p) (x:=u) (by simpa using hu) λh' st' sb=>?_;have I1:Inv X pins σ H {s with heap:=h'}:=I.turned (t':=s.toks) (λb o hb e=>(sb.2 b hb).trans e) f0 f1 f3 f4 f5
  obtain⟨o,e,c,d⟩:=id st';exact⟨u,rfl,MJ (s:={s with heap:=h'}) e c d (by decide) ⟨x,H,I1,ru,⟨rfl,λys hy=>by rw[I.tuple_inj hy hq];exact hx⟩,st',λb hb=>(hf b hb).1⟩⟩
 done:=by intro X hP hw hK hc i pins s σ H E I hf st hg;subst hP hw hK;obtain⟨xs,hq,hx⟩:=hg;obtain⟨its,rv,p,hz⟩:=I.tuple hq;obtain⟨f0,f1,f2,f3,f4,f5⟩:=hf it (by simp);have hl:=rv.length;exact wpAny_pyNext_tuple_end (I.ok.hd hc) st (show s.heap.IsTuple a its.toArray from p) (by simp;omega) λh' eb=>⟨rfl,I.turned (t':=s.toks) (λb o hb e=>eb b o hb e) f0 f1 f3 f4 f5⟩
 self:=λ_ _ _ _ _ st h=>wpAny_pyIter_tupleiter st h
theorem ziz{K:Ad}{tg:Expr}(it:Addr)(lo:Int)(n:Nat):Turn P w K tg (Ml lo n) [it] it (λi h=>IsRangeIter h it (lo+(i:Nat)*1) ((n:Int) - (i:Nat)) 1) where
 mem:=by simp
 obj:=λi h st b hb=>by
  have e:b=it:=by simpa using hb
  subst e;exact⟨_,st,λv z=>by have z':Data.fields _=Data.cell v:=z;cases z'⟩
 keep:=λi h h' st k=>k it (by simp) _ st
 item:=by
  intro X hP hw hK hc i pins s σ H E I hf st hg;subst hP hw hK;obtain⟨f0,f1,f2,f3,f4,f5⟩:=hf it (by simp);have W:=Walks.range (prog:=X.prog) (w:=X.w) (I.ok.hd hc) it lo 1 n;refine W.item i s _ _ hg st λv h' tk hv st' kk=>?_;obtain⟨t,rfl⟩:=hv;have I1:Inv X pins σ H {s with heap:=h',toks:=tk}:=I.turned (λb o hb e=>kk b o (by simpa using hb) e) f0 f1 f3 f4 f5
  refine⟨_,rfl,MJ (s:={s with heap:=h',toks:=tk}) (n:="range_iterator") st' rfl rfl (by decide) ⟨.int (lo+i),H,I1,⟨t,?_⟩,⟨rfl,rfl⟩,st',λb hb=>(hf b hb).1⟩⟩
  rw[Int.mul_one]
 done:=by intro X hP hw hK hc i pins s σ H E I hf st hg;subst hP hw hK;obtain⟨f0,f1,f2,f3,f4,f5⟩:=hf it (by simp);exact wpAny_pyNext_range_end (I.ok.hd hc) st (by have:n≤i:=hg;omega) λh' eb=>⟨rfl,I.turned (t':=s.toks) (λb o hb e=>eb b o hb e) f0 f1 f3 f4 f5⟩
 self:=λ_ _ _ _ _ st h=>wpAny_pyIter_rangeiter st h
section
variable{X:Cx}{tg:Expr}
def Si(K:Ad)(tl:TE):TI:=λσ H R=>tl σ H λx H1=>∃a,x= .ref a∧(∃xs,SqL K H1 a xs)∧R (KC K a) H1
def RM(K:Ad)(tl:TE):TI:=λσ H R=>tl σ H λx H1=>∃a,x= .ref a∧(∃xs,SqT K H1 a xs)∧R (Mk K a) H1
theorem Jx{l:Expr}{tl:TE}(hl:PE X l tl):PI X tg l (Si X.K tl):=by
 intro pins s σ H R I h;refine Il (hl pins s σ H _ I h) λv s1 ⟨x,H1,I1,r1,q1⟩=>?_;obtain⟨a,e,⟨xs,hq⟩,q⟩:=q1;subst e;cases r1;obtain⟨its,rv,p,hz⟩:=I1.list hq;refine ES p.isList ?_;refine⟨s1.heap.objs.size,[s1.heap.objs.size],_,_,H1,rfl,I1.kept (t':=s1.toks) λb o e=>Ae _ e,ZJ a _,⟨_,Ay _ rfl,rfl,rfl⟩,λb hb=>?_,q⟩;have e:b=s1.heap.objs.size:=by simpa using hb
 subst e;exact I1.fpOk (Af _) (I1.hok.fresh (Af _))
theorem MM{l:Expr}{tl:TE}(hl:PE X l tl):PI X tg l (RM X.K tl):=by
 intro pins s σ H R I h;refine Il (hl pins s σ H _ I h) λv s1 ⟨x,H1,I1,r1,q1⟩=>?_;obtain⟨a,e,⟨xs,hq⟩,q⟩:=q1;subst e;cases r1;obtain⟨its,rv,p,hz⟩:=I1.tuple hq;refine EF (show s1.heap.IsTuple a its.toArray from p) ?_;refine⟨s1.heap.objs.size,[s1.heap.objs.size],_,_,H1,rfl,I1.kept (t':=s1.toks) λb o e=>Ae _ e,ziy a _,⟨_,Ay _ rfl,rfl,rfl⟩,λb hb=>?_,q⟩;have e:b=s1.heap.objs.size:=by simpa using hb
 subst e;exact I1.fpOk (Af _) (I1.hok.fresh (Af _))
theorem YE{σ:St}{H:Hp}{R:It→Hp→Prop}{E:Value→Shared→Prop}{lo hi:Int}{t u v:Tok}{tk:Nat}(I:Inv X pins σ H s)(h1: -(2^62)≤lo)(h2:lo<2^62)(h3: -(2^62)≤hi)(h4:hi<2^62)
 (q:R (Ml lo (hi - lo).toNat) H):wpAny (model X.prog X.w) X.A (pyIter (.ref s.heap.objs.size)) (Wo X pins σ tg R) E {s with heap:=s.heap.push {cls:= .type "range",data:= .fields #[.int lo t,.int hi u,.int 1 v]},toks:=tk}:=by
 refine wpAny_pyIter_range (IsRange.new ..) (small_one h1 h2 h3 h4) ?_;have I1:Inv X pins σ H {s with heap:=s.heap.push {cls:= .type "range",data:= .fields #[.int lo t,.int hi u,.int 1 v]},toks:=tk}:=I.kept λb o e=>Ae _ e
 refine⟨(s.heap.push {cls:= .type "range",data:= .fields #[.int lo t,.int hi u,.int 1 v]}).objs.size,[(s.heap.push {cls:= .type "range",data:= .fields #[.int lo t,.int hi u,.int 1 v]}).objs.size],_,_,H,rfl,
  I1.kept (t':=tk) λb o e=>Ae _ e,ziz _ lo (hi - lo).toNat,?_,λb hb=>?_,q⟩
 · have e1:lo+((0:Nat):Int)*1=lo:=by simp
   have e2:(((hi - lo).toNat:Nat):Int) - ((0:Nat):Int)=Fq lo hi 1:=by rw[rangeSize_one];split<;>omega
   show IsRangeIter _ _ (lo+((0:Nat):Int)*1) ((((hi - lo).toNat:Nat):Int) - ((0:Nat):Int)) 1;rw[e1,e2];exact Ay _ rfl
 · have e:b=(s.heap.push {cls:= .type "range",data:= .fields #[.int lo t,.int hi u,.int 1 v]}).objs.size:=by simpa using hb
   subst e;exact I1.fpOk (Af _) (I1.hok.fresh (Af _))
def WS(ta:TA):TI:=λσ H R=>ta σ H λvs H1=>∃j:Int,vs=[.int j]∧ -(2^62)≤j∧j<2^62∧R (Ml 0 j.toNat) H1
theorem Le{a:Expr}{ta:TA}{p:Pos}(hg:Gl X "range")(hm:X.mg "range"=none)(ha:PA X [a] ta)(hs:A7 [a] X.env=[(false,eval a X.env)]:=by rfl):PI X tg (.Call (.Name "range" p) [a] [] pos) (WS ta):=by
 intro pins s σ H R I h;refine Call_ (KH I hg hm boot_range (By (Il (ha pos pins s σ H _ I h) λus s1 ⟨vs,H1,I1,r1,q1⟩=>?_) hs rfl));obtain⟨j,e,q1,q2,q⟩:=q1;subst e;cases r1 with
 | cons r rr=> cases rr;obtain⟨t,rfl⟩:=r;exact call_range_1 (YE I1 (by omega) (by omega) q1 q2 (by simpa using q))
def Rr(wi:TI)(g:TG)(tb:TS):TS:=λD σ H=>wi σ H λJ H1=>∃W:Nat→Nat→St→Hp→Prop,(∃m,W 0 m σ H1)∧∀i m σ H,W i m σ H→
 (J.stop i H∧D.nx σ H)∨(J.go i H∧∃N:St→Hp→Prop,(∀σ' H',N σ' H'→∃m',m'<m∧W (i+1) m' σ' H')∧∀x H',J.yld i H x H'→g x σ H' λσ2 H2=>tb {D with nx:=N,ct:=N,bk:=D.nx} σ2 H2)
def Ls(fp:List Addr)(h:Heap):List (Addr×Obj):=fp.filterMap λb=>(h.get? b).map λo=>(b,o)
theorem K4{fp:List Addr}{o:Obj}(hb:b∈fp)(e:h.get? b=some o):(b,o)∈Ls fp h:=Dg.mpr ⟨b,hb,by rw[e];rfl⟩
theorem zj6{fp:List Addr}{p:Addr×Obj}(hp:p∈Ls fp h):p.1∈fp∧h.get? p.1=some p.2:=by
 obtain⟨b,hb,e⟩:=Dg.mp hp;cases q:h.get? b with
 | none=>rw[q] at e;cases e
 | some o=> rw[q] at e;have e':(b,o)=p:=AD e;subst e';exact⟨hb,q⟩
theorem Inv.pinned{σ:St}{H:Hp}{fp:List Addr}(I:Inv X pins σ H s)(hf:∀b∈fp,Ix X pins H b)(ho:∀b∈fp,∃o,s.heap.get? b=some o∧∀v,o.data≠ .cell v):Inv X (pins++Ls fp s.heap) σ H s:=
 I.pins_of λp hp=>(A9.mp hp).elim (λz=>I.pin p (Ah _ z)) λz=>by obtain⟨hb,e⟩:=zj6 z;obtain⟨f0,f1,f2,_⟩:=hf p.1 hb;obtain⟨o,e',d⟩:=ho p.1 hb;rw[e] at e';cases e';exact⟨e,f0,f1,f2,d⟩
theorem Inv.unpinned{pl:List (Addr×Obj)}{σ:St}{H:Hp}(I:Inv X (pins++pl) σ H s):Inv X pins σ H s:=I.pins_of λp hp=>I.pin p (Ah _ (AH _ hp))
theorem JS{iter:Expr}{body:List Stmt}{wi:TI}{g:TG}{tb:TS}{pos:Pos}(hp:PassesOwn (model X.prog X.w) X.A X.env X.xe)(hc:X.calm=true)(hi:PI X tg iter wi)(hg:PG X tg g)(hb:PSs X body tb)
 (hs:∀x,Bq iter X.env x=pure x:=by intro _;rfl):PS X (.For tg iter body [] pos) (Rr wi g tb):=by
 intro pins s σ H D I h;refine wpAny_For (Il (hi pins s σ H _ I h) λv s1 h1=>Il h1 λitv s2 h2=>?_) hs;obtain⟨it,fp,tn,J,H2,e,I2,T,st2,f2,W,⟨m0,w0⟩,turn⟩:=h2;subst e;have stat:∀{H':Hp},(∀b∈fp,H' b=none)→∀b∈fp,Ix X pins H' b:=λhn b hb=>⟨hn b hb,(f2 b hb).2⟩;refine codeAny_forLoop_any (λn s'=>∃i σ' H',Inv X pins σ' H' s'∧tn i s'.heap∧(∀b∈fp,H' b=none)∧W i n σ' H') ?_ m0 ⟨0,σ,H2,I2,st2,λb hb=>(f2 b hb).1,w0⟩;rintro n s3 ⟨i,σ3,H3,I3,st3,fr3,w3⟩;rcases turn i n σ3 H3 w3 with⟨stop,qn⟩ | ⟨go,N,hN,step⟩
 · refine CM hp (Il (T.done X rfl rfl rfl hc i pins s3 σ3 H3 X.xe I3 (stat fr3) st3 stop) λr s4 ⟨hr,I4⟩=>?_);subst hr;exact En ⟨σ3,H3,I4,qn⟩
 · refine CM hp (Il (T.item X rfl rfl rfl hc i pins s3 σ3 H3 X.xe I3 (stat fr3) st3 go) λr s4 ⟨u,hr,h4⟩=>?_);subst hr;refine CM hp (Il h4 λ_ s5 ⟨x,H5,I5,r5,y5,st5,fr5⟩=>?_);have I5':=I5.pinned (stat fr5) (T.obj _ _ st5);refine CM hp (Il (hg _ s5 σ3 H5 x u _ I5' r5 (step x H5 y5)) λ_ s6 ⟨σ6,H6,I6,q6⟩=>?_);refine CM hp (Il (hb _ s6 σ6 H6 _ I6 q6) λf s7 q7=>?_);have again:∀{σ7:St}{H7:Hp},Inv X (pins++Ls fp s5.heap) σ7 H7 s7→N σ7 H7→∃m,m<n∧∃i σ' H',Inv X pins σ' H' s7∧tn i s7.heap∧(∀b∈fp,H' b=none)∧W i m σ' H':=λ{σ7 H7}I7 n7=>by
    obtain⟨m',hm,w7⟩:=hN σ7 H7 n7;refine⟨m',hm,i+1,σ7,H7,I7.unpinned,T.keep _ _ _ st5 λb hb o e=>(I7.pin (b,o) (Ah _ (Ah _ (K4 hb e)))).1,λb hb=>?_,w7⟩;obtain⟨o,e,d⟩:=T.obj _ _ st5 b hb;exact(I7.pin (b,o) (Ah _ (Ah _ (K4 hb e)))).2.1
   cases f with
   | next=>obtain⟨σ7,H7,I7,n7⟩:=q7;exact again I7 n7
   | cont=>obtain⟨σ7,H7,I7,n7⟩:=q7;exact again I7 n7
   | brk=>obtain⟨σ7,H7,I7,q7⟩:=q7;exact⟨σ7,H7,I7.unpinned,q7⟩
   | ret v=>obtain⟨x7,σ7,H7,I7,r7,q7⟩:=q7;exact⟨x7,σ7,H7,I7.unpinned,r7,q7⟩
end
theorem Lv{K:Ad}{xs:List V}{g:TG}{tb:TS}{D:Ends}{σ:St}{H:Hp}(Pv:Nat→St→Hp→Prop)(h0:Pv 0 σ H)(hl:∀i σ H,i≤xs.length→Pv i σ H→SqL K H a xs)
 (hs:∀i x σ H,xs[i]?=some x→Pv i σ H→g x σ H λσ2 H2=>tb {D with nx:=Pv (i+1),ct:=Pv (i+1),bk:=D.nx} σ2 H2) (hd:∀σ H,Pv xs.length σ H→D.nx σ H):
 ∃W:Nat→Nat→St→Hp→Prop,(∃m,W 0 m σ H)∧∀i m σ H,W i m σ H→
  ((KC K a).stop i H∧D.nx σ H)∨((KC K a).go i H∧∃N:St→Hp→Prop,(∀σ' H',N σ' H'→∃m',m'<m∧W (i+1) m' σ' H')∧∀x H',(KC K a).yld i H x H'→g x σ H' λσ2 H2=>tb {D with nx:=N,ct:=N,bk:=D.nx} σ2 H2):=by
 refine⟨λi m σ H=>m=xs.length - i∧i≤xs.length∧Pv i σ H,⟨xs.length,by simp,AI _,h0⟩,?_⟩;rintro i m σ H ⟨rfl,hi,p⟩;have q:=hl i σ H hi p;by_cases hlt:i<xs.length
 · refine .inr ⟨⟨xs,xs[i],q,by simp[hlt]⟩,Pv (i+1),λσ' H' p'=>⟨xs.length - (i+1),by omega,rfl,hlt,p'⟩,λx H' y=>?_⟩;obtain⟨e,y⟩:=y;subst e;exact hs i x σ _ (y xs q) p
 · have e:i=xs.length:=by omega
   subst e;exact .inl ⟨⟨xs,q,Af _⟩,hd σ H p⟩
theorem OI{K:Ad}{xs:List V}{g:TG}{tb:TS}{D:Ends}{σ:St}{H:Hp}(Pv:Nat→St→Hp→Prop)(h0:Pv 0 σ H)(hl:∀i σ H,i≤xs.length→Pv i σ H→SqT K H a xs)
 (hs:∀i x σ H,xs[i]?=some x→Pv i σ H→g x σ H λσ2 H2=>tb {D with nx:=Pv (i+1),ct:=Pv (i+1),bk:=D.nx} σ2 H2) (hd:∀σ H,Pv xs.length σ H→D.nx σ H):
 ∃W:Nat→Nat→St→Hp→Prop,(∃m,W 0 m σ H)∧∀i m σ H,W i m σ H→
  ((Mk K a).stop i H∧D.nx σ H)∨((Mk K a).go i H∧∃N:St→Hp→Prop,(∀σ' H',N σ' H'→∃m',m'<m∧W (i+1) m' σ' H')∧∀x H',(Mk K a).yld i H x H'→g x σ H' λσ2 H2=>tb {D with nx:=N,ct:=N,bk:=D.nx} σ2 H2):=by
 refine⟨λi m σ H=>m=xs.length - i∧i≤xs.length∧Pv i σ H,⟨xs.length,by simp,AI _,h0⟩,?_⟩;rintro i m σ H ⟨rfl,hi,p⟩;have q:=hl i σ H hi p;by_cases hlt:i<xs.length
 · refine .inr ⟨⟨xs,xs[i],q,by simp[hlt]⟩,Pv (i+1),λσ' H' p'=>⟨xs.length - (i+1),by omega,rfl,hlt,p'⟩,λx H' y=>?_⟩;obtain⟨e,y⟩:=y;subst e;exact hs i x σ _ (y xs q) p
 · have e:i=xs.length:=by omega
   subst e;exact .inl ⟨⟨xs,q,Af _⟩,hd σ H p⟩
theorem N5{lo:Int}{n:Nat}{g:TG}{tb:TS}{D:Ends}{σ:St}{H:Hp}(Pv:Nat→St→Hp→Prop)(h0:Pv 0 σ H)
 (hs:∀i σ H,i<n→Pv i σ H→g (.int (lo+i)) σ H λσ2 H2=>tb {D with nx:=Pv (i+1),ct:=Pv (i+1),bk:=D.nx} σ2 H2) (hd:∀σ H,Pv n σ H→D.nx σ H):
 ∃W:Nat→Nat→St→Hp→Prop,(∃m,W 0 m σ H)∧∀i m σ H,W i m σ H→
  ((Ml lo n).stop i H∧D.nx σ H)∨((Ml lo n).go i H∧∃N:St→Hp→Prop,(∀σ' H',N σ' H'→∃m',m'<m∧W (i+1) m' σ' H')∧∀x H',(Ml lo n).yld i H x H'→g x σ H' λσ2 H2=>tb {D with nx:=N,ct:=N,bk:=D.nx} σ2 H2):=by
 refine⟨λi m σ H=>m=n - i∧i≤n∧Pv i σ H,⟨n,by simp,AI _,h0⟩,?_⟩;rintro i m σ H ⟨rfl,hi,p⟩;by_cases hlt:i<n
 · refine .inr ⟨hlt,Pv (i+1),λσ' H' p'=>⟨n - (i+1),by omega,rfl,hlt,p'⟩,λx H' y=>?_⟩;obtain⟨e,y⟩:=y;subst e y;exact hs i σ _ hlt p
 · have e:i=n:=by omega
   subst e;exact .inl ⟨Af _,hd σ H p⟩
abbrev R2:=V→V→Hp→VK→Prop
def IY(X:Cx)(f:Value→Value→Sem Value)(r:R2):Prop:=
 ∀(pins:List (Addr×Obj))(s:Shared)(σ:St)(H:Hp)(x y:V)(v u:Value)(Q:VK),Inv X pins σ H s→RelV x v→RelV y u→r x y H Q→
  wpAny (model X.prog X.w) X.A (f v u) (EP X pins σ Q) X.xe s
def RW(X:Cx)(f:Value→Sem Value)(r:V→Hp→VK→Prop):Prop:=
 ∀(pins:List (Addr×Obj))(s:Shared)(σ:St)(H:Hp)(x:V)(v:Value)(Q:VK),Inv X pins σ H s→RelV x v→r x H Q→
  wpAny (model X.prog X.w) X.A (f v) (EP X pins σ Q) X.xe s
def Kp(X:Cx)(f:Value)(r:List V→Hp→VK→Prop):Prop:=
 ∀(pins:List (Addr×Obj))(s:Shared)(σ:St)(H:Hp)(xs:List V)(us:List Value)(Q:VK),Inv X pins σ H s→Vals xs us→r xs H Q→
  wpAny (model X.prog X.w) X.A (call f us) (EP X pins σ Q) X.xe s
def MZ(r:R2)(ta tb:TE):TE:=λσ H Q=>ta σ H λx H1=>tb σ H1 λy H2=>r x y H2 Q
def tUn(r:V→Hp→VK→Prop)(ta:TE):TE:=λσ H Q=>ta σ H λx H1=>r x H1 Q
def rI(C:Int→Int→Prop)(g:Int→Int→V):R2:=λx y H Q=>∃i j,x= .int i∧y= .int j∧C i j∧Q (g i j) H
def Ma(g:Int→Int→V):R2:=λx y H Q=>∃i j,x= .int i∧y= .int j∧Q (g i j) H
def rU(g:Int→V):V→Hp→VK→Prop:=λx H Q=>∃i,x= .int i∧Q (g i) H
section
variable{X:Cx}{a b c:Expr}{ta tb tc:TE}
theorem M8(ha:PE X a ta)(hb:PE X b tb){σ:St}{H:Hp}{R:V→V→Hp→Prop}(I:Inv X pins σ H s)
 (h:ta σ H λx H1=>tb σ H1 λy H2=>R x y H2) {Q:Value→Shared→Prop} {f:Value→Value→Sem Value}
 (hf:∀v u s2 x y H2,Inv X pins σ H2 s2→RelV x v→RelV y u→R x y H2→wpAny (model X.prog X.w) X.A (f v u) Q X.xe s2):
 wpAny (model X.prog X.w) X.A (eval a X.env) (λv s₁=>wpAny (model X.prog X.w) X.A (eval b X.env) (λu s₂=>wpAny (model X.prog X.w) X.A (f v u) Q X.xe s₂) X.xe s₁) X.xe s:=by
 refine Il (ha pins s σ H _ I h) λv s1 ⟨x,H1,I1,r1,q1⟩=>?_;refine Il (hb pins s1 σ H1 _ I1 q1) λu s2 ⟨y,H2,I2,r2,q2⟩=>?_;exact hf v u s2 x y H2 I2 r1 r2 q2
theorem Iw{op:Operator}{r:R2}(ho:IY X (binaryOp op) r)(ha:PE X a ta)(hb:PE X b tb):PE X (.BinOp a op b pos) (MZ r ta tb):=by intro pins s σ H Q I h;exact wpAny_BinOp (M8 ha hb I h λv u s2 x y H2 I2 rx ry q=>ho pins s2 σ H2 x y v u Q I2 rx ry q)
theorem Ps{op:UnaryOp}{r:V→Hp→VK→Prop}(ho:RW X (unaryOp op) r)(ha:PE X a ta):PE X (.UnaryOp op a pos) (tUn r ta):=by intro pins s σ H Q I h;exact UnaryOp_ (Il (ha pins s σ H _ I h) λv s1 ⟨x,H1,I1,r1,q1⟩=>ho pins s1 σ H1 x v Q I1 r1 q1)
theorem N_{f:Value→Value→Sem Value}{C:Int→Int→Prop}{g:Int→Int→Int}
 (rule:∀(i j:Int)(t u:Tok)(s:Shared)(Q:Value→Shared→Prop)(E:Value→Shared→Prop),C i j→Q (.int (g i j) s.toks) {s with toks:=s.toks+1}→wpAny (model X.prog X.w) X.A (f (.int i t) (.int j u)) Q E s):
 IY X f (rI C λi j=> .int (g i j)):=by
 intro pins s σ H x y v u Q I rx ry h;obtain⟨i,j,rfl,rfl,hc,q⟩:=h;obtain⟨t,rfl⟩:=rx;obtain⟨t',rfl⟩:=ry;exact rule i j t t' s _ _ hc ⟨.int (g i j),H,I.tok _,⟨_,rfl⟩,q⟩
theorem NZ{f:Value→Value→Sem Value}{g:Int→Int→Int}
 (rule:∀(i j:Int)(t u:Tok)(s:Shared)(Q:Value→Shared→Prop)(E:Value→Shared→Prop),Q (.int (g i j) s.toks) {s with toks:=s.toks+1}→wpAny (model X.prog X.w) X.A (f (.int i t) (.int j u)) Q E s):
 IY X f (Ma λi j=> .int (g i j)):=by
 intro pins s σ H x y v u Q I rx ry h;obtain⟨i,j,rfl,rfl,q⟩:=h;obtain⟨t,rfl⟩:=rx;obtain⟨t',rfl⟩:=ry;exact rule i j t t' s _ _ ⟨.int (g i j),H,I.tok _,⟨_,rfl⟩,q⟩
theorem LH{f:Value→Value→Sem Value}{g:Int→Int→Bool}
 (rule:∀(i j:Int)(t u:Tok)(s:Shared)(Q:Value→Shared→Prop)(E:Value→Shared→Prop),Q (.bool (g i j)) s→wpAny (model X.prog X.w) X.A (f (.int i t) (.int j u)) Q E s):
 IY X f (Ma λi j=> .bl (g i j)):=by
 intro pins s σ H x y v u Q I rx ry h;obtain⟨i,j,rfl,rfl,q⟩:=h;obtain⟨t,rfl⟩:=rx;obtain⟨t',rfl⟩:=ry;exact rule i j t t' s _ _ ⟨.bl (g i j),H,I,rfl,q⟩
def CMul(i j:Int):Prop:=(-(2^64)<i∧i<2^64)∨(-(2^64)<j∧j<2^64)
theorem CMul.ok{i j:Int}(h:CMul i j):IntMulOk i j:=by
 rcases h with⟨h1,h2⟩ | ⟨h1,h2⟩
 · exact .of_left (intBits_le_64 h1 h2)
 · exact .of_right (intBits_le_64 h1 h2)
theorem Jg:IY X (binaryOp .Add) (Ma λi j=> .int (i+j)):=NZ λ_ _ _ _ _ _ _ q=>add_int q
theorem Mq:IY X (binaryOp .Sub) (Ma λi j=> .int (i - j)):=NZ λ_ _ _ _ _ _ _ q=>sub_int q
theorem Mp:IY X (binaryOp .Mult) (rI CMul λi j=> .int (i*j)):=N_ λ_ _ _ _ _ _ _ hc q=>mul_int q hc.ok
theorem L6:IY X (binaryOp .Mod) (rI (λ_ j=>0<j) λi j=> .int (i%j)):=N_ λi j _ _ _ _ _ hc q=>by have h1:(0:Int)<j:=hc;exact mod_int' (by omega) (by rw[Int.fmod_eq_emod_of_nonneg i (by omega)];exact q)
theorem unI{f:Value→Sem Value}{g:Int→Int}
 (rule:∀(i:Int)(t:Tok)(s:Shared)(Q:Value→Shared→Prop)(E:Value→Shared→Prop),Q (.int (g i) s.toks) {s with toks:=s.toks+1}→wpAny (model X.prog X.w) X.A (f (.int i t)) Q E s):
 RW X f (rU λi=> .int (g i)):=by
 intro pins s σ H x v Q I rx h;obtain⟨i,rfl,q⟩:=h;obtain⟨t,rfl⟩:=rx;exact rule i t s _ _ ⟨.int (g i),H,I.tok _,⟨_,rfl⟩,q⟩
theorem PB:RW X (unaryOp .USub) (rU λi=> .int (-i)):=unI λ_ _ _ _ _ q=>neg_int q
end
def NS:V→V→Bool
 | .non,.non=>true | .non,.int _=>true | .int _,.non=>true | .non,.bl _=>true | .bl _,.non=>true | .non,.str _=>true | .str _,.non=>true
 | .int _,.int _=>true | .bl _,.bl _=>true | .str _,.str _=>true | .byt _,.byt _=>true
 | .int _,.str _=>true | .str _,.int _=>true | .bl _,.str _=>true | .str _,.bl _=>true
 | _,_=>false
def rEq:R2:=λx y H Q=>NS x y=true∧Q (.bl (decide (x=y))) H
def rNe:R2:=λx y H Q=>NS x y=true∧Q (.bl (!decide (x=y))) H
theorem TD{i j:Int}:decide (V.int i=V.int j)=(i==j):=by rw[Bi];simp
theorem SE{i j:Bool}:decide (V.bl i=V.bl j)=(i==j):=by rw[Bi];simp
theorem TH{i j:Str}:decide (V.str i=V.str j)=(i==j):=by rw[Bi];simp
theorem TC{i j:Array UInt8}:decide (V.byt i=V.byt j)=(i.toList==j.toList):=by rw[Bi];cases i;cases j;simp
section
variable{X:Cx}{a b c:Expr}{ta tb tc:TE}
theorem Ji{σ:St}{H:Hp}{Q:VK}{k k':Bool}(I:Inv X pins σ H s)(q:Q (.bl k) H)(e:k=k'):EP X pins σ Q (.bool k') s:=by subst e;exact⟨.bl k,H,I,rfl,q⟩
theorem JH:IY X (A_ .Eq) rEq:=by
 intro pins s σ H x y v u Q I rx ry h;obtain⟨hs,q⟩:=h;cases x with
 | non=>
  cases rx;cases y with
  | non=>cases ry;exact PySem.EqNone.eq_none_none (Ji I q (by simp))
  | bl j=>cases ry;exact PySem.EqNone.eq_none_bool (Ji I q (by simp))
  | int j=>obtain⟨t',rfl⟩:=ry;exact PySem.EqNone.eq_none_int (Ji I q (by simp))
  | str j=>obtain⟨t',rfl⟩:=ry;exact PySem.EqNone.eq_none_str (Ji I q (by simp))
  | _=>exact absurd (show false=true from hs) Ar
 | bl i=>
  cases rx;cases y with
  | non=>cases ry;exact PySem.EqNone.eq_bool_none (Ji I q (by simp))
  | bl j=>cases ry;exact eq_bool (Ji I q SE)
  | str j=>obtain⟨t',rfl⟩:=ry;exact PySem.EqMixed.eq_bool_str (Ji I q (by simp))
  | _=>exact absurd (show false=true from hs) Ar
 | int i=>
  obtain⟨t,rfl⟩:=rx;cases y with
  | non=>cases ry;exact PySem.EqNone.eq_int_none (Ji I q (by simp))
  | int j=>obtain⟨t',rfl⟩:=ry;exact eq_int (Ji I q TD)
  | str j=>obtain⟨t',rfl⟩:=ry;exact PySem.EqMixed.eq_int_str (Ji I q (by simp))
  | _=>exact absurd (show false=true from hs) Ar
 | str i=>
  obtain⟨t,rfl⟩:=rx;cases y with
  | non=>cases ry;exact PySem.EqNone.eq_str_none (Ji I q (by simp))
  | bl j=>cases ry;exact PySem.EqMixed.eq_str_bool (Ji I q (by simp))
  | int j=>obtain⟨t',rfl⟩:=ry;exact PySem.EqMixed.eq_str_int (Ji I q (by simp))
  | str j=>obtain⟨t',rfl⟩:=ry;exact eq_str (Ji I q TH)
  | _=>exact absurd (show false=true from hs) Ar
 | byt i=>
  obtain⟨t,rfl⟩:=rx;cases y with
  | byt j=>obtain⟨t',rfl⟩:=ry;exact PySem.W.eq_bytes (Ji I q TC)
  | _=>exact absurd (show false=true from hs) Ar
 | _=>cases y<;>exact absurd (show false=true from hs) Ar
theorem L5:IY X (A_ .NotEq) rNe:=by
 intro pins s σ H x y v u Q I rx ry h;obtain⟨hs,q⟩:=h;cases x with
 | non=>
  cases rx;cases y with
  | non=>cases ry;exact PySem.EqNone.ne_none_none (Ji I q (by simp))
  | bl j=>cases ry;exact PySem.EqNone.ne_none_bool (Ji I q (by simp))
  | int j=>obtain⟨t',rfl⟩:=ry;exact PySem.EqNone.ne_none_int (Ji I q (by simp))
  | str j=>obtain⟨t',rfl⟩:=ry;exact PySem.EqNone.ne_none_str (Ji I q (by simp))
  | _=>exact absurd (show false=true from hs) Ar
 | bl i=>
  cases rx;cases y with
  | non=>cases ry;exact PySem.EqNone.ne_bool_none (Ji I q (by simp))
  | bl j=>cases ry;exact ne_bool (Ji I q (congrArg not SE))
  | str j=>obtain⟨t',rfl⟩:=ry;exact PySem.EqMixed.ne_bool_str (Ji I q (by simp))
  | _=>exact absurd (show false=true from hs) Ar
 | int i=>
  obtain⟨t,rfl⟩:=rx;cases y with
  | non=>cases ry;exact PySem.EqNone.ne_int_none (Ji I q (by simp))
  | int j=>obtain⟨t',rfl⟩:=ry;exact ne_int (Ji I q (congrArg not TD))
  | str j=>obtain⟨t',rfl⟩:=ry;exact PySem.EqMixed.ne_int_str (Ji I q (by simp))
  | _=>exact absurd (show false=true from hs) Ar
 | str i=>
  obtain⟨t,rfl⟩:=rx;cases y with
  | non=>cases ry;exact PySem.EqNone.ne_str_none (Ji I q (by simp))
  | bl j=>cases ry;exact PySem.EqMixed.ne_str_bool (Ji I q (by simp))
  | int j=>obtain⟨t',rfl⟩:=ry;exact PySem.EqMixed.ne_str_int (Ji I q (by simp))
  | str j=>obtain⟨t',rfl⟩:=ry;exact ne_str (Ji I q (congrArg not TH))
  | _=>exact absurd (show false=true from hs) Ar
 | byt i=>
  obtain⟨t,rfl⟩:=rx;cases y with
  | byt j=>obtain⟨t',rfl⟩:=ry;exact PySem.W.ne_bytes (Ji I q (congrArg not TC))
  | _=>exact absurd (show false=true from hs) Ar
 | _=>cases y<;>exact absurd (show false=true from hs) Ar
theorem MH:IY X (A_ .Lt) (Ma λi j=> .bl (decide (i<j))):=LH λ_ _ _ _ _ _ _ q=>lt_int q
theorem Lq:IY X (A_ .LtE) (Ma λi j=> .bl (decide (i≤j))):=LH λ_ _ _ _ _ _ _ q=>le_int q
theorem Nm:IY X (A_ .Gt) (Ma λi j=> .bl (decide (j<i))):=LH λ_ _ _ _ _ _ _ q=>gt_int q
theorem Sq:IY X (A_ .GtE) (Ma λi j=> .bl (decide (j≤i))):=LH λ_ _ _ _ _ _ _ q=>ge_int q
theorem zj2:IY X (A_ .Lt) (λx y H Q=>∃i j,x= .str i∧y= .str j∧Q (.bl (decide (i.cps.toList<j.cps.toList))) H):=by intro pins s σ H x y v u Q I rx ry h;obtain⟨i,j,rfl,rfl,q⟩:=h;obtain⟨t,rfl⟩:=rx;obtain⟨t',rfl⟩:=ry;exact lt_str (Ji I q rfl)
theorem IK(b:Expr){op:CmpOp}(h:op≠ .In:=by decide)(h2:op≠ .NotIn:=by decide):behindInMarks op b=false:=by
 have e1:(op==CmpOp.In)=false:=by cases op<;>first | rfl | exact absurd rfl h
 have e2:(op==CmpOp.NotIn)=false:=by cases op<;>first | rfl | exact absurd rfl h2
 cases b<;>simp[behindInMarks,e1,e2]
theorem Lz{op:CmpOp}{r:R2}(ho:IY X (A_ op) r)(ha:PE X a ta)(hb:PE X b tb)(hm:behindInMarks op b=false):PE X (.Compare a [op] [b] pos) (MZ r ta tb):=by intro pins s σ H Q I h;exact wpAny_Compare1 (M8 ha hb I h λv u s2 x y H2 I2 rx ry q=>ho pins s2 σ H2 x y v u Q I2 rx ry q) hm
def O0(t:TE):TT:=λσ H Q=>t σ H λx H'=>∃k,x= .bl k∧Q k H'
theorem IG{op:CmpOp}{r:R2}(ho:IY X (A_ op) r)(ha:PE X a ta)(hb:PE X b tb)(hm:behindInMarks op b=false):PT X (.Compare a [op] [b] pos) (O0 (MZ r ta tb)):=by intro pins s σ H Q I h;refine wpAny_isTrue_Compare1 (Il (ha pins s σ H _ I h) λv s1 ⟨x,H1,I1,r1,q1⟩=>Il (hb pins s1 σ H1 _ I1 q1) λu s2 ⟨y,H2,I2,r2,q2⟩=> Il (ho pins s2 σ H2 x y v u _ I2 r1 r2 q2) λc s3 ⟨z,H3,I3,r3,k,e,q3⟩=>?_) hm;subst e;cases r3;exact Bp ⟨H3,I3,q3⟩
def Tk(r r':R2)(ta tb tc:TE):TE:=λσ H Q=>ta σ H λx H1=>tb σ H1 λy H2=>r x y H2 λz H3=>∃k,z= .bl k∧
 (if k=true then tc σ H3 λw' H4=>r' y w' H4 Q else Q (.bl false) H3)
theorem Qf{op op':CmpOp}{r r':R2}(ho:IY X (A_ op) r)(ho':IY X (A_ op') r')(ha:PE X a ta)(hb:PE X b tb)(hc:PE X c tc)
 (hm:lastMarks [op,op'] [b,c]=false:=by with_unfolding_all rfl):PE X (.Compare a [op,op'] [b,c] pos) (Tk r r' ta tb tc):=by
 intro pins s σ H Q I h;refine Compare_chain (Il (ha pins s σ H _ I h) λv s1 ⟨x,H1,I1,r1,q1⟩=>chain_link (Il (hb pins s1 σ H1 _ I1 q1) λu s2 ⟨y,H2,I2,r2,q2⟩=> Il (ho pins s2 σ H2 x y v u _ I2 r1 r2 q2) λd s3 ⟨z,H3,I3,r3,k,e,q3⟩=>?_)) hm;subst e;cases r3;refine Bp ?_;cases k with
 | false=>exact ite_ff ⟨.bl false,H3,I3,rfl,q3⟩
 | true=>exact ite_tt (chain_last (Il (hc pins s3 σ H3 _ I3 q3) λw' s4 ⟨z',H4,I4,r4,q4⟩=>ho' pins s4 σ H4 y z' u w' Q I4 r2 r4 q4))
theorem YA{op op':CmpOp}{r r':R2}(ho:IY X (A_ op) r)(ho':IY X (A_ op') r')(ha:PE X a ta)(hb:PE X b tb)(hc:PE X c tc)
 (hm:lastMarks [op,op'] [b,c]=false:=by with_unfolding_all rfl):PT X (.Compare a [op,op'] [b,c] pos) (O0 (Tk r r' ta tb tc)):=by
 intro pins s σ H Q I h;refine isTrue_chain (Il (ha pins s σ H _ I h) λv s1 ⟨x,H1,I1,r1,q1⟩=>test_link (Il (hb pins s1 σ H1 _ I1 q1) λu s2 ⟨y,H2,I2,r2,q2⟩=> Il (ho pins s2 σ H2 x y v u _ I2 r1 r2 q2) λd s3 ⟨z,H3,I3,r3,k,e,q3⟩=>?_)) hm;subst e;cases r3;refine Bp ?_;cases k with
 | false=> obtain⟨k',e',q'⟩:=q3;cases e';exact ite_ff ⟨H3,I3,q'⟩
 | true=> refine ite_tt (test_last (Il (hc pins s3 σ H3 _ I3 q3) λw' s4 ⟨z',H4,I4,r4,q4⟩=>Il (ho' pins s4 σ H4 y z' u w' _ I4 r2 r4 q4) λd' s5 ⟨z2,H5,I5,r5,k2,e2,q5⟩=>?_));subst e2;cases r5;exact Bp ⟨H5,I5,q5⟩
theorem ML:(A1:Nat)<2^63:=by rw[sizeLine_eq];decide
theorem OV:IY X (binaryOp .Add) (λx y H Q=>∃i j,x= .str i∧y= .str j∧i.length+j.length≤A1∧Q (.str (i++j)) H):=by intro pins s σ H x y v u Q I rx ry h;obtain⟨i,j,rfl,rfl,hz,q⟩:=h;obtain⟨t,rfl⟩:=rx;obtain⟨t',rfl⟩:=ry;exact add_str (λt' tk=>⟨.str (i++j),H,I.tok _,⟨_,rfl⟩,q⟩) hz
theorem KG{x:V}(r:Vals [x] us):∃u,us=[u]∧RelV x u:=by
 cases r with
 | cons r1 r2=>cases r2;exact⟨_,rfl,r1⟩
theorem Ni{x y:V}(r:Vals [x,y] us):∃u w',us=[u,w']∧RelV x u∧RelV y w':=by
 cases r with
 | cons r1 r2=>
  cases r2 with
  | cons r3 r4=>cases r4;exact⟨_,_,rfl,r1,r3⟩
theorem Qo:Kp X (.builtin "abs") (λxs H Q=>∃i,xs=[.int i]∧Q (.int (if i<0 then -i else i)) H):=by intro pins s σ H xs us Q I r h;obtain⟨i,rfl,q⟩:=h;obtain⟨u,rfl,t,rfl⟩:=KG r;exact call_abs_int λu tk=>⟨.int (if i<0 then -i else i),H,I.tok _,⟨_,rfl⟩,q⟩
theorem Zz(hc:X.calm=true):Kp X (.builtin "max") (λxs H Q=>∃i j,xs=[.int i,.int j]∧Q (.int (if j>i then j else i)) H):=by
 intro pins s σ H xs us Q I r h;obtain⟨i,j,rfl,q⟩:=h;obtain⟨u,w',rfl,⟨t,rfl⟩,⟨t',rfl⟩⟩:=Ni r;refine max_two_ints (I.ok.hd hc) λh' tk k=>⟨_,H,I.kept k,?_,q⟩;by_cases hj:j>i
 · rw[if_pos hj,if_pos hj];exact⟨_,rfl⟩
 · rw[if_neg hj,if_neg hj];exact⟨_,rfl⟩
theorem Q0(hc:X.calm=true):Kp X (.builtin "min") (λxs H Q=>∃i j,xs=[.int i,.int j]∧Q (.int (if j<i then j else i)) H):=by
 intro pins s σ H xs us Q I r h;obtain⟨i,j,rfl,q⟩:=h;obtain⟨u,w',rfl,⟨t,rfl⟩,⟨t',rfl⟩⟩:=Ni r;refine min_two_ints (I.ok.hd hc) λh' tk k=>⟨_,H,I.kept k,?_,q⟩;by_cases hj:j<i
 · rw[if_pos hj,if_pos hj];exact⟨_,rfl⟩
 · rw[if_neg hj,if_neg hj];exact⟨_,rfl⟩
end
structure ObjM(h:Heap)(x dx C:Addr)(mA:Str→Option Value):Prop where
 obj:h.get? x=some (Fv C dx)
 ns:h.Ns1 dx mA
 ne:dx≠x
theorem Zw{dx:Addr}{mA:Str→Option Value}(n:h.Ns1 dx mA):∃od,h.get? dx=some od∧∀name,FL name od=some (mA name):=by
 obtain⟨o,es,ep,ho,hd,hk,_,hm⟩:=n;refine⟨o,ho,λname=>?_⟩;have e:=hm name;unfold nsFind findBy at e;rw[←Array.find?_toList] at e;unfold FL;rw[hd];dsimp only
 split
 · rename_i y q;rw[q] at e;exact congrArg some e
 · rename_i q;rw[q] at e;have a:es.toList.any (·.refKey)=false:=by
    rw[DS];intro y hy;obtain⟨z,t,hkey⟩:=hk y (Dv.mp hy);simp[DictEntry.refKey,hkey]
   have a':¬es.toList.any (·.refKey)=true:=by rw[a];exact Ar
   rw[if_neg a'];exact congrArg some e
theorem ObjM.look{x dx C:Addr}{mA:Str→Option Value}(I:ObjM h x dx C mA):∃od,PySem.W.InstAt h x (Fv C dx) C (some od)∧∀name,FL name od=some (mA name):=
 let⟨od,ho,hl⟩:=Zw I.ns
 ⟨od,⟨I.obj,rfl,rfl,ho⟩,hl⟩
section
variable{K:Ad}{x dx C f:Addr}{mA:Str→Option Value}{name:Str}{v:Value}
end
theorem RelO.some_of{v:V}{o:Option Value}(r:RelO (some v) o):∃u,o=some u∧RelV v u:=by
 cases o with
 | none=>exact(show False from r).elim
 | some u=>exact⟨u,rfl,r⟩
section
variable{H H':Hp}{h':Heap}{C dx:Addr}{fs fs':List (Str×V)}
theorem Ys(hok:HOk P w H h)(e:H a=some (.ins C dx fs)):∃mA,ObjM h a dx C mA∧(∀f,RelO (fs.lookup f) (mA f))∧PySem.Within mA (fs.map (·.1))∧fs.length≤1000∧H dx=some (.own a):=by obtain⟨d,z,ne,ob,mA,n,r,q⟩:=(show ObjOk P w H h a (.ins C dx fs) from hok a _ e);exact⟨mA,⟨ob,n,ne⟩,r,q,z,d⟩
end
structure Cls(K:Ad)(C:Addr):Prop where
 pg:PySem.W.plainGet K C Str.empty=true
 hd:PySem.W.hasDictIn K C=true
 po:PySem.W.plainOver K C=true
 sa:PySem.W.findIn K (.ref C) "__setattr__"=some (some (.builtin "object.__setattr__"))
theorem Cls.get{K:Ad}{C:Addr}(c:Cls K C)(f:Str):PySem.W.plainGet K C f=true:=c.pg
section
variable{X:Cx}{σ:St}{H:Hp}{C dx:Addr}{fs:List (Str×V)}{f:Str}{v:V}
end
section
variable{X:Cx}{o value:Expr}{f:Str}{pos' tpos:Pos}{ta tv:TE}
end
section
variable{X:Cx}{σ:St}{H:Hp}{Q:Value→Shared→Prop}{c:Value}{b:Bool}
inductive TyOf(K:Ad)(H:Hp):V→Value→Prop where
 | non:TyOf K H .non (.type "NoneType")
 | bl (x:Bool):TyOf K H (.bl x) (.type "bool")
 | int (i:Int):TyOf K H (.int i) (.type "int")
 | str (x:Str):TyOf K H (.str x) (.type "str")
 | flt (x:UInt64):TyOf K H (.flt x) (.type "float")
 | lst {a:Addr} {xs:List V} (e:H a=some (.lst xs)):TyOf K H (.ref a) (.type "list")
 | frz {a:Addr} {o:Obj} {xs:List V} (e:H a=some (.frz o (.lst xs))):TyOf K H (.ref a) (.type "list")
 | tup {a:Addr} {xs:List V} (e:H a=some (.tup xs)):TyOf K H (.ref a) (.type "tuple")
 | dK {a:Addr} {kvs:List (IT×V)} (e:H a=some (.dK kvs)):TyOf K H (.ref a) (.type "dict")
 | dT {a:Addr} {kvs:List (List IT×V)} (e:H a=some (.dT kvs)):TyOf K H (.ref a) (.type "dict")
 | ins {a C dx:Addr} {fs:List (Str×V)} (e:H a=some (.ins C dx fs)) (cl:Cls K C) (ha:PySem.W.findIn K (.ref C) "__class__"=some (some (.builtin "object.__class__")))
  (hn:PySem.W.specialIn K (.builtin "object.__class__") "__get__"=some (some (.builtin "getset_descriptor.__get__"))) (htk:PySem.W.takesIn K (.builtin "object.__class__")=some true)
  (hm:PySem.W.mroIn K C (.type "object")=some true):TyOf K H (.ref a) (.ref C)
theorem Zr{x:V}{t:Value}(I:Inv X pins σ H s)(rx:RelV x u)(ty:TyOf X.K H x t)(e:PySem.W.kitOne X.K t c=some b)(h:∀tk,Q (.bool b) {s with toks:=tk}):
 wpAny (model X.prog X.w) A (call (.builtin "isinstance") [u,c]) Q E s:=by
 cases ty with
 | non=>cases(show u=Value.none from rx);exact BN PySem.W.kitx_none I.kIn True.intro e (λz=>nomatch z) h
 | bl y=>cases(show u=Value.bool y from rx);exact BN PySem.W.kitx_bool I.kIn True.intro e (λz=>nomatch z) h
 | int i=>obtain⟨t,q⟩:=(show ∃t,u=Value.int i t from rx);cases q;exact BN PySem.W.kitx_int I.kIn True.intro e (λz=>nomatch z) h
 | str y=>obtain⟨t,q⟩:=(show ∃t,u=Value.str y t from rx);cases q;exact BN PySem.W.kitx_str I.kIn True.intro e (λz=>nomatch z) h
 | flt y=>obtain⟨t,q⟩:=(show ∃t,u=Value.float y t from rx);cases q;exact BN PySem.W.kitx_float I.kIn True.intro e (λz=>nomatch z) h
 | @lst a xs ea=> cases(show u=Value.ref a from rx);obtain⟨_,_,n,_,h1⟩:=(show ObjOk X.prog X.w H s.heap a (.lst xs) from I.hok a _ ea);exact BN DT I.kIn ⟨_,h1,rfl⟩ e (λz=>nomatch z) h
 | @frz a ob xs ea=> cases(show u=Value.ref a from rx);obtain⟨_,_,_,n,_,h1⟩:=(show ObjOk X.prog X.w H s.heap a (.frz ob (.lst xs)) from I.hok a _ ea);exact BN DT I.kIn ⟨_,h1,rfl⟩ e (λz=>nomatch z) h
 | @tup a xs ea=> cases(show u=Value.ref a from rx);obtain⟨_,_,_,p⟩:=(show ObjOk X.prog X.w H s.heap a (.tup xs) from I.hok a _ ea);obtain⟨o,h1,h2,_⟩:=p;exact BN PySem.W.kitx_tuple I.kIn ⟨o,h1,h2⟩ e (λz=>nomatch z) h
 | @dK a kvs ea=> cases(show u=Value.ref a from rx);obtain⟨_,_,vs,_,p⟩:=(show ObjOk X.prog X.w H s.heap a (.dK kvs) from I.hok a _ ea);obtain⟨o,es,ep,h1,h2,_⟩:=p;exact BN DU I.kIn ⟨o,h1,h2.1⟩ e (λz=>nomatch z) h
 | @dT a kvs ea=> cases(show u=Value.ref a from rx);obtain⟨_,_,xs,_,o,es,ep,h1,h2,_⟩:=(show ObjOk X.prog X.w H s.heap a (.dT kvs) from I.hok a _ ea);exact BN DU I.kIn ⟨o,h1,h2.1⟩ e (λz=>nomatch z) h
 | @ins a C dx fs ea cl ha hn htk hm=> cases(show u=Value.ref a from rx);obtain⟨mA,O,_⟩:=Ys I.hok ea;obtain⟨od,J,_⟩:=O.look;exact BN (PySem.W.kitx_own (cl.get _) cl.hd ha hn htk hm) I.kIn J e (λz=>nomatch z) h
end
structure Room(k:Nat)(A:BC):Prop where
 hd:A.handled=none
 dp:A.depth+3*k+5<recursionLimit
 un:A.units+16*k+200<cLine
 gd:A.guards=some []
theorem Room.mono{j k:Nat}(r:Room k A)(h:j≤k):Room j A:=⟨r.hd,by have:=r.dp;omega,by have:=r.un;omega,r.gd⟩
theorem Room.deeper{k:Nat}(r:Room (k+1) A)(env:Env):Room k (A.deeper env):=
 ⟨r.hd,by have:=r.dp;show A.depth+1+3*k+5<_;omega,by have:=r.un;show A.units+3+16*k+200<_;omega,r.gd⟩
theorem Room.in1{k:Nat}(r:Room (k+1) A):Room k A.in1:=
 ⟨r.hd,by have:=r.dp;show A.depth+3*k+5<_;omega,by have:=r.un;show A.units+1+16*k+200<_;omega,r.gd⟩
theorem Room.depth{k:Nat}(r:Room k A):A.depth<recursionLimit:=by have:=r.dp;omega
theorem Room.units{k:Nat}(r:Room k A):A.units+64<cLine:=by have:=r.un;omega
def NR:TA:=λ_ H Q=>Q [] H
def Sk(ta:TE)(tr:TA):TA:=λσ H Q=>ta σ H λx H1=>tr σ H1 λxs H2=>Q (x::xs) H2
section
variable{X:Cx}{es:List Expr}{te:TE}{t:TA}
theorem Ie:PA X [] NR:=λ_ _ _ _ H Q I h=>DV ⟨[],H,I,.nil,h⟩
theorem Ic(ha:PE X e te)(hr:PA X es t)(hs:A7 (e::es) X.env=(false,eval e X.env)::A7 es X.env:=by rfl):PA X (e::es) (Sk te t):=by intro pos pins s σ H Q I h;rw[hs];show wpAny _ _ (spliced ((false,eval e X.env)::backTo pos (A7 es X.env))) _ _ s;refine DG (Il (ha pins s σ H _ I h) λu s1 ⟨x,H1,I1,r1,q1⟩=>?_);exact Il (hr pos pins s1 σ H1 _ I1 q1) λus s2 ⟨xs,H2,I2,r2,q2⟩=>⟨x::xs,H2,I2,.cons r1 r2,q2⟩
def Ri(t:TA):TE:=λσ H Q=>t σ H λxs H1=>xs.length≤A1∧∀p,H1 p=none→Q (.ref p) (upd H1 p (.tup xs))
def Rn(t:TA):TE:=λσ H Q=>t σ H λxs H1=>xs.length≤A1∧∀p,H1 p=none→Q (.ref p) (upd H1 p (.lst xs))
theorem Jw{x1}(h:PA X es t):PE X (.Tuple es x1 pos) (Ri t):=by intro pins s σ H Q I hq;refine wpAny_Tuple_spliced (Il (h pos pins s σ H _ I hq) λus s1 ⟨xs,H1,I1,r,z,q⟩=>⟨by rw[←r.length];exact z,?_⟩);have hf:H1 s1.heap.objs.size=none:=I1.hok.fresh (Af _);refine⟨.ref s1.heap.objs.size,upd H1 s1.heap.objs.size (.tup xs),I1.laid (t':=s1.toks) (λb u e=>Ae _ e) (Af _) ?_,rfl,q _ hf⟩;exact⟨z,us,r,⟨_,Ay _ rfl,rfl,rfl,_,rfl⟩⟩
theorem Js(h:PA X es t):PE X (.List es pos) (Rn t):=by intro pins s σ H Q I hq;refine wpAny_List_spliced (Il (h pos pins s σ H _ I hq) λus s1 ⟨xs,H1,I1,r,z,q⟩=>⟨by rw[←r.length];exact z,?_⟩);have hf:H1 s1.heap.objs.size=none:=I1.hok.fresh (Af _);refine⟨.ref s1.heap.objs.size,upd H1 s1.heap.objs.size (.lst xs),I1.laid (t':=s1.toks) (λb u e=>Ae _ e) (Af _) ?_,rfl,q _ hf⟩;exact⟨z,us,0,r,Ay _ rfl⟩
end
abbrev Sp:=List V→Hp→VK→XK→Prop
abbrev Lo:=List Env→Hp→Shared→XK→Value→Shared→Prop
structure Env0(P:AY)(w:World)(K:Ad)(mg:Str→Option Value)(base:Heap)(A:BC)(outer:List Env)(s:Shared)(H:Hp):Prop where
 frames:A.frames=some outer
 mod:Mod K mg base
 bs:∀b o,base.get? b=some o→s.heap.get? b=some o∧H b=none
 bsz:base.objs.size≤s.heap.objs.size
 funs:s.heap.FunFrames base outer
 frf:∀b∈Lk outer,H b=none
 hok:HOk P w H s.heap
 bare:AllBare s.gens
def CE(outer:List Env)(P:AY)(w:World)(H:Hp)(s:Shared)(Q:VK)(u:Value)(s':Shared):Prop:=
 ∃v H',s'.os=s.os∧AllBare s'.gens∧Un (Lk outer) [] H H' s.heap s'.heap∧HOk P w H' s'.heap∧RelV v u∧Q v H'
def CR(CX:Lo)(outer:List Env)(P:AY)(w:World)(H:Hp)(s:Shared)(Q:VK)(E:XK)(r:Result)(s':Shared):Prop:=
 match r with
 | .ok (.ret u)=>CE outer P w H s Q u s'
 | .ok _=>False
 | .error e=>CX outer H s E e s'
structure FnOk(P:AY)(w:World)(K:Ad)(mg:Str→Option Value)(base:Heap)(CX:Lo)(k:Nat)(f:Addr)(fd:Bw)(ps:List Str)(sp:Sp):Prop where
 len:∀vs H Q E,sp vs H Q E→vs.length=ps.length
 run:∀(A:BC)(outer:List Env)(s:Shared)(H:Hp)(args:Args)(us:List Value)(vs:List V)(Q:VK)(E:XK),Room k A→Env0 P w K mg base A outer s H→BindsTo s fd args (ps.zip us)→Vals vs us→sp vs H Q E→
  codeAny (model P w) A (.call (.ref f) args) (CR CX outer P w H s Q E) s
section
variable{X:Cx}{σ:St}{H:Hp}{s':Shared}
theorem Inv.env0(I:Inv X pins σ H s):Env0 X.prog X.w X.K X.mg X.base X.A X.stack s H:=
 ⟨I.ok.frames,I.ok.mod,I.bs,A4 I.ok.bsz I.sz,I.stack,I.stkFree,I.hok,I.bare⟩
theorem Inv.after{Q:VK}(I:Inv X pins σ H s)(h:CE X.stack X.prog X.w H s Q u s'):EP X pins σ Q u s':=by obtain⟨v,H',os,bare,un,hok,r,q⟩:=h;obtain⟨hh,g,d,t,os'⟩:=s';obtain rfl:os'=s.os:=os;exact⟨v,H',I.call (h':=hh) (g':=g) (d':=d) (t':=t) (ch:=[]) un hok bare (λb z=>absurd z (by simp)),r,q⟩
end
def Sz(sp:Sp)(dvs:List V)(E:XK)(t:TA):TE:=λσ H Q=>t σ H λvs H1=>sp (vs++dvs) H1 Q E
def Binds(K:Ad)(fd:Bw)(ps:List Str)(ds:List Value):Prop:=
 ∀(s:Shared)(us:List Value),K.In s.heap→(us++ds).length=ps.length→BindsTo s fd ⟨us,[]⟩ (ps.zip (us++ds))
theorem Binds.all{K:Ad}{fd:Bw}{ps:List Str}(h:∀us:List Value,us.length=ps.length→bindArgs fd ⟨us,[]⟩=pure (ps.zip us)):Binds K fd ps []:=λs us _ hl=>by rw[Cm] at hl ⊢;exact .of_eq (h us hl)
def Px(CX:Lo)(X:Cx)(E:XK):Prop:=∀(pins:List (Addr×Obj))(σ:St)(H:Hp)(s:Shared)(e:Value)(s':Shared),Inv X pins σ H s→CX X.stack H s E e s'→X.xe e s'
section
variable{X:Cx}{CX:Lo}{k:Nat}{f C:Addr}{fd:Bw}{ps:List Str}{sp:Sp}{dvs:List V}{ds:List Value}{E:XK}{x m:Str}{p apos:Pos}{o:Expr}{es:List Expr}{ta:TE}{t:TA}
theorem SW{pins:List (Addr×Obj)}{σ:St}{H:Hp}{s:Shared}{Q:VK}{us:List Value}{vs:List V}(F:FnOk X.prog X.w X.K X.mg X.base CX k f fd ps sp)(hr:Room k X.A)(hb:Binds X.K fd ps ds)(hd:Vals dvs ds)(hx:Px CX X E)
 (I:Inv X pins σ H s) (r:Vals vs us) (h:sp (vs++dvs) H Q E):wpAny (model X.prog X.w) X.A (call (.ref f) us) (EP X pins σ Q) X.xe s:=by
 have r2:Vals (vs++dvs) (us++ds):=r.append hd;have hl:(us++ds).length=ps.length:=by rw[←r2.length];exact F.len _ _ _ _ h
 refine E_ (BU (F.run X.A X.stack s H ⟨us,[]⟩ (us++ds) (vs++dvs) Q E hr I.env0 (hb s us I.kIn hl) r2 h) λr s' hq=>?_);cases r with
 | error e=>exact hx pins σ H s e s' I hq
 | ok fl=>
  cases fl with
  | ret u=>exact I.after hq
  | next=>exact CZ hq
  | brk=>exact CZ hq
  | cont=>exact CZ hq
theorem XW(F:FnOk X.prog X.w X.K X.mg X.base CX k f fd ps sp)(hr:Room k X.A)(hg:Gl X x)(hm:X.mg x=some (.ref f))(hk:E8 X.K (.ref f)=true)(hb:Binds X.K fd ps ds)(hd:Vals dvs ds)(hx:Px CX X E)
 (ha:PA X (e::es) t) (hdb:(x==("__debug__":Str))=false:=by decide) (he:A7 (e::es) X.env=(false,eval e X.env)::A7 es X.env:=by rfl) (hpl:(backTo pos (A7 es X.env)).any (·.1)=false:=by rfl):
 PE X (.Call (.Name x p) (e::es) [] pos) (Sz sp dvs E t):=by
 intro pins s σ H Q I h;refine Bt (Tx I hg hm ?_ hdb);refine PySem.W.callWith_K (h₀:=X.base) I.ok.mod.kin hk (Il (ha pos pins s σ H _ I h) λus s1 ⟨vs,H1,I1,r,q⟩=>⟨I1.kIn,?_⟩) he hpl;exact SW F hr hb hd hx I1 r q
end
def PK(X:Cx)(kws:List Keyword)(t:TA):Prop:=
 ∀(pos:Pos)(pins:List (Addr×Obj))(s:Shared)(σ:St)(H:Hp)(Q:List V→Hp→Prop),Inv X pins σ H s→t σ H Q→wpAny (model X.prog X.w) X.A (evalAll ((backToKw pos (keywordEach kws X.env)).map (·.2))) (AP X pins σ Q) X.xe s
section
variable{X:Cx}{CX:Lo}{k:Nat}{f C:Addr}{fd:Bw}{ps ks:List Str}{sp:Sp}{E:XK}{x m:Str}{p apos kpos:Pos}{o:Expr}{es:List Expr}{kws:List Keyword}{te ta:TE}{t tk:TA}{nm:Option Str}
theorem XD:PK X [] NR:=λ_ _ _ _ H Q I h=>wpAny_evalAll_nil ⟨[],H,I,.nil,h⟩
theorem XZ(ha:PE X e te)(hr:PK X kws t):PK X (⟨nm,e,kpos⟩::kws) (Sk te t):=by
 intro pos pins s σ H Q I h;show wpAny _ _ (evalAll ((do let v ←eval e X.env;standAt pos;pure v)::(backToKw pos (keywordEach kws X.env)).map (·.2))) _ _ s
 refine wpAny_evalAll_cons (Aa (Il (ha pins s σ H _ I h) λu s1 ⟨x,H1,I1,r1,q1⟩=>Aa (Bm (Ac ?_))));exact Il (hr pos pins s1 σ H1 _ I1 q1) λus s2 ⟨xs,H2,I2,r2,q2⟩=>⟨x::xs,H2,I2,.cons r1 r2,q2⟩
variable{g:List Value→List Value→List Value}{gV:List V→List V→List V}
end
structure FnScope(N P:List Str)(sc:Scope):Prop where
 kind:sc.kind= .function
 co:sc.isCoroutine=false
 gen:sc.isGenerator=false
 nd:N.Nodup
 pre:N.take P.length=P
 par:∀x∈P,sc.names.lookup x=some .local∨sc.names.lookup x=some .cell
 nofree:∀y∈sc.names,y.2≠ .free
theorem Vm{kindOf:Str→Option NameKind}{x:Str}:∀{binds:List (Str×Value)}{m:Str→Option Value},(∀v,(x,v) ∉ binds)→bindL kindOf binds m x=m x
 | [],_,_=>rfl
 | (n,v)::r,m,h=>by
  unfold bindL;rw[Vm λw hw=>h w (Ag _ hw)]
  split
  · have:x≠n:=by rintro rfl;exact h v Ai
    simp[this]
  · rfl
theorem Vk{kindOf:Str→Option NameKind}{x:Str}:∀{binds:List (Str×Value)}{m:Str→Option Value},(∀v,(x,v) ∉ binds)→bindC kindOf binds m x=m x
 | [],_,_=>rfl
 | (n,v)::r,m,h=>by
  unfold bindC;rw[Vk λw hw=>h w (Ag _ hw)]
  split
  · rfl
  · have:x≠n:=by rintro rfl;exact h v Ai
    simp[this]
theorem Vl{kindOf:Str→Option NameKind}{x:Str}{v:Value}:∀{P:List Str}{vs:List Value}{i:Nat}{m:Str→Option Value},P.Nodup→P[i]?=some x→vs[i]?=some v→kindOf x=some .local→
 bindL kindOf (P.zip vs) m x=some v
 | [],_,_,_,_,h,_,_=>by simp at h
 | _::_,[],_,_,_,_,h,_=>by simp at h
 | p::P,w::vs,0,m,nd,h1,h2,hk=>by simp at h1 h2;subst h1;subst h2;show bindL kindOf ((p,w)::P.zip vs) m p=_;unfold bindL;rw[Vm λv hv=>(Bv.mp nd).1 (Fw hv).1,if_pos hk];simp
 | p::P,w::vs,i+1,m,nd,h1,h2,hk=>by show bindL kindOf ((p,w)::P.zip vs) m x=_;unfold bindL;exact Vl (i:=i) (Bv.mp nd).2 (by simpa using h1) (by simpa using h2) hk
theorem Vj{kindOf:Str→Option NameKind}{x:Str}{v:Value}:∀{P:List Str}{vs:List Value}{i:Nat}{m:Str→Option Value},P.Nodup→P[i]?=some x→vs[i]?=some v→kindOf x≠some .local→
 bindC kindOf (P.zip vs) m x=some v
 | [],_,_,_,_,h,_,_=>by simp at h
 | _::_,[],_,_,_,_,h,_=>by simp at h
 | p::P,w::vs,0,m,nd,h1,h2,hk=>by simp at h1 h2;subst h1;subst h2;show bindC kindOf ((p,w)::P.zip vs) m p=_;unfold bindC;rw[Vk λv hv=>(Bv.mp nd).1 (Fw hv).1,if_neg hk];simp
 | p::P,w::vs,i+1,m,nd,h1,h2,hk=>by show bindC kindOf ((p,w)::P.zip vs) m x=_;unfold bindC;exact Vj (i:=i) (Bv.mp nd).2 (by simpa using h1) (by simpa using h2) hk
def LS(N:List Str)(vs:List V):St:=vs.map some++AL (N.length - vs.length) none
def KA(CX:Lo)(P:AY)(w:World)(K:Ad)(mg:Str→Option Value)(base:Heap)(N:List Str)(qual:Str)(scope:Scope)(f:Addr)(cd:Value)(A:BC)(outer:List Env)(s:Shared)(H:Hp)(E:XK):Cx where
 prog:=P
 w:=w
 K:=K
 mg:=mg
 base:=base
 A:=A.deeper (envOfC qual scope s.heap.objs.size f cd)
 N:=N
 s₀:=s
 H₀:=H
 env:=envOfC qual scope s.heap.objs.size f cd
 outer:=outer
 stack:=envOfC qual scope s.heap.objs.size f cd::outer
 ex:=[]
 calm:=true
 fn:=λ_=>true
 pn:=[]
 xe:=λe s'=>wpAny (model P w) (A.deeper (envOfC qual scope s.heap.objs.size f cd)) (leaving (envOfC qual scope s.heap.objs.size f cd) e) (λ_ s''=>CX outer H s E e s'') (λe' s''=>CX outer H s E e' s'') s'
theorem Ur{sc:Scope}{x:Str}(h:sc.names.lookup x=some .cell):∃c,(BO n sc.names []).lookup x=some c:=by have q:=CH sc.names n [] (.inl h);exact Fd.mp q
theorem Zp{CX:Lo}{P:AY}{w:World}{K:Ad}{mg:Str→Option Value}{base:Heap}{N ps:List Str}{qual:Str}{scope:Scope}{f:Addr}{cd:Value}{A:BC}{outer:List Env}{s s1:Shared}{H:Hp}{E:XK}{us:List Value}{vs:List V}
 (S:FnScope N ps scope) (hd:A.handled=none) (e0:Env0 P w K mg base A outer s H) (hl:vs.length=ps.length) (r:Vals vs us)
 (x:InCallC s s.heap.objs.size (bindL (envOfC qual scope s.heap.objs.size f cd).kindOf (ps.zip us) λ_=>none) (BO (s.heap.objs.size+1) scope.names []) (bindC (envOfC qual scope s.heap.objs.size f cd).kindOf (ps.zip us) λ_=>none) s1):
 Inv (KA CX P w K mg base N qual scope f cd A outer s H E) [] (LS N vs) H s1:=by
 have hpl:ps.length≤N.length:=by have:=congrArg Dk S.pre;rw[AA] at this;omega
 obtain⟨h1,tk,rfl,hk⟩:=x.done;have noA:∀b:Addr,b ∉ (KA CX P w K mg base N qual scope f cd A outer s H E).ex:=λb z=>absurd (show b∈([]:List Addr) from z) (by simp);refine⟨⟨e0.mod,S.kind,rfl,rfl,Af _,λy z c h1 h2=>?_,λy hy=>?_,λy c _ h=>?_,λ_=>hd,Around.frames_deeper e0.frames,.inr ⟨rfl,rfl⟩,λb z=>absurd z (noA b),e0.bs,e0.bsz,λb _ _=>noA b,λb z=>absurd z (noA b),e0.funs,e0.frf⟩,
  rfl,e0.bare,Un.kept hk,⟨_,x.toInCall.ns,λi y v h1 h2 h3=>?_⟩,λy c h=>⟨_,x.cell y c h⟩,e0.hok.fresh (Af _),λy c h=>?_,λp hp=>absurd (show p∈([]:List (Addr×Obj)) from hp) (by simp),e0.hok.kept hk,?_⟩
 · exact name_of_addr x.apart (Df h1) (Df h2)
 · have hy:scope.names.lookup y=some .cell∨scope.names.lookup y=some .free:=hy;rcases hy with hy | hy
   · exact Ur hy
   · exact absurd rfl (S.nofree _ (Df hy))
 · exact Bo (x.above y c (Df h))
 · have hi:i<vs.length:=by
    unfold LS at h2;by_cases hi:i<vs.length
    · exact hi
    · rw[Cr (by simpa using hi)] at h2;rw[List.getElem?_replicate] at h2
      split at h2<;>cases h2
   have ha:vs[i]?=some v:=by
    unfold LS at h2;rw[C4 (by simpa using hi),Aj] at h2;cases e:vs[i]? with
    | none=>rw[e] at h2;cases h2
    | some a=>rw[e] at h2;cases h2;rfl
   obtain⟨u,hu,rv⟩:=r.get ha;have hp:ps[i]?=some y:=by rw[←S.pre,List.getElem?_take_of_lt (by omega)];exact h1
   have ndP:ps.Nodup:=by rw[←S.pre];exact S.nd.sublist (DW _ _)
   refine⟨u,rv,?_⟩;rcases S.par y (Ak hp) with k | k
   · exact .inl ⟨k,Vl ndP hp hu k⟩
   · obtain⟨c,e⟩:=Ur (n:=s.heap.objs.size+1) k;refine .inr ⟨.inl k,c,e,?_⟩;have q:=x.cell y c e;rw[Vj ndP hp hu (by show scope.names.lookup y≠_;rw[k];decide)] at q;exact q
 · exact e0.hok.fresh (Bo (x.above y c (Df h)))
 · unfold LS;show _=N.length;rw[Aw,Ab,Bz];omega
theorem WN{CX:Lo}{P:AY}{w:World}{K:Ad}{mg:Str→Option Value}{base:Heap}{k:Nat}{f:Addr}{name qual:Str}{params:Arguments}{body:List Stmt}{scope:Scope}{dV kV doc pm cdv ct oc:Value}{an od:Option Addr}
 {osl:Array (Option Value)} {N ps:List Str} {sp:Sp} (lk:K.lookup f=some ⟨oc,od,.func (Dn name qual params body scope dV kV doc pm an cdv ct),osl⟩) (hcd:FM K cdv qual=true) (S:FnScope N ps scope)
 (len:∀vs H Q E,sp vs H Q E→vs.length=ps.length)
 (hbody:∀(A:BC)(outer:List Env)(s:Shared)(H:Hp)(vs:List V)(Q:VK)(E:XK),Room k (A.deeper (envOfC qual scope s.heap.objs.size f cdv))→sp vs H Q E→
  ∃t,PSs (KA CX P w K mg base N qual scope f cdv A outer s H E) body t∧t {nx:=λ_ H'=>Q .non H',rt:=Q} (LS N vs) H):
 FnOk P w K mg base CX (k+1) f (Dn name qual params body scope dV kV doc pm an cdv ct) ps sp:=by
 refine⟨len,λA outer s H args us vs Q E hr e0 hb r hsp=>?_⟩;have hl:=len _ _ _ _ hsp;have KX:K.In s.heap:=e0.mod.kin.keeps λb o e=>(e0.bs b o e).1;have lim:s.heap.NoLimit:=e0.mod.nolimit.keeps λb o e=>(e0.bs b o e).1;have hkind:∀y∈ps.zip us,scope.names.lookup y.1=some .local∨(scope.names.lookup y.1=some .cell∧((BO (s.heap.objs.size+1) scope.names []).lookup y.1).isSome=true):=λ⟨n,v⟩ hy=>by
  rcases S.par n (Fw hy).1 with q | q
  · exact .inl q
  · exact .inr ⟨q,CH _ _ _ (.inl q)⟩
 refine codeAny_call_function hr.depth (KX _ _ lk) rfl S.co S.gen rfl (PySem.W.codeRec_of KX hcd) (hb _ _ _ _ ?_);refine wpAny_newFunctionEnv_cells S.kind hkind λenv he s1 x=>?_;subst he;refine⟨lim.keeps x.toInCall.keep,codeAny_func ?_⟩;obtain⟨t,ht,hq⟩:=hbody A outer s H vs Q E (hr.deeper _) hsp;have I:Inv (KA CX P w K mg base N qual scope f cdv A outer s H E) [] (LS N vs) H s1:=Zp S hr.hd e0 hl r x;refine A0 (ht [] s1 (LS N vs) H _ I hq) (λfl s' hs=>?_) λe s' hs=>hs;have fin:∀{σ':St}{H':Hp}{v:V}{u:Value},Inv (KA CX P w K mg base N qual scope f cdv A outer s H E) [] σ' H' s'→RelV v u→Q v H'→CE outer P w H s Q u s':=
  λ{σ' H' v u}J rv q=>⟨v,H',J.os,J.bare,J.base,J.hok,rv,q⟩
 cases fl with
 | ret u=> obtain⟨v,σ',H',J,rv,q⟩:=hs;exact fin J rv q
 | next=> obtain⟨σ',H',J,q⟩:=hs;exact fin (v:=V.non) (u:=Value.none) J rfl q
 | brk=> obtain⟨_,_,_,q⟩:=hs;exact CZ q
 | cont=> obtain⟨_,_,_,q⟩:=hs;exact CZ q
section
variable{X:Cx}{x:Str}{p:Pos}{es:List Expr}{t:TA}{id T:String}{r:List V→Hp→VK→Prop}
def Wg(r:List V→Hp→VK→Prop)(t:TA):TE:=λσ H Q=>t σ H λvs H1=>r vs H1 Q
theorem IB(hc:Kp X (.builtin id) r)(hg:Gl X x)(hm:X.mg x=none)(hv:AW x=some (.builtin id))(ha:PA X (e::es) t)(hn:x≠"__name__":=by decide)(hdb:(x==("__debug__":Str))=false:=by decide)
 (he:A7 (e::es) X.env=(false,eval e X.env)::A7 es X.env:=by rfl) (hpl:(backTo pos (A7 es X.env)).any (·.1)=false:=by rfl):PE X (.Call (.Name x p) (e::es) [] pos) (Wg r t):=by
 intro pins s σ H Q I h;refine Bt (KH I hg hm hv ?_ hn hdb);exact Dh (Il (ha pos pins s σ H _ I h) λus s1 ⟨vs,H1,I1,r1,q1⟩=>hc pins s1 σ H1 vs us Q I1 r1 q1) he hpl
theorem M3(hc:Kp X (.type T) r)(hg:Gl X x)(hm:X.mg x=none)(hv:AW x=some (.type T))(ha:PA X (e::es) t)(hn:x≠"__name__":=by decide)(hdb:(x==("__debug__":Str))=false:=by decide)
 (he:A7 (e::es) X.env=(false,eval e X.env)::A7 es X.env:=by rfl) (hpl:(backTo pos (A7 es X.env)).any (·.1)=false:=by rfl):PE X (.Call (.Name x p) (e::es) [] pos) (Wg r t):=by
 intro pins s σ H Q I h;refine Bt (KH I hg hm hv ?_ hn hdb);exact By (Il (ha pos pins s σ H _ I h) λus s1 ⟨vs,H1,I1,r1,q1⟩=>hc pins s1 σ H1 vs us Q I1 r1 q1) he hpl
end
end L2
variable{H:L2.Hp}{X:L2.Cx}{σ:L2.St}{xs:List L2.V}{x:PySem.Str}
namespace HT
open PySem PyProof.Rows
section
open PySem.SeqAt
open PySem.AutoSeq1 (wpAny_loadPart')
open PySem.MeetsSeq PySem.MeetsSeq2 PySem.MeetsSeq3
end
theorem cat_tup{t:Addr}{vs ws:List Value}{Q:Value→Shared→Prop}(ht:IsTup s.heap t vs.toArray)(hb:IsTup s.heap b ws.toArray)(hv:vs≠[])
 (h1:ws=[]→Q (.ref t) s) (h2:ws≠[]→Q (.ref s.heap.objs.size) {s with heap:=s.heap.push {cls:= .type "tuple",data:= .seq (vs++ws).toArray}})
 (hsz:vs.length+ws.length≤A1):wpAny (model prog w) A (binaryOp .Add (.ref t) (.ref b)) Q E s:=by
 obtain⟨⟨cls,dd,data,sl⟩,ho,hc,n,hd⟩:=id ht;obtain⟨⟨cls2,dd2,data2,sl2⟩,ho2,hc2,n2,hd2⟩:=id hb;simp only at hc hd hc2 hd2;subst hc hd hc2 hd2;have e:vs.toArray++ws.toArray=(vs++ws).toArray:=by simp
 by_cases hw:ws=[]
 · exact concat_meets ⟨_,ho,rfl⟩ ⟨_,ho2,rfl⟩ noFill_tuple_add seq_tuple_add Eb DR (DH _ _)
    (tuple_addW1 t b vs.toArray ws.toArray n n2 dd dd2 sl sl2 (by simpa using hv) (by simp[hw])) ⟨ho,ho2,h1 hw⟩
 · refine concat_meets ⟨_,ho,rfl⟩ ⟨_,ho2,rfl⟩ noFill_tuple_add seq_tuple_add Eb DR (DH _ _)
    (tuple_addW2 t b vs.toArray ws.toArray n n2 dd dd2 sl sl2 (by simpa using hv) (by simpa using hw) (by rw[As,As];exact hsz)) ⟨ho,ho2,?_⟩
   rw[e];exact h2 hw
def sIx(n d:Nat):Option Int→Nat
 | none=>d
 | some v=>if v<0 then(v+(n:Int)).toNat else min v.toNat n
theorem sIx_none(n d:Nat):sIx n d none=d:=rfl
theorem sIx_nat(n d k:Nat):sIx n d (some (k:Int))=min k n:=by
 show(if(k:Int)<0 then((k:Int)+(n:Int)).toNat else min (k:Int).toNat n)=min k n
 rw[if_neg (by omega),CV]
theorem XH(n d:Nat)(hd:d≤n)(o:Option Int):sIx n d o≤n:=by
 cases o with
 | none=>exact hd
 | some v=>
  show(if v<0 then(v+(n:Int)).toNat else min v.toNat n)≤n
  by_cases hv:v<0
  · rw[if_pos hv];omega
  · rw[if_neg hv];exact Nat.min_le_right _ _
theorem TB(v:Int)(n d:Nat):(if v<0 then max (v+(n:Int)) 0 else min v (n:Int))=((sIx n d (some v):Nat):Int):=by
 show(if v<0 then max (v+(n:Int)) 0 else min v (n:Int))=(((if v<0 then(v+(n:Int)).toNat else min v.toNat n):Nat):Int)
 by_cases hv:v<0
 · simp only[if_pos hv];omega
 · simp only[if_neg hv];omega
theorem zi5(lo hi:Option Int)(n:Nat):D8 lo hi 1 (n:Int)=(((sIx n 0 lo:Nat):Int),((sIx n n hi:Nat):Int)):=by
 have h1:¬((1:Int)<0):=by omega
 unfold D8;simp only[h1,if_false];refine Prod.ext ?_ ?_
 · cases lo with
   | none=>rfl
   | some v=>exact TB v n 0
 · cases hi with
   | none=>rfl
   | some v=>exact TB v n n
theorem ziI(i j:Nat):C_ (i:Int) (j:Int) 1=j - i:=by
 unfold C_;have h1:(1:Int)>0:=by omega
 simp only[h1,if_true,Int.ediv_one]
 split<;>omega
theorem VR{v:Value}{o:Option Int}{Q:Option Int→Shared→Prop}(p:IsPart v o)(h:Q o s):wpAny (model prog w) A (Builtin.Slice.slicePartIndex v) Q E s:=by
 cases p with
 | none=>exact slicePart_none h
 | int i t=>exact slicePart_int h
theorem sliceApplied_gen{sl:Addr}{vl vu:Value}{lo hi:Option Int}{n:Nat}{Q:Int×Int×Nat→Shared→Prop}(hs:s.heap.IsSliceOf sl vl vu .none)(pl:IsPart vl lo)(pu:IsPart vu hi)
 (h:Q (((sIx n 0 lo:Nat):Int),1,sIx n n hi - sIx n 0 lo) s):wpAny (model prog w) A (EM (.ref sl) (pure (n:Int))) Q E s:=by
 obtain⟨os,hos,hcs,hds⟩:=id hs;unfold EM Builtin.Slice.sliceFields;refine Aa (Aa (Bu hos hds (x:=vl) rfl (Aa (Bu hos hds (x:=vu) rfl (Aa (Bu hos hds (x:= .none) rfl (Ac ?_)))))));refine Aa (slicePart_none ?_);show wpAny _ _ (if((1:Int)==0)=true then _ else _) _ _ s
 rw[if_neg (by decide)];refine Aa (VR pl (Aa (VR pu (Aa (Ac ?_)))));show wpAny _ _ (match D8 lo hi 1 (n:Int) with | (lo,hi)=>pure (lo,(1:Int),C_ lo hi 1)) _ _ s
 rw[zi5 lo hi n];show wpAny _ _ (pure (((sIx n 0 lo:Nat):Int),(1:Int),C_ ((sIx n 0 lo:Nat):Int) ((sIx n n hi:Nat):Int) 1)) _ _ s;rw[ziI];exact Ac h
theorem Y8(xs:Array Value)(i k:Nat):((AJ k).filterMap λ(m:Nat)=>xs[((i:Int)+(m:Int)*1).toNat]?).toArray=((xs.toList.drop i).take k).toArray:=by
 have e:(λ(m:Nat)=>xs[((i:Int)+(m:Int)*1).toNat]?)=λm=>xs[i+m]?:=by
  funext m;have:((i:Int)+(m:Int)*1).toNat=i+m:=by omega
  rw[this]
 rw[e];have:=pick_run xs i k;rw[List.filterMap_map] at this;have e2:((λx=>xs[x]?)∘λx=>i+x)=λm=>xs[i+m]?:=rfl;rw[e2] at this;rw[this]
theorem getItem_tuple_cut{t sl:Addr}{items:Array Value}{vl vu:Value}{lo hi:Option Int}{Q:Value→Shared→Prop}(ht:IsTup s.heap t items)(hs:s.heap.IsSliceOf sl vl vu .none)(pl:IsPart vl lo)(pu:IsPart vu hi)
 (hw:¬(sIx items.size 0 lo=0∧sIx items.size items.size hi=items.size))
 (h:Q (.ref s.heap.objs.size) {s with heap:=s.heap.push {cls:= .type "tuple",data:= .seq ((items.toList.drop (sIx items.size 0 lo)).take (sIx items.size items.size hi - sIx items.size 0 lo)).toArray}})
 (hsz:items.size≤A1):wpAny (model prog w) A (getItem (.ref t) (.ref sl)) Q E s:=by
 have htake:sizeOk (.seq ((items.toList.drop (sIx items.size 0 lo)).take (sIx items.size items.size hi - sIx items.size 0 lo)).toArray):=by show((items.toList.drop (sIx items.size 0 lo)).take (sIx items.size items.size hi - sIx items.size 0 lo)).toArray.size≤A1;rw[As,AA,Dw,A6];omega
 have hj:sIx items.size items.size hi≤items.size:=XH _ _ (Af _) hi;obtain⟨os,hos,hcs,hds⟩:=id hs;have hTs:s.TypeIs (.ref sl) "slice":=⟨os,hos,hcs⟩;unfold getItem
 try with_reducible refine AZ ?_
 first | refine Aa (Ac ?_) | skip
 refine Aa (ET ht.typeIs (by decide) ?_);refine Aa (Bn (name:=Ca "__getitem__") ht.typeIs BB
  (Bb BB ht.typeIs entry_tuple_getitem ?_ (args_tuple_getitem _ _)))
 show wpAny _ _ (D2 (.ref t)>>=_) _ _ s;refine Aa (tupleItemsOf_ ht ?_);refine Aa (Do hTs ?_);rw[if_pos (by decide)];refine Aa (sliceApplied_gen hs pl pu ?_);have hno:¬((((sIx items.size 0 lo:Nat):Int)==0 && (1:Int)==1 && (sIx items.size items.size hi - sIx items.size 0 lo)==items.size)=true):=by intro q;rw[AM,AM] at q;have q1:((sIx items.size 0 lo:Nat):Int)=0:=eq_of_beq q.1.1;have q2:sIx items.size items.size hi - sIx items.size 0 lo=items.size:=eq_of_beq q.2;exact hw ⟨by omega,by omega⟩
 show wpAny _ _ (if(((sIx items.size 0 lo:Nat):Int)==0 && (1:Int)==1 && (sIx items.size items.size hi - sIx items.size 0 lo)==items.size)=true then _ else _) _ _ s
 rw[if_neg hno,Y8]
 first
  | exact Aa (m:=Dc _) (Be (Ac ⟨_,rfl,Ac h⟩) htake)
  | exact Aa (m:=Dc _) (Be (Aa (Ac (Ac ⟨_,rfl,Ac h⟩))) htake)
  | exact Aa (Aa (m:=Dc _) (Be (Ac (Ac ⟨_,rfl,Ac h⟩)) htake))
  | exact Aa (Aa (m:=Dc _) (Be (Ac ⟨_,rfl,Ac h⟩) htake))
end HT
namespace L2
abbrev TO:=St→Hp→(Option Int→Hp→Prop)→Prop
def PO(X:Cx)(e:Option Expr)(t:TO):Prop:=
 ∀(pins:List (Addr×Obj))(s:Shared)(σ:St)(H:Hp)(Q:Option Int→Hp→Prop),Inv X pins σ H s→t σ H Q→
  wpAny (model X.prog X.w) X.A (evalPart e X.env) (λu s'=>∃o H',Inv X pins σ H' s'∧IsPart u o∧Q o H') X.xe s
def Ua:TO:=λ_ H Q=>Q none H
def Wr(t:TE):TO:=λσ H Q=>t σ H λx H1=>∃i,x= .int i∧Q (some i) H1
section
variable{te:TE}{lo hi:Option Expr}{tl th:TO}{p2:Pos}
theorem Lb:PO X none Ua:=by intro pins s σ H Q I h;rw[evalPart_none];exact Ac ⟨none,H,I,.none,h⟩
theorem Lc(h:PE X e te):PO X (some e) (Wr te):=by intro pins s σ H Q I hw;rw[evalPart_some];refine Il (h pins s σ H _ I hw) λu s1 ⟨x,H1,I1,r1,q1⟩=>?_;obtain⟨i,rfl,q⟩:=q1;obtain⟨t,rfl⟩:=r1;exact⟨some i,H1,I1,.int i t,q⟩
def Nh(X:Cx)(r:V→Option Int→Option Int→Hp→VK→Prop):Prop:=
 ∀(pins:List (Addr×Obj))(s:Shared)(σ:St)(H:Hp)(x:V)(v vl vu:Value)(lo hi:Option Int)(sl:Addr)(Q:VK),Inv X pins σ H s→RelV x v→s.heap.IsSliceOf sl vl vu .none→IsPart vl lo→IsPart vu hi→r x lo hi H Q→
  ∃T id,typeLookup (.type T) "__getitem__"=pure (some (.builtin id))∧s.TypeIs v T∧wpAny (model X.prog X.w) X.A (getItem v (.ref sl)) (EP X pins σ Q) X.xe s
def tSl(r:V→Option Int→Option Int→Hp→VK→Prop)(te:TE)(tl th:TO):TE:=λσ H Q=>te σ H λx H1=>tl σ H1 λl H2=>th σ H2 λu H3=>r x l u H3 Q
theorem KW{r:V→Option Int→Option Int→Hp→VK→Prop}(hr:Nh X r)(he:PE X e te)(hl:PO X lo tl)(hu:PO X hi th):PE X (.Subscript e (.Slice lo hi none p2) pos) (tSl r te tl th):=by
 intro pins s σ H Q I h;refine Subscript_ (Il (he pins s σ H _ I h) λv s1 ⟨x,H1,I1,r1,q1⟩=>?_);refine wpAny_Slice (Il (hl pins s1 σ H1 _ I1 q1) λvl s2 ⟨l,H2,I2,pl,q2⟩=>Il (hu pins s2 σ H2 _ I2 q2) λvu s3 ⟨u,H3,I3,pu,q3⟩=>?_);rw[evalPart_none];refine Ac ?_;have I4:Inv X pins σ H3 {s3 with heap:=s3.heap.push {cls:= .type "slice",data:= .fields #[vl,vu,.none]}}:=I3.kept (t':=s3.toks) λb ob q=>Ae _ q
 obtain⟨T,id,hT,ht,hg⟩:=hr pins {s3 with heap:=s3.heap.push {cls:= .type "slice",data:= .fields #[vl,vu,.none]}} σ H3 x v vl vu l u s3.heap.objs.size Q I4 r1 (Heap.IsSliceOf.new ..) pl pu q3;show wpAny (model X.prog X.w) X.A (subscriptTail e (.Slice lo hi none p2) v (.ref s3.heap.objs.size)) (EP X pins σ Q) X.xe {s3 with heap:=s3.heap.push {cls:= .type "slice",data:= .fields #[vl,vu,.none]}};exact tail_any (ops:=[.ref s3.heap.objs.size,v]) ht hT hg (by with_unfolding_all rfl)
def Jd(xs:List V)(lo hi:Option Int):List V:=(xs.drop (HT.sIx xs.length 0 lo)).take (HT.sIx xs.length xs.length hi - HT.sIx xs.length 0 lo)
theorem VJ(xs:List V)(lo hi:Option Int):(Jd xs lo hi).length≤xs.length:=by unfold Jd;rw[AA,Dw];omega
def R0(K:Ad):V→Option Int→Option Int→Hp→VK→Prop:=λx lo hi H Q=>∃a xs,x= .ref a∧SqT K H a xs∧
 ¬(HT.sIx xs.length 0 lo=0∧HT.sIx xs.length xs.length hi=xs.length)∧∀p,H p=none→Q (.ref p) (upd H p (.tup (Jd xs lo hi)))
theorem XI:Nh X (R0 X.K):=by
 intro pins s σ H x v vl vu lo hi sl Q I rx hs pl pu h;obtain⟨a,xs,rfl,hx,hw,q⟩:=h;cases rx;obtain⟨its,r,ht,hz⟩:=I.tuple hx;have hlen:its.toArray.size=xs.length:=by rw[As];exact r.length.symm
 refine⟨"tuple",_,BB.lookup,ht.typeIs,?_⟩;refine HT.getItem_tuple_cut ht hs pl pu (by rw[hlen];exact hw) ?_ (by rw[hlen];exact hz);rw[hlen];refine⟨.ref s.heap.objs.size,_,I.laid (t':=s.toks) (o:= .tup (Jd xs lo hi)) (λb ob q=>Ae _ q) (Af _) ?_,rfl,q _ (I.hok.fresh (Af _))⟩;exact⟨A4 (VJ xs lo hi) hz,_,(r.drop (HT.sIx xs.length 0 lo)).take (HT.sIx xs.length xs.length hi - HT.sIx xs.length 0 lo),IsTupP.new _ _⟩
theorem Vals.nil_iff(r:Vals xs us):us=[]↔xs=[]:=by
 cases r with
 | nil=>simp
 | cons _ _=>simp
end
def L3(n:Nat)(i:Int):Option Nat:=if 0≤i then(if i<n then some i.toNat else none) else if -(n:Int)≤i then some (i+n).toNat else none
def Jp{α:Type}(xs:List α)(i:Int):Option α:=(L3 xs.length i).bind λj=>xs[j]?
theorem PF{i:Int}{j:Nat}(h:L3 n i=some j):seqIndex? i n=some j∧j<n∧ -(n:Int)≤i∧i<n:=by
 unfold L3 at h;by_cases h0:0≤i
 · rw[if_pos h0] at h;by_cases h1:i<n
   · rw[if_pos h1] at h;have e:i.toNat=j:=AD h;exact⟨by rw[seqIndex_of h0 h1,e],by omega,by omega,h1⟩
   · rw[if_neg h1] at h;cases h
 · rw[if_neg h0] at h;by_cases h1: -(n:Int)≤i
   · rw[if_pos h1] at h;have e:(i+n).toNat=j:=AD h;exact⟨by rw[seqIndex_neg (by omega) h1,e],by omega,h1,by omega⟩
   · rw[if_neg h1] at h;cases h
theorem PU{α:Type}{xs:List α}{i:Int}{v:α}(h:Jp xs i=some v):∃j,seqIndex? i xs.length=some j∧xs[j]?=some v∧j<xs.length∧ -(xs.length:Int)≤i∧i<xs.length:=by
 unfold Jp at h;cases e:L3 xs.length i with
 | none=>rw[e] at h;cases h
 | some j=> rw[e] at h;obtain⟨h1,h2,h3,h4⟩:=PF e;exact⟨j,h1,h,h2,h3,h4⟩
theorem JN{α:Type}{xs:List α}{j:Nat}{v:α}(h:xs[j]?=some v):Jp xs (j:Int)=some v:=by
 have hj:j<xs.length:=(Al.mp h).1;have e:L3 xs.length (j:Int)=some j:=by unfold L3;rw[if_pos (by omega),if_pos (by omega)];simp
 unfold Jp;rw[e];exact h
def Xo(b:Expr):Prop:=∀o i,subscripted b false o i=operate [o,i] (getItem o i)
def Mj(X:Cx)(r:R2):Prop:=
 ∀(value slice:Expr)(pins:List (Addr×Obj))(s:Shared)(σ:St)(H:Hp)(x y:V)(v u:Value)(Q:VK),Inv X pins σ H s→RelV x v→RelV y u→r x y H Q→
  subscripted slice false v u=operate [v,u] (getItem v u)→wpAny (model X.prog X.w) X.A (subscriptTail value slice v u) (EP X pins σ Q) X.xe s
def Wp(X:Cx)(id:String)(r:V→List V→Hp→VK→Prop):Prop:=
 ∀(pins:List (Addr×Obj))(s:Shared)(σ:St)(H:Hp)(x:V)(xs:List V)(v:Value)(us:List Value)(Q:VK),Inv X pins σ H s→RelV x v→Vals xs us→r x xs H Q→
  wpAny (model X.prog X.w) X.A (call (.builtin id) (v::us)) (EP X pins σ Q) X.xe s
section
variable{a b:Expr}{ta tb:TE}
theorem IE{r:R2}(hr:Mj X r)(ha:PE X a ta)(hb:PE X b tb)(hs:Xo b):PE X (.Subscript a b pos) (MZ r ta tb):=by intro pins s σ H Q I h;exact Subscript_ (M8 ha hb I h λv u s2 x y H2 I2 rx ry q=>hr a b pins s2 σ H2 x y v u Q I2 rx ry q (hs _ _))
def NW(K:Ad):R2:=λx y H Q=>∃p xs i v,x= .ref p∧y= .int i∧SqL K H p xs∧Jp xs i=some v∧Q v H
def NV(K:Ad):R2:=λx y H Q=>∃p xs i v,x= .ref p∧y= .int i∧SqT K H p xs∧Jp xs i=some v∧Q v H
def R4:R2:=λx y H Q=>∃z i c,x= .str z∧y= .int i∧z.length≤A1∧Jp z.cps.toList i=some c∧Q (.str ⟨#[c]⟩) H
theorem IV:Mj X (NW X.K):=by
 intro value slice pins s σ H x y v u Q I rx ry h hs;obtain⟨p,xs,i,z,rfl,rfl,hq,he,q⟩:=h;cases rx;obtain⟨t,rfl⟩:=ry;obtain⟨its,r,pl,hz⟩:=I.list hq;obtain⟨j,h1,h2,h3,h4,h5⟩:=PU he;obtain⟨w,ew,rw'⟩:=r.get h2;have hl:=r.length;have hn:=ML;have fin:EP X pins σ Q w s:=⟨z,H,I,rw',q⟩;by_cases h0:0≤i
 · have hj:i.toNat=j:=by
    rw[seqIndex_of h0 h5] at h1;exact AD h1
   exact item_listR pl.isList h0 (by omega) (by rw[hj];simpa using ew) fin hs
 · have hj:(i+(its.toArray.size:Int)).toNat=j:=by
    rw[seqIndex_neg (by omega) h4] at h1;rw[As,←hl];exact AD h1
   exact F9 (x:=w) pl.isList.typeIs EU.lookup
    (wpAny_getItem_list_neg (Q:=λr s'=>r=w∧EP X pins σ Q r s') pl.isList (by omega) (by rw[As]<;>omega) (by omega) (by rw[hj];simpa using ew) ⟨rfl,fin⟩) hs
theorem Kk:Mj X (NV X.K):=by
 intro value slice pins s σ H x y v u Q I rx ry h hs;obtain⟨p,xs,i,z,rfl,rfl,hq,he,q⟩:=h;cases rx;obtain⟨t,rfl⟩:=ry;obtain⟨its,r,pl,hz⟩:=I.tuple hq;obtain⟨j,h1,h2,h3,h4,h5⟩:=PU he;obtain⟨w,ew,rw'⟩:=r.get h2;have hl:=r.length;have hn:=ML;have fin:EP X pins σ Q w s:=⟨z,H,I,rw',q⟩;exact F9 (x:=w) pl.typeIs slot_tuple_getitem.lookup
  (getItem_tuple (j:=j) (Q:=λr s'=>r=w∧EP X pins σ Q r s') pl (by omega) (by omega) (by rw[As,←hl];exact h1) (by simpa using ew) ⟨rfl,fin⟩) hs
theorem SI:Mj X R4:=by
 intro value slice pins s σ H x y v u Q I rx ry h hs;obtain⟨z,i,c,rfl,rfl,hz,he,q⟩:=h;obtain⟨t,rfl⟩:=rx;obtain⟨t',rfl⟩:=ry;obtain⟨j,h1,h2,h3,h4,h5⟩:=PU he;have hl:z.cps.toList.length=z.length:=by simp[Str.length]
 rw[hl] at h1 h4 h5;have hn:=ML;exact tail_any (typeIs_str s z t) slot_str_getitem.lookup (getItem_str (c:=c) (by have e1:decide (i< -(2^63:Int))=false:=decide_eq_false (by omega);have e2:decide (i≥2^63)=false:=decide_eq_false (by omega);rw[e1,e2,Bool.or_false]) (by rw[h1];simpa using h2) ⟨.str ⟨#[c]⟩,H,I.tok _,⟨_,rfl⟩,q⟩) hs
theorem ziV(its:List Value)(n j:Nat)(u:Value):AN (·.setIfInBounds j u) {cls:= .type "list",data:= .seq its.toArray n}={cls:= .type "list",data:= .seq (its.set j u).toArray n}:=by simp[AN]
theorem Inv.lst{p:Addr}(I:Inv X pins σ H s)(h:H p=some (.lst xs)):
 ∃(its:List Value)(n:Nat),Vals xs its∧s.heap.get? p=some {cls:= .type "list",data:= .seq its.toArray n}∧xs.length≤A1:=by
 obtain⟨z,its,n,r,e⟩:=I.hok p _ h;exact⟨its,n,r,e,z⟩
theorem Inv.lstUpd{p:Addr}{ys:List V}{its its':List Value}{n n':Nat}{f:Obj→Obj}(I:Inv X pins σ H s)(h:H p=some (.lst xs))
 (ho:s.heap.get? p=some {cls:= .type "list",data:= .seq its.toArray n}) (hf:f {cls:= .type "list",data:= .seq its.toArray n}={cls:= .type "list",data:= .seq its'.toArray n'}) (r:Vals ys its') (hz:ys.length≤A1) (t:Nat):
 Inv X pins σ (upd H p (.lst ys)) {s with heap:=s.heap.update p f,toks:=t}:=by
 have e:(s.heap.update p f).get? p=some {cls:= .type "list",data:= .seq its'.toArray n'}:=by rw[Dp f ho (by rw[hf]<;>rfl),hf]
 refine I.write (x:=p) (e:=p) (by rw[h];trivial) (.inl rfl) (λb u hb q=>(FB _ _ (CL hb)).trans q) ⟨_,e⟩ ?_;exact⟨hz,its',n',r,e⟩
def Xa:V→V→V→Hp→(Hp→Prop)→Prop:=λo i v H Q=>∃p xs k j,o= .ref p∧i= .int k∧H p=some (.lst xs)∧L3 xs.length k=some j∧Q (upd H p (.lst (xs.set j v)))
theorem NG:Ot X Xa:=by
 intro pins s σ H o i v ov iv u Q I ro ri rv h;obtain⟨p,xs,k,j,rfl,rfl,hp,hj,q⟩:=h;cases ro;obtain⟨t,rfl⟩:=ri;obtain⟨its,n,r,ho,hz⟩:=I.lst hp;obtain⟨h1,h2,h3,h4⟩:=PF hj;have hl:=r.length;have hn:=ML;have I':Inv X pins σ (upd H p (.lst (xs.set j v))) {s with heap:=s.heap.update p (AN (·.setIfInBounds j u))}:=
  I.lstUpd hp ho (ziV its n j u) (r.set rv j) (by rw[List.length_set];exact hz) s.toks
 by_cases h0:0≤k
 · have hk:k.toNat=j:=by
    rw[seqIndex_of h0 h4] at h1;exact AD h1
   exact PySem.W.ki_setAt ho h0 (by omega) (by rw[As,←hl];exact h4) (by rw[hk];exact⟨_,I',q⟩)
 · have hk:(k+(its.toArray.size:Int)).toNat=j:=by
    rw[seqIndex_neg (by omega) h3] at h1;rw[As,←hl];exact AD h1
   exact PySem.W.ki_setBack ho (by omega) (by rw[As,←hl];exact h3) (by omega) (by rw[hk];exact⟨_,I',q⟩)
theorem zgi(lo hi:Option Int)(n:Nat):(sliceBounds lo hi none n).1=((HT.sIx n 0 lo:Nat):Int)∧(sliceBounds lo hi none n).2.1=((HT.sIx n n hi:Nat):Int)∧(sliceBounds lo hi none n).2.2=1:=by
 refine⟨?_,?_,rfl⟩
 · cases lo with
   | none=>simp[sliceBounds,HT.sIx]
   | some i=>
    simp only[sliceBounds,HT.sIx,Fe,show(1:Int)>0 by decide,if_true];by_cases h:i<0
    · simp only[h,if_true]<;>omega
    · simp only[h,if_false]<;>omega
 · cases hi with
   | none=>simp[sliceBounds,HT.sIx]
   | some i=>
    simp only[sliceBounds,HT.sIx,Fe,show(1:Int)>0 by decide,if_true];by_cases h:i<0
    · simp only[h,if_true]<;>omega
    · simp only[h,if_false]<;>omega
theorem zfj(its:List Value)(lo hi:Option Int):slicePick its.toArray lo hi none=((its.drop (HT.sIx its.length 0 lo)).take (HT.sIx its.length its.length hi - HT.sIx its.length 0 lo)).toArray:=by obtain⟨h1,h2,h3⟩:=zgi lo hi its.toArray.size;unfold slicePick;rw[h1,h2,h3];simp only[sliceRange_one,pick_run,As]<;>rfl
def R1(K:Ad):V→Option Int→Option Int→Hp→VK→Prop:=λx lo hi H Q=>∃a xs,x= .ref a∧SqL K H a xs∧∀p,H p=none→Q (.ref p) (upd H p (.lst (Jd xs lo hi)))
theorem Nt:Nh X (R1 X.K):=by intro pins s σ H x v vl vu lo hi sl Q I rx hs pl pu h;obtain⟨a,xs,rfl,hx,q⟩:=h;cases rx;obtain⟨its,r,ht,hz⟩:=I.list hx;have hlen:=r.length;refine⟨"list",_,EU.lookup,ht.isList.typeIs,?_⟩;refine Ff ht.isList hs pl pu .none (by simp) ?_ (by rw[As]<;>omega);rw[zfj,←hlen];refine⟨.ref s.heap.objs.size,_,I.laid (t':=s.toks) (o:= .lst (Jd xs lo hi)) (λb ob q=>Ae _ q) (Af _) ?_,rfl,q _ (I.hok.fresh (Af _))⟩;exact⟨A4 (VJ xs lo hi) hz,_,0,(r.drop (HT.sIx xs.length 0 lo)).take (HT.sIx xs.length xs.length hi - HT.sIx xs.length 0 lo),Ay _ rfl⟩
def Lp:V→Bool
 | .non=>true
 | .bl _=>true
 | .int _=>true
 | .str _=>true
 | _=>false
def L4:V→V→Bool
 | .non,.non=>true
 | .bl a,.bl b=>a==b
 | .bl a,.int b=>(if a then 1 else 0)==b
 | .int a,.bl b=>a==(if b then 1 else 0)
 | .int a,.int b=>a==b
 | .str a,.str b=>a==b
 | _,_=>false
theorem WC{y x:V}{v:Value}(ry:RelV y u)(rx:RelV x v)(fy:Lp y=true)(fx:Lp x=true):Eo A s u v (L4 y x):=by
 cases y with
 | non=>
  cases ry;cases x with
  | non=>cases rx;exact Ep _
  | bl b=>cases rx;exact FY b
  | int b=>obtain⟨t,rfl⟩:=rx;exact Ex b t
  | str b=>obtain⟨t,rfl⟩:=rx;exact Ey b t
  | _=>exact absurd (show false=true from fx) Ar
 | bl a=>
  cases ry;cases x with
  | non=>cases rx;exact FZ a
  | bl b=>cases rx;exact F_ a b
  | int b=>obtain⟨t,rfl⟩:=rx;exact Ge a b t
  | str b=>obtain⟨t,rfl⟩:=rx;exact Gf a b t
  | _=>exact absurd (show false=true from fx) Ar
 | int a=>
  obtain⟨t',rfl⟩:=ry;cases x with
  | non=>cases rx;exact Ez a t'
  | bl b=>cases rx;exact Gg a t' b
  | int b=>obtain⟨t,rfl⟩:=rx;exact SeqAt.EqAt.int_int a t' b t
  | str b=>obtain⟨t,rfl⟩:=rx;exact DE a t' b t
  | _=>exact absurd (show false=true from fx) Ar
 | str a=>
  obtain⟨t',rfl⟩:=ry;cases x with
  | non=>cases rx;exact E2 a t'
  | bl b=>cases rx;exact Gh a t' b
  | int b=>obtain⟨t,rfl⟩:=rx;exact DF a t' b t
  | str b=>obtain⟨t,rfl⟩:=rx;exact SeqAt.EqAt.str_str a t' b t
  | _=>exact absurd (show false=true from fx) Ar
 | _=>exact absurd (show false=true from fy) Ar
def Kv(x:V)(u:Value):Bool:=match u with
 | .none=>L4 .non x
 | .bool b=>L4 (.bl b) x
 | .int i _=>L4 (.int i) x
 | .str z _=>L4 (.str z) x
 | _=>false
theorem SG{x y:V}(r:RelV y u)(f:Lp y=true):Kv x u=L4 y x:=by
 cases y with
 | non=>cases r;rfl
 | bl b=>cases r;rfl
 | int i=>obtain⟨t,rfl⟩:=r;rfl
 | str z=>obtain⟨t,rfl⟩:=r;rfl
 | _=>exact absurd (show false=true from f) Ar
theorem Nv{x:V}:∀{xs:List V}{us:List Value},Vals xs us→xs.all Lp=true→us.any (Kv x)=xs.any λy=>L4 y x
 | _,_,.nil,_=>rfl
 | y::xs,u::us,.cons r t,f=>by rw[C9,AM] at f;rw[BV,BV,SG r f.1,Nv t f.2]
theorem Nx{x:V}{v:Value}(rx:RelV x v)(fx:Lp x=true):∀{xs:List V}{us:List Value},Vals xs us→xs.all Lp=true→∀u∈us,Eo A s u v (Kv x u)
 | _,_,.nil,_=>λu hu=>by cases hu
 | y::xs,u::us,.cons r t,f=>λu' hu=>by
  rw[C9,AM] at f;rcases An.mp hu with rfl | hu
  · rw[SG r f.1];exact WC r rx f.1 fx
  · exact Nx rx fx t f.2 u' hu
def Nb(x:V)(xs:List V):Bool:=xs.any λy=>L4 y x
def Na(K:Ad)(neg:Bool):R2:=λx y H Q=>∃p xs,y= .ref p∧(SqL K H p xs∨SqT K H p xs)∧Lp x=true∧xs.all Lp=true∧Q (.bl (if neg then !Nb x xs else Nb x xs)) H
theorem UT:IY X (A_ .In) (Na X.K false):=by
 intro pins s σ H x y v u Q I rx ry h;obtain⟨p,xs,rfl,hq,fx,fs,q⟩:=h;cases ry;rcases hq with hq | hq
 · obtain⟨its,r,pl,hz⟩:=I.list hq;refine SeqAt.in_listAt (Kv x) pl.isList (λw hw=>Nx rx fx r fs w (by simpa using hw)) ⟨.bl _,H,I,rfl,?_⟩;rw[show its.toArray.any (Kv x)=its.any (Kv x) by simp,Nv r fs];exact q
 · obtain⟨its,r,pl,hz⟩:=I.tuple hq;refine SeqAt.in_tupleAt (Kv x) pl (λw hw=>Nx rx fx r fs w (by simpa using hw)) ⟨.bl _,H,I,rfl,?_⟩;rw[show its.toArray.any (Kv x)=its.any (Kv x) by simp,Nv r fs];exact q
theorem QO:IY X (A_ .NotIn) (Na X.K true):=by
 intro pins s σ H x y v u Q I rx ry h;obtain⟨p,xs,rfl,hq,fx,fs,q⟩:=h;cases ry;rcases hq with hq | hq
 · obtain⟨its,r,pl,hz⟩:=I.list hq;refine SeqAt.notIn_listAt (Kv x) pl.isList (λw hw=>Nx rx fx r fs w (by simpa using hw)) ⟨.bl _,H,I,rfl,?_⟩;rw[show its.toArray.any (Kv x)=its.any (Kv x) by simp,Nv r fs];exact q
 · obtain⟨its,r,pl,hz⟩:=I.tuple hq;refine SeqAt.notIn_tupleAt (Kv x) pl (λw hw=>Nx rx fx r fs w (by simpa using hw)) ⟨.bl _,H,I,rfl,?_⟩;rw[show its.toArray.any (Kv x)=its.any (Kv x) by simp,Nv r fs];exact q
theorem Jb:Kp X (.builtin "len") (λxs H Q=>∃p ys,xs=[.ref p]∧(SqL X.K H p ys∨SqT X.K H p ys)∧Q (.int ys.length) H):=by
 intro pins s σ H xs us Q I r h;obtain⟨p,ys,rfl,hq,q⟩:=h;obtain⟨u,rfl,rx⟩:=KG r;cases rx;have hn:=ML;rcases hq with hq | hq
 · obtain⟨its,r',pl,hz⟩:=I.list hq;have hlen:=r'.length;exact Calls.call_len_list pl.isList (by simp only[As]<;>omega) ⟨.int ys.length,H,I.tok _,⟨s.toks+1,by rw[As,hlen]⟩,q⟩
 · obtain⟨its,r',pl,hz⟩:=I.tuple hq;have hlen:=r'.length;exact len_tuple pl (by simp only[As]<;>omega) ⟨.int ys.length,H,I.tok _,⟨s.toks+1,by rw[As,hlen]⟩,q⟩
theorem VY:Kp X (.builtin "len") (λxs H Q=>∃z,xs=[.str z]∧z.length≤A1∧Q (.int z.length) H):=by intro pins s σ H xs us Q I r h;obtain⟨z,rfl,hz,q⟩:=h;obtain⟨u,rfl,t,rfl⟩:=KG r;have hn:=ML;exact len_str (by omega) ⟨.int z.length,H,I.tok _,⟨_,rfl⟩,q⟩
theorem NN:Kp X (.type "list") (λxs H Q=>∃p ys,xs=[.ref p]∧(SqL X.K H p ys∨SqT X.K H p ys)∧∀l,H l=none→Q (.ref l) (upd H l (.lst ys))):=by
 intro pins s σ H xs us Q I r h;obtain⟨p,ys,rfl,hq,q⟩:=h;obtain⟨u,rfl,rx⟩:=KG r;cases rx;have fin:∀(its:List Value),Vals ys its→ys.length≤A1→∀(h':Heap)(c':Nat),(∀b o',s.heap.get? b=some o'→h'.get? b=some o')→
  h'.get? s.heap.objs.size=some {cls:= .type "list",dict:=none,data:= .seq its.toArray c',slots:=#[]}→EP X pins σ Q (.ref s.heap.objs.size) {s with heap:=h'}:=λits r' hz h' c' kp e=>
  ⟨.ref s.heap.objs.size,_,I.laid (t':=s.toks) kp (Af _) (show ObjOk X.prog X.w _ h' _ (.lst ys) from⟨hz,its,c',r',e⟩),rfl,q _ (I.hok.fresh (Af _))⟩
 rcases hq with hq | hq
 · obtain⟨its,r',pl,hz⟩:=I.list hq;have hlen:=r'.length;obtain⟨o,ho,hc,n,hd⟩:=pl.isList;exact call_list_seq p (.inl rfl) ho hc hd (λh' c' kp e=>fin its r' hz h' c' kp e) (by simp only[As]<;>omega)
 · obtain⟨its,r',pl,hz⟩:=I.tuple hq;have hlen:=r'.length;obtain⟨o,ho,hc,n,hd⟩:=pl;exact call_list_seq p (.inr rfl) ho hc hd (λh' c' kp e=>fin its r' hz h' c' kp e) (by simp only[As]<;>omega)
theorem VW:Kp X (.type "tuple") (λxs H Q=>∃p ys,xs=[.ref p]∧((SqL X.K H p ys∧∀l,H l=none→Q (.ref l) (upd H l (.tup ys)))∨(SqT X.K H p ys∧Q (.ref p) H))):=by
 intro pins s σ H xs us Q I r h;obtain⟨p,ys,rfl,h⟩:=h;obtain⟨u,rfl,rx⟩:=KG r;cases rx;rcases h with⟨hq,q⟩ | ⟨hq,q⟩
 · obtain⟨its,r',pl,hz⟩:=I.list hq;have hlen:=r'.length;refine call_tuple_list pl.isList (λh' kp=>?_) (by simp only[As]<;>omega);have I1:Inv X pins σ H {s with heap:=h'}:=I.kept (t':=s.toks) kp;have I2:Inv X pins σ (upd H h'.objs.size (.tup ys)) {s with heap:=h'.push {cls:= .type "tuple",data:= .seq its.toArray}}:=
    I1.laid (t':=s.toks) (λb o e=>Ae _ e) (Af _) (show ObjOk X.prog X.w _ _ _ (.tup ys) from⟨hz,its,r',IsTupP.new _ _⟩)
   exact⟨.ref h'.objs.size,_,I2,rfl,q _ (I1.hok.fresh (Af _))⟩
 · obtain⟨its,r',pl,hz⟩:=I.tuple hq;exact call_tuple_same pl ⟨.ref p,H,I,rfl,q⟩
def We(K:Ad)(T:String)(x:V)(H:Hp):Prop:=match x with
 | .str _=>T="str"
 | .int _=>T="int"
 | .ref p=>(T="list"∧∃xs,SqL K H p xs)∨(T="tuple"∧∃o,K.lookup p=some o∧o.cls= .type "tuple"∧o.dict=none)∨
  (T="dict"∧((∃kvs,H p=some (.dK kvs))∨∃kvs,H p=some (.dT kvs)))∨(T="set"∧∃S n,H p=some (.set S n))
 | _=>False
theorem Xk{T:String}{x:V}{v:Value}(I:Inv X pins σ H s)(r:RelV x v)(ty:We X.K T x H):
 s.TypeIs v T∧∀a,v= .ref a→∃ob,s.heap.get? a=some ob∧ob.dict=none:=by
 cases x with
 | str z=> obtain⟨t,rfl⟩:=r;cases(show T="str" from ty);exact⟨typeIs_str s z t,λ_ e=>nomatch e⟩
 | int i=> obtain⟨t,rfl⟩:=r;cases(show T="int" from ty);exact⟨typeIs_int s i t,λ_ e=>nomatch e⟩
 | ref p=>
  cases r;rcases ty with⟨rfl,xs,hq⟩ | ⟨rfl,o,hk,hc,hd⟩ | ⟨rfl,hk⟩ | ⟨rfl,S,n,hk⟩
  · obtain⟨its,_,pl,_⟩:=I.list hq;refine⟨pl.isList.typeIs,λa e=>?_⟩;cases e;obtain⟨o,n,e,c,hd,_⟩:=pl;exact⟨o,e,hd⟩
  · refine⟨⟨o,I.kIn p o hk,hc⟩,λa e=>?_⟩;cases e;exact⟨o,I.kIn _ o hk,hd⟩
  · have z:∃o,s.heap.get? p=some o∧o.ExactDict:=by
     rcases hk with⟨kvs,hk⟩ | ⟨kvs,hk⟩
     · obtain⟨_,_,_,_,o,_,_,e,ex,_⟩:=I.hok p _ hk;exact⟨o,e,ex⟩
     · obtain⟨_,_,_,_,o,_,_,e,ex,_⟩:=I.hok p _ hk;exact⟨o,e,ex⟩
    obtain⟨o,e,ex⟩:=z;refine⟨⟨o,e,ex.1⟩,λa e2=>?_⟩;cases e2;exact⟨o,e,ex.2.1⟩
  · obtain⟨o,_,_,_,e,ex,_⟩:=I.hok p _ hk;refine⟨⟨o,e,ex.1⟩,λa e2=>?_⟩;cases e2;exact⟨o,e,ex.2.1⟩
 | _=>exact CZ ty
def Wh(K:Ad)(T:String)(r:V→List V→Hp→VK→Prop)(to:TE)(t:TA):TE:=λσ H Q=>to σ H λx H1=>We K T x H1∧t σ H1 λxs H2=>r x xs H2 Q
variable{o:Expr}{es:List Expr}{to:TE}{t:TA}{name:Str}{apos cpos:Pos}{T id:String}{r:V→List V→Hp→VK→Prop}
theorem KE(pa:PlainAttrs T)(slot:Slot T name id)(hty:typeOf (.builtin id)=pure (.type "method_descriptor"))(hm:Wp X id r)(ho:PE X o to)(ha:PA X (e::es) t)
 (hbase:attributeBase o name X.env (eval o X.env)=eval o X.env:=by rfl)
 (hfew:((backTo cpos (A7 (e::es) X.env)).all (λx=>!x.1) && (backToKw cpos (keywordEach [] X.env)).all (λx=>x.1.isSome)
  && decide ((e::es).length+([]:List Keyword).length+(if([]:List Keyword).isEmpty then 0 else 1)<30))=true:=by rfl)
 (hline:(apos.endLine==cpos.line)=true:=by rfl) (hs:A7 (e::es) X.env=(false,eval e X.env)::A7 es X.env:=by rfl) (hplain:(backTo cpos (A7 es X.env)).any (·.1)=false:=by rfl):
 PE X (.Call (.Attribute o name apos) (e::es) [] cpos) (Wh X.K T r to t):=by
 intro pins s σ H Q I h;refine wpAny_Call_method_late hbase hfew hline rfl (Il (ho pins s σ H _ I h) λv s1 ⟨x,H1,I1,r1,ty,q1⟩=>?_);obtain⟨h1,h2⟩:=Xk I1 r1 ty;refine⟨T,id,pa,slot,hty,h1,h2,?_⟩;have hA:=ha cpos pins s1 σ H1 _ I1 q1;rw[hs] at hA ⊢;refine Calls.callWith_builtin (by show(false || (backTo cpos (A7 es X.env)).any (·.1))=false;rw[hplain]<;>rfl) (Calls.evalArgs_plain ?_);exact Il hA λus s2 ⟨vs,H2,I2,r2,q2⟩=>hm pins s2 σ H2 x vs v us Q I2 r1 r2 q2
end
def RY(X:Cx)(id:String)(r:V→List V→Hp→VK→Prop):Prop:=
 ∀(pins:List (Addr×Obj))(s:Shared)(σ:St)(H:Hp)(x:V)(xs:List V)(v:Value)(us:List Value)(Q:VK),Inv X pins σ H s→RelV x v→Vals xs us→r x xs H Q→
  wpAny (model X.prog X.w) X.A (call (.builtin id) (v::us)) (EP X pins σ Q) X.xe s
theorem Vals.one:∀{x:V}{us:List Value},Vals [x] us→∃u,us=[u]∧RelV x u
 | _,_,.cons r .nil=>⟨_,rfl,r⟩
theorem Vals.eraseIdx:∀{xs:List V}{us:List Value}(i:Nat),Vals xs us→Vals (xs.eraseIdx i) (us.eraseIdx i)
 | _,_,_,.nil=> .nil
 | _,_,0,.cons _ t=>t
 | _,_,i+1,.cons r t=> .cons r (Vals.eraseIdx i t)
theorem Vv{α:Type}:∀(l:List α)(i:Nat),(l.eraseIdx i).length≤l.length
 | [],_=>Af _
 | _::_,0=>D6 _
 | _::r,i+1=>Nat.succ_le_succ (Vv r i)
section
variable{l:Addr}{ys zs:List V}
theorem Inv.lset{its its':List Value}{n:Nat}{f:Array Value→Array Value}{t':Nat}(I:Inv X pins σ H s)(hH:H l=some (.lst xs))
 (e:s.heap.get? l=some {cls:= .type "list",data:= .seq its.toArray n}) (hf:f its.toArray=its'.toArray) (hv:Vals ys its') (hz:ys.length≤A1):
 Inv X pins σ (upd H l (.lst ys)) {s with heap:=s.heap.update l (AN f),toks:=t'}:=by
 have q:=PySem.IsL.update e f;rw[hf] at q;refine I.write (x:=l) (e:=l) (by rw[hH];exact trivial) (.inl rfl) (λb' u hb hu=>(FB s.heap (AN f) (CL hb)).trans hu) ⟨_,q⟩ ?_;exact⟨hz,its',_,hv,q⟩
theorem Inv.lnew{its:List Value}{t':Nat}(I:Inv X pins σ H s)(hv:Vals ys its)(hz:ys.length≤A1):
 Inv X pins σ (upd H s.heap.objs.size (.lst ys)) {s with heap:=s.heap.push {cls:= .type "list",data:= .seq its.toArray},toks:=t'}:=
 I.laid (λ_ _ q=>Ae _ q) (Af _) ⟨hz,its,0,hv,Ay _ rfl⟩
theorem Inv.fresh(I:Inv X pins σ H s):H s.heap.objs.size=none:=I.hok.fresh (Af _)
theorem Inv.lstM(I:Inv X pins σ H s)(hH:H l=some (.lst xs)):xs.length≤A1∧∃(its:List Value)(n:Nat),Vals xs its∧xs.length=its.length∧s.heap.get? l=some {cls:= .type "list",data:= .seq its.toArray n}:=by obtain⟨z,its,n,r,e⟩:=I.hok l _ hH;exact⟨z,its,n,r,r.length,e⟩
theorem U3(h:n≤A1):Fg n=false:=by unfold Fg;exact decide_eq_false (by omega)
end
def Uh:V→List V→Hp→VK→Prop:=λx vs H Q=>∃l xs y,x= .ref l∧vs=[y]∧H l=some (.lst xs)∧xs.length<A1∧Q .non (upd H l (.lst (xs++[y])))
theorem Ld:RY X "list.append" Uh:=by intro pins s σ H x vs v us Q I rx rv h;obtain⟨l,xs,y,rfl,rfl,hH,hz,q⟩:=h;cases rx;obtain⟨u,rfl,ru⟩:=rv.one;obtain⟨z,its,n,r,hl,e⟩:=I.lstM hH;refine call_meets F.slot_list_append ⟨_,e,rfl⟩ F.entry_list_append (F.args_list_append_2 _ _) (PySem.list_append l its.toArray n u (by rw[As];omega)) ⟨e,?_⟩;refine⟨.non,_,I.lset (its':=its++[u]) hH e (by simp) (r.append (.cons ru .nil)) ?_,rfl,q⟩;rw[Aw,CN];omega
def XE:V→List V→Hp→VK→Prop:=λx vs H Q=>∃l xs i k y,x= .ref l∧vs=[.int i]∧H l=some (.lst xs)∧ -(2^63)≤i∧i<2^63∧seqIndex? i xs.length=some k∧xs[k]?=some y∧Q y (upd H l (.lst (xs.eraseIdx k)))
theorem Qq:RY X "list.pop" XE:=by
 intro pins s σ H x vs v us Q I rx rv h;obtain⟨l,xs,i,k,y,rfl,rfl,hH,h1,h2,hk,hy,q⟩:=h;cases rx;obtain⟨u,rfl,ru⟩:=rv.one;obtain⟨t,rfl⟩:=ru;obtain⟨z,its,n,r,hl,e⟩:=I.lstM hH;obtain⟨w,hw,rw'⟩:=r.get hy;refine call_meets F.slot_list_pop ⟨_,e,rfl⟩ F.entry_list_pop (F.args_list_pop_2 _ _)
  (MeetsSeq.list_pop_at l its.toArray n i t k w (fitsIndex_both h1 h2) (by rw[As,←hl];exact hk) (by rw[←Bj];exact hw) (by rw[As];omega)) ⟨e,?_⟩
 refine⟨y,_,I.lset (its':=its.eraseIdx k) hH e ?_ (r.eraseIdx k) ?_,rw',q⟩
 · show its.toArray.eraseIdxIfInBounds k=(its.eraseIdx k).toArray;rw[List.eraseIdxIfInBounds_toArray]
 · have:=Vv xs k;omega
def R6:R2:=λx y H Q=>∃l b xs zs,x= .ref l∧y= .ref b∧H l=some (.lst xs)∧H b=some (.lst zs)∧xs.length+zs.length≤A1∧∀p,H p=none→Q (.ref p) (upd H p (.lst (xs++zs)))
theorem LV:IY X (binaryOp .Add) R6:=by
 intro pins s σ H x y v u Q I rx ry h;obtain⟨l,b,xs,zs,rfl,rfl,hH,hB,hz,q⟩:=h;cases rx;cases ry;obtain⟨z,its,n,r,hl,e⟩:=I.lstM hH;obtain⟨z2,its2,n2,r2,hl2,e2⟩:=I.lstM hB;refine PySem.P.add_list e e2 ?_ (by rw[As,As];omega);have ea:its.toArray++its2.toArray=(its++its2).toArray:=by simp
 rw[ea];exact⟨.ref _,_,I.lnew (t':=s.toks) (r.append r2) (by rw[Aw];omega),rfl,q _ I.fresh⟩
theorem zi4{a c:Nat}(hac:a≤c)(hc:c≤n):sliceBounds (some (a:Int)) (some (c:Int)) none n=((a:Int),(c:Int),1):=by
 simp only[sliceBounds,Fe];have h1:¬((a:Int)<0):=by omega
 have h2:¬((c:Int)<0):=by omega
 simp only[h1,h2,if_false,show(1:Int)>0 by decide,if_true];congr 1
 · omega
 · congr 1;omega
set_option maxRecDepth 100000 in
theorem L0{l b sl:Addr}{items new:Array Value}{n n2:Nat}{vl vu:Value}{a c:Nat}{Q:Unit→Shared→Prop}
 (e:s.heap.get? l=some {cls:= .type "list",data:= .seq items n}) (e2:s.heap.get? b=some {cls:= .type "list",data:= .seq new n2}) (hne:l≠b)
 (hs:s.heap.IsSliceOf sl vl vu .none) (pl:IsPart vl (some (a:Int))) (pu:IsPart vu (some (c:Int))) (hac:a≤c) (hc:c≤items.size)
 (hsz:items.size+new.size≤A1) (h:Q () {s with heap:=s.heap.update l (AN λxs=>xs.extract 0 a++new++xs.extract c xs.size)}):
 wpAny (model prog w) A (setItem (.ref l) (.ref sl) (.ref b)) Q E s:=by
 have hl:s.heap.IsList l items:=PySem.IsL.isList e;have hb:s.heap.IsList b new:=PySem.IsL.isList e2;obtain⟨os,hos,hcs,hds⟩:=id hs;have hTs:s.TypeIs (.ref sl) "slice":=⟨os,hos,hcs⟩;have hstep:¬((rawPart none==rawInt 0)=true):=Ar;have hsame:Fh (.ref l) (.ref b)=false:=by unfold Fh;exact beq_eq_false_iff_ne.mpr hne
 have hmax:(max (a:Int) (c:Int)).toNat=c:=by omega
 have hz':((λxs:Array Value=>xs.extract 0 a++new++xs.extract c xs.size) items).size≤A1+1:=by simp only[EV,Array.size_extract];omega
 unfold setItem
 try with_reducible refine AZ ?_
 first | refine Aa (Ac ?_) | skip
 refine Aa (ET hl.typeIs (by decide) ?_);refine Aa (Bn (name:=Ca "__setitem__") hl.typeIs slot_list_setitem
  (Bb slot_list_setitem hl.typeIs entry_list_setitem ?_ (args_list_setitem _ _ _)))
 show wpAny _ _ (EG (.ref sl)>>=_) _ _ s;refine Aa ?_;unfold EG;refine Aa (BX hTs slice_no_index ?_);simp only[Option.isNone_none,if_true];refine Ac ?_;show wpAny _ _ (typeOf (.ref sl)>>=_) _ _ s;refine Aa (Do hTs ?_)
 first
  | rw[if_neg (by decide)]
  | refine EH (by decide) ?_
 rw[listSliceParts_eq];refine Aa (Aa (Bu hos hds (x:= .none) rfl (Aa (FN .none ?_))));rw[if_neg hstep];refine Aa (Bu hos hds (x:=vl) rfl (Aa (FN pl ?_)));refine Aa (Bu hos hds (x:=vu) rfl (Aa (FN pu (Ac ?_))))
 first
  | simp only[hsame,A8,if_false]
  | refine EH hsame ?_
  | (dsimp only
     rw[if_neg (by rw[hsame];exact Ar)])
 refine Aa (m:=Fb (.ref b) "must assign iterable to extended slice") ?_;unfold Fb;refine Aa (Do hb.typeIs ?_)
 first
  | refine PySem.W.KFB.if_so (by decide) ?_
  | rw[if_pos (by decide)]
  | simp only[beq_self_eq_true,Bool.true_or,if_true]
 unfold Builtin.List.listItems;refine Aa (Bc e2 rfl (Ac ?_));refine Aa (Aa (Bc e rfl (Ac ?_)));refine Aa (FC ((sliceIndices_raw (some (a:Int)) (some (c:Int)) none items.size (by simp)).trans (congrArg (pure:Int×Int×Int→Sem (Int×Int×Int)) (zi4 hac hc))) ?_);show wpAny _ _ (if((1:Int)==1)=true then _ else _) _ _ s
 rw[if_pos (by decide)];refine Aa (Cg ?_)
 first
  | simp only[U3 hsz,A8,if_false]
  | refine EH (U3 hsz) ?_
 first | refine Aa (Ac ?_) | skip
 show wpAny _ _ (updateSeq l (λxs=>xs.extract 0 ((a:Int)).toNat++new++xs.extract (max (a:Int) (c:Int)).toNat xs.size)>>=_) _ _ s;rw[hmax,CV];refine Aa (wpAny_updateSeq (hz:=A4 (CF _ _) hsz) (_hz':=hz') e rfl ?_);refine Aa (ED ?_)
 first
  | exact Aa (Ac (Ac ⟨.none,rfl,Ac h⟩))
  | exact Ac ⟨.none,rfl,Ac h⟩
section
variable{κ:Type}[DecidableEq κ]
def IQ(kvs:List (κ×V))(k:κ):Option V:=(kvs.find? λkv=>decide (kv.1=k)).map (·.2)
def JA(kvs:List (κ×V))(k:κ)(v:V):List (κ×V):=
 if(kvs.any λkv=>decide (kv.1=k))=true then kvs.map (λkv=>if kv.1=k then(kv.1,v) else kv) else kvs++[(k,v)]
theorem K_{p:κ×V}{r:List (κ×V)}{k:κ}(e:p.1=k):IQ (p::r) k=some p.2:=by simp[IQ,Di,e]
theorem KZ{p:κ×V}{r:List (κ×V)}{k:κ}(e:¬p.1=k):IQ (p::r) k=IQ r k:=by simp[IQ,Di,e]
theorem Qk(k:κ):∀kvs:List (κ×V),(kvs.any λkv=>decide (kv.1=k))=(IQ kvs k).isSome
 | []=>rfl
 | p::r=>by
  rw[BV];by_cases e:p.1=k
  · simp only[K_ e,decide_eq_true e,Bool.true_or,Option.isSome_some]
  · rw[KZ e,decide_eq_false e,Bool.false_or];exact Qk k r
theorem UI(k j:κ)(y:V):∀kvs:List (κ×V),IQ (kvs.map λkv=>if kv.1=k then(kv.1,y) else kv) j=(IQ kvs j).map λx=>if j=k then y else x
 | []=>rfl
 | p::r=>by
  have ih:=UI k j y r;rw[Ax];by_cases h:p.1=k
  · rw[if_pos h];by_cases e:p.1=j
    · rw[K_ (p:=(p.1,y)) e,K_ e,Er,if_pos (e.symm.trans h)]
    · rw[KZ (p:=(p.1,y)) e,KZ e,ih]
  · rw[if_neg h];by_cases e:p.1=j
    · rw[K_ (p:=p) e,K_ e,Er,if_neg (λz=>h (e.trans z))]
    · rw[KZ (p:=p) e,KZ e,ih]
theorem V8(k j:κ)(y:V):∀kvs:List (κ×V),IQ kvs k=none→IQ (kvs++[(k,y)]) j=if j=k then some y else IQ kvs j
 | [],_=>by
  by_cases e:k=j
  · rw[if_pos e.symm];exact K_ (p:=(k,y)) e
  · rw[if_neg (λz=>e z.symm)];exact KZ (p:=(k,y)) e
 | p::r,hn=>by
  rw[Fi];have hk:¬p.1=k:=λz=>by rw[K_ z] at hn;cases hn
  rw[KZ hk] at hn;have ih:=V8 k j y r hn;by_cases e:p.1=j
  · rw[K_ e,K_ e,if_neg (λz=>hk (e.trans z))]
  · rw[KZ e,KZ e,ih]
theorem Z7(kvs:List (κ×V))(k j:κ)(y:V):IQ (JA kvs k y) j=if j=k then some y else IQ kvs j:=by
 unfold JA;by_cases a:(kvs.any λkv=>decide (kv.1=k))=true
 · rw[if_pos a,UI];rw[Qk] at a;by_cases e:j=k
   · obtain⟨x,hx⟩:=Fd.mp a;rw[if_pos e,e,hx,Er,if_pos rfl]
   · rw[if_neg e];cases IQ kvs j with
     | none=>rfl
     | some x=>rw[Er,if_neg e]
 · rw[if_neg a];refine V8 k j y kvs ?_;rw[Qk] at a;cases q:IQ kvs k with
   | none=>rfl
   | some x=>rw[q] at a;exact(a rfl).elim
theorem VM(kvs:List (κ×V))(k:κ)(v:V):(JA kvs k v).length≤kvs.length+1:=by
 unfold JA
 split
 · rw[Ab];omega
 · rw[Aw,AB,List.length_nil];omega
theorem RelO.isSome_eq{o:Option V}{u:Option Value}(r:RelO o u):o.isSome=u.isSome:=by
 cases o with
 | none=>cases u with
  | none=>rfl
  | some _=>exact(show False from r).elim
 | some _=>cases u with
  | none=>exact(show False from r).elim
  | some _=>rfl
theorem KV.val{kvs:List (κ×V)}{vs:List (κ×Value)}(r:KV kvs vs)(k:κ):RelO (IQ kvs k) (valueAt vs k):=by
 unfold KV at r
 induction r with
 | nil=>exact True.intro
 | @cons p q ps qs h t ih=>
  obtain⟨h1,h2⟩:=h;by_cases e:p.1=k
  · have e':q.1=k:=h1.symm.trans e;have b:valueAt (q::qs) k=some q.2:=by simp[valueAt,Di,e']
    rw[K_ e,b];exact h2
  · have e':¬q.1=k:=λz=>e (h1.trans z);have b:valueAt (q::qs) k=valueAt qs k:=by simp[valueAt,Di,e']
    rw[KZ e,b];exact ih
theorem KV.any{kvs:List (κ×V)}{vs:List (κ×Value)}(r:KV kvs vs)(k:κ):(kvs.any λkv=>decide (kv.1=k))=vs.any λkv=>decide (kv.1=k):=by
 unfold KV at r
 induction r with
 | nil=>rfl
 | cons h t ih=>rw[BV,BV,ih,h.1]
theorem KV.repl{kvs:List (κ×V)}{vs:List (κ×Value)}(r:KV kvs vs)(k:κ){y:V}(ry:RelV y u):
 KV (kvs.map λkv=>if kv.1=k then(kv.1,y) else kv) (vs.map λkv=>if kv.1=k then(kv.1,u) else kv):=by
 unfold KV at r ⊢
 induction r with
 | nil=>exact .nil
 | @cons p q ps qs h t ih=>
  rw[Ax,Ax];refine .cons ?_ ih;obtain⟨h1,h2⟩:=h;by_cases e:p.1=k
  · rw[if_pos e,if_pos (h1.symm.trans e)];exact⟨h1,ry⟩
  · rw[if_neg e,if_neg (λz=>e (h1.trans z))];exact⟨h1,h2⟩
theorem KV.put{kvs:List (κ×V)}{vs:List (κ×Value)}(r:KV kvs vs)(k:κ){y:V}(ry:RelV y u):KV (JA kvs k y) (stored vs k u):=by
 unfold JA stored;rw[r.any k];by_cases e:(vs.any λkv=>decide (kv.1=k))=true
 · rw[if_pos e,if_pos e];exact r.repl k ry
 · rw[if_neg e,if_neg e];exact Paired.snoc r ⟨rfl,ry⟩
theorem KV.length{kvs:List (κ×V)}{vs:List (κ×Value)}(r:KV kvs vs):kvs.length=vs.length:=Paired.length r
end
theorem O4{k:IT}(r:RelV (kV k) u):(KM P w).is k u=true:=by
 cases k with
 | inl i=>obtain⟨t,e⟩:=(show ∃t,u=Value.int i t from r);subst e;exact zhv P w i t
 | inr x=>obtain⟨t,e⟩:=(show ∃t,u=Value.str x t from r);subst e;exact zhu P w x t
theorem Vs:∀{ks:List IT}{us:List Value},Vals (ks.map kV) us→ItemsAre (KM P w) ks us
 | [],_,r=>by rw[Cb] at r;cases r;exact .nil
 | k::ks,_,r=>by
  rw[Ax] at r;cases r with
  | cons h t=>exact .cons (O4 h) (Vs t)
abbrev KT(H:Hp):List (List IT×V)→List (List IT×Addr×Value)→Prop:=Paired λp q=>p.1=q.1∧H q.2.1=some (.tup (p.1.map kV))∧RelV p.2 q.2.2
theorem KT.val{kvs:List (List IT×V)}{xs:List (List IT×Addr×Value)}(r:KT H kvs xs)(k:List IT):RelO (IQ kvs k) ((atKey xs k).map (·.2)):=by
 induction r with
 | nil=>exact True.intro
 | @cons p q ps qs h t ih=>
  obtain⟨h1,_,h2⟩:=h;by_cases e:p.1=k
  · have e':q.1=k:=h1.symm.trans e;have b:atKey (q::qs) k=some q.2:=by simp[atKey,Di,e']
    rw[K_ e,b];exact h2
  · have e':¬q.1=k:=λz=>e (h1.trans z);have b:atKey (q::qs) k=atKey qs k:=by simp[atKey,Di,e']
    rw[KZ e,b];exact ih
theorem Ss{u:HO}(ok:HOk P w H h)(e:Rd H a u):ObjOk P w H h a u:=e.ok ok
theorem O2{kvs:List (IT×V)}(ok:HOk P w H h)(e:Rd H a (.dK kvs)):kvs.length≤A1∧(a==Cp)=false∧∃vs,KV kvs vs∧h.DictOf (KM P w) a vs:=
 show ObjOk P w H h a (.dK kvs) from Ss ok e
theorem WM{kvs:List (IT×V)}(ok:HOk P w H h)(e:H a=some (.dK kvs)):kvs.length≤A1∧(a==Cp)=false∧∃vs,KV kvs vs∧h.DictOf (KM P w) a vs:=O2 ok (.inl e)
theorem Pw{ks:List IT}(ok:HOk P w H h)(e:H a=some (.tup (ks.map kV))):(tupleKind (KM P w)).is h ks a:=by obtain⟨_,its,r,o,h1,h2,_,n,h3⟩:=(show ObjOk P w H h a (.tup (ks.map kV)) from ok a _ e);exact⟨o,its.toArray,n,h1,h2,h3,by simpa using Vs r⟩
theorem Pq{kvs:List (List IT×V)}(ok:HOk P w H h)(e:Rd H a (.dT kvs)):kvs.length≤A1∧(a==Cp)=false∧
 ∃xs,KT H kvs xs∧h.DictOfH (tupleKind (KM P w)) a xs:=by
 obtain⟨z,y,xs,r,o,es,ep,h1,h2,h3,h4,h5⟩:=(show ObjOk P w H h a (.dT kvs) from Ss ok e);refine⟨z,y,xs,r,o,es,ep,h1,h2,h3,h4,λx hx=>?_,h5⟩;have all:∀{l:List (List IT×V)}{m:List (List IT×Addr×Value)},KT H l m→∀x∈m,(tupleKind (KM P w)).is h x.1 x.2.1:=by
  intro l m q
  induction q with
  | nil=>intro x hx;exact nomatch hx
  | @cons p q ps qs hq t ih=>
   intro x hx;rcases An.mp hx with e | hx
   · subst e;exact Pw ok (by rw[←hq.1];exact hq.2.1)
   · exact ih x hx
 exact all r x hx
def DGet(H:Hp)(a:Addr)(y:V)(r:Option V):Prop:=
 (∃kvs k,Rd H a (.dK kvs)∧y=kV k∧r=IQ kvs k)∨∃kvs k b,Rd H a (.dT kvs)∧y= .ref b∧H b=some (.tup (k.map kV))∧r=IQ kvs k
theorem DGet.k{kvs:List (IT×V)}{k:IT}(e:H a=some (.dK kvs)):DGet H a (kV k) (IQ kvs k):= .inl ⟨kvs,k,.inl e,rfl,rfl⟩
section
variable{y v:V}{r:Value}{o:Option V}
theorem Inv.big(I:Inv X pins σ H s):Cp<s.heap.objs.size:=by have h:AE<s.heap.objs.size:=(I.mod.glob.keeps I.bk).lt;exact Co (by decide) h
theorem Z1{Q:Value→Shared→Prop}(hu:A.units+1<cLine)(I:Inv X pins σ H s)(g:DGet H a y (some v))(ry:RelV y u)(h:∀w' s',Inv X pins σ H s'→RelV v w'→Q w' s'):
 wpAny (model X.prog X.w) A (getItem (.ref a) u) Q E s:=by
 rcases g with⟨kvs,k,e,ey,l⟩ | ⟨kvs,k,b,e,ey,eb,l⟩
 · subst ey;obtain⟨z,hd,vs,rel,dd⟩:=O2 I.hok e;obtain⟨w',hw,rw'⟩:=RelO.some_of (v:=v) (o:=valueAt vs k) (by rw[l];exact rel.val k);exact wpAny_getItem_of (O4 ry) dd.mapOf hw (h w' _ (I.tok _) rw')
 · subst ey;cases(show u=Value.ref b from ry);obtain⟨z,hd,xs,rel,dd⟩:=Pq I.hok e;obtain⟨w',hw,rw'⟩:=RelO.some_of (v:=v) (o:=(atKey xs k).map (·.2)) (by rw[l];exact rel.val k);obtain⟨p,hp,hp2⟩:=Option.map_eq_some_iff.mp hw;refine wpAny_getItem_heap (tupleKind_room_in1 hu) (Pw I.hok eb) dd hp ?_;rw[hp2];exact h w' _ (I.tok _) rw'
theorem Xv{Q:Value→Shared→Prop}(hu:A.units+1<cLine)(I:Inv X pins σ H s)(g:DGet H a y o)(ry:RelV y u)(h:∀s',Inv X pins σ H s'→Q (.bool (!o.isSome)) s'):
 wpAny (model X.prog X.w) A (A_ .NotIn u (.ref a)) Q E s:=by
 rcases g with⟨kvs,k,e,ey,l⟩ | ⟨kvs,k,b,e,ey,eb,l⟩
 · subst ey;obtain⟨z,hd,vs,rel,dd⟩:=O2 I.hok e;refine wpAny_notIn_of (O4 ry) hd dd.mapOf ?_;rw[←(rel.val k).isSome_eq,←l];exact h _ (I.tok _)
 · subst ey;cases(show u=Value.ref b from ry);obtain⟨z,hd,xs,rel,dd⟩:=Pq I.hok e;refine wpAny_notIn_heap (tupleKind_room_in1 hu) (Pw I.hok eb) hd dd ?_;have q:=(rel.val k).isSome_eq;rw[Option.isSome_map] at q;rw[←q,←l];exact h _ (I.tok _)
theorem PX{h':Heap}{t':Nat}{ob:HO}(I:Inv X pins σ H s)(mu:Ow (H a))(hs:C6 a s.heap h')(he:∃q,h'.get? a=some q)(new:ObjOk X.prog X.w (upd H a ob) h' a ob):
 Inv X pins σ (upd H a ob) {s with heap:=h',toks:=t'}:=
 I.write (x:=a) (e:=a) mu (.inl rfl) (λb q hb z=>(hs.2 b hb).trans z) he new
theorem WA{H':Hp}{h':Heap}{kvs:List (IT×V)}{vs:List (IT×Value)}(z:kvs.length≤A1)(hd:(a==Cp)=false)(rel:KV kvs vs)(dd:h'.DictOf (KM P w) a vs):
 ObjOk P w H' h' a (.dK kvs):=⟨z,hd,vs,rel,dd⟩
end
section
variable{kvs:List (IT×V)}{k:IT}
end
def Ov(i:Expr):Prop:=∀ov iv,subscripted i false ov iv=operate [ov,iv] (getItem ov iv)
theorem Yl{prog:AY}{w:World}{A:BC}{E:Value→Shared→Prop}{s:Shared}{env:Env}{value slice:Expr}{pos:Pos}{T id:String}{Q:Value→Shared→Prop}
 (hl:typeLookup (.type T) "__getitem__"=pure (some (.builtin id))) (hs:Ov slice)
 (h:wpAny (model prog w) A (eval value env) (λo s₁=>wpAny (model prog w) A (eval slice env) (λi s₂=>s₂.TypeIs o T∧wpAny (model prog w) A (getItem o i) Q E s₂) E s₁) E s):
 wpAny (model prog w) A (eval (.Subscript value slice pos) env) Q E s:=by
 refine Subscript_ (A0 h (λo s₁ h₁=>A0 h₁ (λi s₂ h₂=>?_) λ_ _ x=>x) λ_ _ x=>x);obtain⟨hT,h₂⟩:=h₂;unfold subscriptTail;refine Aa ?_;rw[getitemInPython_of_ne hT.not_modules];refine Aa (BX hT hl ?_);have fin:wpAny (model prog w) A (subscripted slice false o i) (λr s₃=>wpAny (model prog w) A (letTemporaryGo value o r>>=λ_=>pure r) Q E s₃) E s₂:=by rw[hs o i];exact wpAny_operating (A0 h₂ (λr s₃ h₃=>Aa (wpAny_letTemporaryGo (Ac h₃))) λ_ _ x=>x)
 first
  | exact Ac (Aa fin)
  | exact Aa (Ac (Aa fin))
  | exact Aa fin
theorem zhD{y:V}{o:Option V}(I:Inv X pins σ H s)(g:DGet H a y o):s.TypeIs (.ref a) "dict":=by
 rcases g with⟨kvs,k,e,_,_⟩ | ⟨kvs,k,b,e,_,_,_⟩
 · obtain⟨_,_,vs,_,dd⟩:=O2 I.hok e;exact dd.typeIs
 · obtain⟨_,_,xs,_,dd⟩:=Pq I.hok e;exact dd.typeIs
def Xd(td ty:TE):TE:=λσ H Q=>td σ H λx H1=>ty σ H1 λy H2=>∃a v,x= .ref a∧DGet H2 a y (some v)∧Q v H2
def Ym(ty td:TE):TE:=λσ H Q=>ty σ H λy H1=>td σ H1 λx H2=>∃a o,x= .ref a∧DGet H2 a y o∧Q (.bl (!o.isSome)) H2
section
variable{o i value:Expr}{pos' tpos:Pos}{td ty tv:TE}
theorem XX(hu:X.A.units+1<cLine)(ho:PE X o td)(hi:PE X i ty)(hs:Ov i):PE X (.Subscript o i pos) (Xd td ty):=by intro pins s σ H Q I h;refine Yl PySem.F.slot_dict_getitem.lookup hs (Il (ho pins s σ H _ I h) λu s1 ⟨x,H1,I1,rx,q1⟩=>Il (hi pins s1 σ H1 _ I1 q1) λiv s2 ⟨y,H2,I2,ry,a,v,ex,g,q2⟩=>?_);subst ex;obtain rfl:u=Value.ref a:=rx;exact⟨zhD I2 g,Z1 hu I2 g ry λw' s3 I3 rw'=>⟨v,H2,I3,rw',q2⟩⟩
theorem zj1(hu:X.A.units+1<cLine)(hi:PE X i ty)(ho:PE X o td):PC X .NotIn i o (Ym ty td):=by intro pins s σ H Q I h;refine Il (hi pins s σ H _ I h) λiv s1 ⟨y,H1,I1,ry,q1⟩=>Il (ho pins s1 σ H1 _ I1 q1) λu s2 ⟨x,H2,I2,rx,a,ov,ex,g,q2⟩=>?_;subst ex;obtain rfl:u=Value.ref a:=rx;exact Xv hu I2 g ry λs3 I3=>⟨.bl (!ov.isSome),H2,I3,rfl,q2⟩
end
theorem YY(h:Heap)(hb:Cp<h.objs.size):ObjOk P w H (h.push {cls:= .type "dict",data:= .dict #[]}) h.objs.size (.dK []):=
 ⟨AI _,beq_eq_false_iff_ne.mpr (CL (A3 hb)),[],.nil,Heap.DictOf.new h⟩
section
variable{y d:V}{r:Value}{o:Option V}
end
section
variable{o f:Expr}{apos cpos:Pos}{td ty tx:TE}
end
section
variable{kvs:List (IT×V)}
end
section
variable{y:V}
end
end L2
namespace Att
open PySem PySem.W PySem.Calls PyProof.Rows
theorem zeE{P:Params}:∀(ns:List Int)(vs:List Value),WellAll P h vs (ns.map WData.int)→IntsAre vs ns:=by
 intro ns
 induction ns with
 | nil=> intro vs w;rw[Cb] at w;cases w;exact .nil
 | cons n ns ih=>
  intro vs w;rw[Ax] at w;cases w with
  | cons a b=> cases a;exact .cons _ _ (ih _ b)
theorem ZV{l:OpenLaw}(hn:l.most=some n){P:Params}{h:Heap}{args:List WData}{vals:List Value}
 (hpre:l.row.toRowW.claim.pre args=true) (hwl:WellAll P h vals args):
 ∃a vs ns,vals=[Value.ref a]∧args=[WData.list (ns.map WData.int)]∧h.get? a=some {cls:= .type "list",data:= .seq vs.toArray}∧IntsAre vs ns∧ns.length≤n:=by
 have hsh:WShape.hasAll [] args [.list .int]=true:=(pre_splitW hpre).1;have hc:l.pre.holds [] {args:=args}=true:=(pre_splitW hpre).2;obtain⟨d,r,rfl,h1,h2⟩:=hasAllW_cons hsh;obtain rfl:=hasAllW_nil h2;obtain⟨xs,rfl,h3⟩:=hasW_list h1;obtain⟨ns,rfl⟩:=items_int h3;have hlen:ns.length≤n:=by
  unfold OpenLaw.pre at hc;have h4:(WTm.not (.lt (.lit (.int (n:Int))) (.len (.arg 0)))).holds [] {args:=[.list (ns.map .int)]}=true:=by have h4:=(holds_andW hc).1;rw[hn] at h4;exact h4
  have h5:=condW_of h4 (w_not (w_lt w_lit (w_len_list (w_arg rfl))));rw[Ab] at h5;refine Nat.le_of_not_lt λq=>?_;have q':(n:Int)<((ns.length:Nat):Int):=by omega
  first
   | (rw[decide_eq_true q'] at h5;exact absurd h5 (by decide))
   | (simp at h5;omega)
 cases hwl with
 | cons w1 w2=>
  cases w2;cases w1 with
  | list ho hall=>exact⟨_,_,ns,rfl,rfl,ho,zeE ns _ hall,hlen⟩
theorem ZM(l:OpenLaw)(args:List WData):l.row.toRowW.claim.post args (.bool true) args=true:=
 postW_of (r:=l.row.toRowW) (X:=(true==true))
  (show WShape.has [] (.bool true) .bool=true by first | rfl | decide | simp[WShape.has,WShape.arms,WShape.armsAll])
  (show(WTm.eq .res (.lit (.bool true))).value [] {args:=args,res:=some (.bool true),after:=args}=some (.bool (true==true)) from w_eq_bool (w_res rfl) w_lit) rfl
theorem attach_call{l:OpenLaw}{n:Nat}{q:AY}{loose:List Str}{XP:(Str→Option Value)→Heap→Prop}{YP:World→Heap→Prop}{d:DefRec}
 (hn:l.most=some n) (hdf:d.params.defaults=[])
 (call:∀(w:World)(s₀ s₁:Shared)(mg mb:Str→Option Value)(fa:Addr)(o:Obj)(pm cd doc:Value)(a:Addr)(vs:List Value)(ns:List Int),
  Ground q loose [] XP w s₀ mg mb s₁.heap→YP w s₁.heap→
  s₁.heap.get? fa=some o→o.data= .func (docDef d.name d.params d.body d.scope pm cd doc)→s₁.heap.CodeRec cd d.name→mg d.name=some (.ref fa)→
  s₁.heap.get? a=some {cls:= .type "list",data:= .seq vs.toArray}→IntsAre vs ns→ns.length≤n→s₁.gens=#[]→
  codeAny (model l.prog w) callerA (.call (.ref fa) ⟨[.ref a],[]⟩) (λr s'=>r= .ok (.ret (.bool true))∧OldK s₁.heap s'.heap∧s'.os=s₁.os∧AllBare s'.gens) s₁):
 WalkO q loose XP YP l.row.toRowW d [] (λf vs=>PySem.call f vs):=by
 intro w s₀ s₁ mg mb G Y fa o pm cd doc dV kV ho hd hcd hD hmg hg args vals as hpre hlay hrd hwl hlo;obtain rfl:dV= .none:=Dflts.none hD hdf;obtain rfl:kV= .none:=Dflts.noKw hD;obtain⟨a,vs,ns,rfl,rfl,hobj,hints,hlen⟩:=ZV hn hpre hwl;refine enter_call (BU (call w s₀ s₁ mg mb fa o pm cd doc a vs ns G Y ho (fd_plain hd) hcd hmg hobj hints hlen hg) λr s' hq=>?_);obtain⟨rfl,h2,h3,h4⟩:=hq;exact⟨.inl ⟨.bool true,.bool true,[],rfl,λ_=>rfl,.bool true,ZM l _,λ_=>⟨List.Pairwise.nil,λ_ hm=>(nomatch hm)⟩⟩,h2,h3,h4⟩
section
variable{K:Frag}
end
end Att
namespace L2
theorem VB:∀{vs:List Value}{ns:List Int},IntsAre vs ns→Vals (ns.map V.int) vs
 | _,_,.nil=> .nil
 | _,_,.cons n t h=> .cons ⟨t,rfl⟩ (VB h)
def MB(H:Hp):Prop:=∀b,H b=none∨∃o xs,H b=some (.frz o (.lst xs))
theorem Zg{P:AY}{w:World}{K:Ad}{mg mb:Str→Option Value}{CX:Lo}{k:Nat}{fa a:Addr}{fd:Bw}{x:Str}{sp:Sp}{s₁:Shared}{vs:List Value}{ns:List Int}
 (KX:K.In s₁.heap) (hns:s₁.heap.Ns AE mg) (hb:s₁.heap.Ns builtinsNs mb) (hbb:∀x:Str,x≠"__name__"→mb x=AW x) (hlim:s₁.heap.NoLimit) (hg:s₁.gens=#[])
 (ha:s₁.heap.get? a=some {cls:= .type "list",data:= .seq vs.toArray}) (hi:IntsAre vs ns) (hl:ns.length≤A1) (hr:Room k callerA)
 (F:∀base:Heap,K.In base→base.Ns AE mg→FnOk P w K mg base CX k fa fd [x] sp) (hbind:∀(s:Shared)(u:Value),BindsTo s fd ⟨[u],[]⟩ [(x,u)])
 (hsp:∀H:Hp,MB H→SqL K H a (ns.map V.int)→sp [.ref a] H (λv _=>v= .bl true) λ_ _ _=>False)
 (hCX:∀H e s',CX [] H s₁ (λ_ _ _=>False) e s'→False):
 codeAny (model P w) callerA (.call (.ref fa) ⟨[.ref a],[]⟩) (λr s'=>r= .ok (.ret (.bool true))∧OldK s₁.heap s'.heap∧s'.os=s₁.os∧AllBare s'.gens) s₁:=by
 have rv:=VB hi;have lenV:=hi.length;have IX:∀H:Hp,MB H→SqL K H a (ns.map V.int)→HOk P w H s₁.heap→(∀b,H b≠none→b=a)→(H a≠none→K.lookup a=none)→
  codeAny (model P w) callerA (.call (.ref fa) ⟨[.ref a],[]⟩) (λr s'=>r= .ok (.ret (.bool true))∧OldK s₁.heap s'.heap∧s'.os=s₁.os∧AllBare s'.gens) s₁:=by
  intro H hO hS hok hA hK;have base_of:∀{b:Addr}{o:Obj},s₁.heap.get? b=some o→H b=none→(JW s₁.heap H).get? b=some o:=λe n=>Zb e n;have noA:∀{b:Addr}{o:Obj}{es:Array DictEntry}{ep:Nat},s₁.heap.get? b=some o→o.data= .dict es ep→H b=none:=λ{b o es ep}e d=>by
   cases q:H b with
   | none=>rfl
   | some u=> have e':b=a:=hA b (by rw[q];simp);subst e';rw[ha] at e;cases e;have d':Data.seq vs.toArray _=Data.dict es ep:=d;cases d'
  have nsK:∀{b:Addr}{m:Str→Option Value},s₁.heap.Ns b m→(JW s₁.heap H).Ns b m:=λ{b m} ⟨o,es,ep,e,d,r⟩=>⟨o,es,ep,base_of e (noA e d),d,r⟩;have hKb:K.In (JW s₁.heap H):=λb o e=>base_of (KX b o e) (by
   cases q:H b with
   | none=>rfl
   | some u=> have e':b=a:=hA b (by rw[q];simp);subst e';rw[hK (by rw[q];simp)] at e;cases e)
  have hM:Mod K mg (JW s₁.heap H):=⟨hKb,nsK hns,⟨mb,nsK hb,hbb⟩,let⟨mc,h1,h2⟩:=hlim;⟨mc,nsK h1,h2⟩⟩;have e0:Env0 P w K mg (JW s₁.heap H) callerA [] s₁ H:=⟨rfl,hM,λb o e=>Yy e,Nat.le_of_eq (Zo _ _),trivial,λb hb=>absurd (show b∈([]:List Addr) from hb) (by simp),hok,.of_eq hg⟩;refine BU ((F _ hKb (nsK hns)).run callerA [] s₁ H ⟨[.ref a],[]⟩ [.ref a] [.ref a] _ _ hr e0 (hbind s₁ (.ref a)) (.cons rfl .nil) (hsp H hO hS)) λr s' h=>?_;cases r with
  | error e=>exact(hCX H e s' h).elim
  | ok fl=>
   cases fl with
   | next=>exact CZ h
   | brk=>exact CZ h
   | cont=>exact CZ h
   | ret u=>
    obtain⟨v,H',os,bare,un,hok',r',q⟩:=h;have q':v= .bl true:=q;subst q';obtain rfl:u=Value.bool true:=r';refine⟨rfl,OldK.of_keep λb o e=>?_,os,bare⟩;cases q:H b with
    | none=>exact un.keep b o e q (by intro z;exact absurd (show b∈([]:List Addr) from z) (by simp)) (by simp)
    | some u=>
     rcases hO b with z | ⟨ob,xs,z⟩
     · rw[q] at z;cases z
     · have z2:=un.frzs b ob _ z;obtain⟨e1,_⟩:=hok b _ z;obtain⟨e2,_⟩:=hok' b _ z2;rw[e] at e1;cases e1;exact e2
 cases hk:K.lookup a with
 | some o=> have e:=KX a o hk;rw[ha] at e;cases e;refine IX (λ_=>none) (λ_=> .inl rfl) (.inr ⟨_,vs.toArray,_,hk,rfl,rfl,rfl,by rw[As,lenV];exact hl,by simpa using rv⟩) (λb u z=>by have z':(none:Option HO)=some u:=z;cases z') (λb z=>absurd rfl z) λz=>absurd rfl z
 | none=>
  refine IX (λb=>if b=a then some (.frz {cls:= .type "list",data:= .seq vs.toArray} (.lst (ns.map V.int))) else none) (λb=>?_) (.inl (.inr ⟨{cls:= .type "list",data:= .seq vs.toArray},if_pos rfl⟩)) (λb u z=>?_) (λb z=>?_) λ_=>hk
  · by_cases hb:b=a
    · exact .inr ⟨_,_,if_pos hb⟩
    · exact .inl (if_neg hb)
  · by_cases hb:b=a
    · have z':=(if_pos hb).symm.trans z;cases z';subst hb;exact⟨ha,by rw[Ab];exact hl,vs,_,rv,ha⟩
    · have z':=(if_neg hb).symm.trans z;cases z'
  · by_cases hb:b=a
    · exact hb
    · exact absurd (if_neg hb) z
abbrev KOf{K:Ad}{h:Heap}(_:K.In h):Ad:=K
theorem walk_of{l:Fx}{n k:Nat}{q:AY}{loose:List Str}{XP:(Str→Option Value)→Heap→Prop}{YP:World→Heap→Prop}{d:DefRec}{K:Params→Ad}{CX:World→Lo}{sp:World→Sp}{x:Str}
 (hn:l.most=some n) (hn2:n≤A1) (hdf:d.params.defaults=[]) (hr:Room k callerA)
 (hY:∀(w:World)(h:Heap),YP w h→(K w.params).In h)
 (F:∀(w:World)(mg:Str→Option Value)(fa:Addr)(h:Heap),(K w.params).In h→h.Ns AE mg→mg d.name=some (.ref fa)→
  ∃fd:Bw,(∀(s:Shared)(u:Value),BindsTo s fd ⟨[u],[]⟩ [(x,u)])∧
   ∀base:Heap,(K w.params).In base→base.Ns AE mg→FnOk l.prog w (K w.params) mg base (CX w) k fa fd [x] (sp w))
 (hsp:∀(w:World)(H:Hp)(a:Addr)(ns:List Int),ns.length≤n→MB H→SqL (K w.params) H a (ns.map V.int)→sp w [.ref a] H (λv _=>v= .bl true) λ_ _ _=>False)
 (hCX:∀(w:World)(H:Hp)(s:Shared)(e:Value)(s':Shared),CX w [] H s (λ_ _ _=>False) e s'→False):
 PySem.W.WalkO q loose XP YP l.row.toRowW d [] (λf vs=>PySem.call f vs):=by
 refine Att.attach_call hn hdf λw s₀ s₁ mg mb fa o pm cd doc a vs ns G Y ho hd hcd hmg hobj hints hlen hg=>?_;have KX:=hY w _ Y;obtain⟨fd,hb,hF⟩:=F w mg fa _ KX G.T.g hmg;exact Zg KX G.T.g G.T.b G.T.builtins G.T.nolimit hg hobj hints (A4 hlen hn2) hr hF hb (λH hO hS=>hsp w H a ns hlen hO hS) λH e s'=>hCX w H s₁ e s'
def La(s:Stmt):Arguments:=match s with
 | .FunctionDef _ a _ _ _ _ _ _ _ _=>a
 | _=>{posonlyargs:=[],args:=[],vararg:=none,kwonlyargs:=[],kw_defaults:=[],kwarg:=none,defaults:=[]}
def KJ(s:Stmt):List Stmt:=match s with
 | .FunctionDef _ _ b _ _ _ _ _ _ _=>b
 | _=>[]
def Iu(s:Stmt):Scope:=match s with
 | .FunctionDef _ _ _ _ _ _ sc _ _ _=>sc
 | _=>{kind:= .function,names:=[],isGenerator:=false,isCoroutine:=false}
abbrev IC:Lo:=λ_ _ _ _ _ _=>False
abbrev E0:XK:=λ_ _ _=>False
theorem Sr:Px IC X E0:=λ_ _ _ _ _ _ _ h=>h.elim
structure Fun(K:Ad)(x qual:Str)(st:Stmt)(f:Addr)(fd:Bw):Prop where
 ex:∃(oc:Value)(od:Option Addr)(kV doc pm:Value)(an:Option Addr)(cdv ct:Value)(osl:Array (Option Value)),
  fd=Dn x qual (La st) (KJ st) (Iu st) .none kV doc pm an cdv ct∧K.lookup f=some ⟨oc,od,.func fd,osl⟩∧FM K cdv qual=true
 kp:E8 K (.ref f)=true
section
variable{K:Ad}{mg:Str→Option Value}{base:Heap}
theorem Fun.ok{qual:Str}{st:Stmt}{f:Addr}{fd:Bw}{N ps:List Str}{k:Nat}{sp:Sp}(F:Fun K x qual st f fd)(S:FnScope N ps (Iu st))(len:∀vs H Q E,sp vs H Q E→vs.length=ps.length)
 (hbody:∀(cdv:Value)(A:BC)(outer:List Env)(s:Shared)(H:Hp)(vs:List V)(Q:VK)(E:XK),Room k (A.deeper (envOfC qual (Iu st) s.heap.objs.size f cdv))→sp vs H Q E→
  ∃t,PSs (KA IC P w K mg base N qual (Iu st) f cdv A outer s H E).nox (KJ st) t∧t {nx:=λ_ H'=>Q .non H',rt:=Q} (LS N vs) H):FnOk P w K mg base IC (k+1) f fd ps sp:=by
 obtain⟨oc,od,kV,doc,pm,an,cdv,ct,osl,rfl,lk,hcd⟩:=F.ex;refine WN lk hcd S len λA outer s H vs Q E hr hsp=>?_;obtain⟨t,h,q⟩:=hbody cdv A outer s H vs Q E hr hsp;exact⟨t,h.nox,q⟩
theorem Fun.binds{qual:Str}{st:Stmt}{f:Addr}{fd:Bw}{ps:List Str}(F:Fun K x qual st f fd)
 (h:∀(kV doc pm:Value)(an:Option Addr)(cdv ct:Value)(us:List Value),us.length=ps.length→bindArgs (Dn x qual (La st) (KJ st) (Iu st) .none kV doc pm an cdv ct) ⟨us,[]⟩=pure (ps.zip us)):Binds K fd ps []:=by
 obtain⟨oc,od,kV,doc,pm,an,cdv,ct,osl,rfl,lk,hcd⟩:=F.ex;exact .all (h kV doc pm an cdv ct)
theorem fun_mk{qual:Str}{st:Stmt}{f:Addr}{oc:Value}{od an:Option Addr}{osl:Array (Option Value)}{kV doc pm cdv ct:Value}(l:K.lookup f=some ⟨oc,od,.func (Dn x qual (La st) (KJ st) (Iu st) .none kV doc pm an cdv ct),osl⟩)
 (c:FM K cdv qual=true) (k:E8 K (.ref f)=true):Fun K x qual st f (Dn x qual (La st) (KJ st) (Iu st) .none kV doc pm an cdv ct):=⟨⟨oc,od,kV,doc,pm,an,cdv,ct,osl,rfl,l,c⟩,k⟩
end
theorem Sh{k:Nat}(hr:Room k A):A.units+1<cLine:=BD (Gi (by decide:1≤64) _) hr.units
theorem Je(h:n≤1000):n<A1:=BD h (by decide)
theorem pv(i:Nat){pos:Pos}(hN:X.N[i]?=some x:=by rfl)(hv:Os X.env.scope x:=by first | exact Or.inl rfl | exact Or.inr (Or.inl rfl) | exact Or.inr (Or.inr rfl))(hd:(x==("__debug__":Str))=false:=by decide)
 (hcd:(x==("__classdict__":Str))=false:=by decide):PE X (.Name x pos) (Kg i):=X9 hN hv hd hcd
theorem Ig{A B:Prop}(h:B):if false=true then A else B:=by rw[if_neg Ar];exact h
theorem Ii{A B:Prop}(h:A):if true=true then A else B:=by rw[if_pos rfl];exact h
theorem IR{c A B:Prop}[Decidable c](h1:c→A)(h2:¬c→B):if c then A else B:=by
 by_cases h:c
 · rw[if_pos h];exact h1 h
 · rw[if_neg h];exact h2 h
def Same(H H':Hp):Prop:=∀b o,H b=some o→H' b=some o
theorem Same.refl(H:Hp):Same H H:=λ_ _ h=>h
theorem Same.trans{H1 H2:Hp}(a:Same H H1)(b:Same H1 H2):Same H H2:=λc o h=>b c o (a c o h)
theorem Same.free{H':Hp}(e:Same H H'){l:Addr}(h:H' l=Option.none):H l=Option.none:=by
 cases q:H l with
 | none=>rfl
 | some o=> rw[e l o q] at h;cases h
theorem Same.seq{K:Ad}{H':Hp}(e:Same H H')(h:SqL K H a xs):SqL K H' a xs:=by
 rcases h with(h | ⟨o,h⟩) | h
 · exact .inl (.inl (e _ _ h))
 · exact .inl (.inr ⟨o,e _ _ h⟩)
 · exact .inr h
section
variable{κ:Type}[DecidableEq κ]
end
def IP(X:Cx)(N':List Str)(scope:Scope)(cl:List (Str×Addr))(C:Addr)(s₀:Shared)(H₀:Hp)(ex:List Addr):Cx:=
 {prog:=X.prog,w:=X.w,K:=X.K,mg:=X.mg,base:=X.base,A:=X.A,N:=N',s₀:=s₀,H₀:=H₀,env:=compEnvC scope cl C X.env,outer:=X.stack,stack:=X.stack,ex:=ex,fn:=λx=>scope.names.lookup x==some .cell,calm:=X.calm,pn:=[],xe:=λ_ _=>False}
abbrev I_:=List (Option Nat)
def J6(js:I_)(σ:St):St:=js.map λo=>o.bind λj=>(σ[j]?).join
theorem Xs{env:Env}(has:∀x,(env.kindOf x=some .cell∨env.kindOf x=some .free)→∃c,env.cells.lookup x=some c):
 ∀(names:List (Str×NameKind))(acc:List (Str×Addr)),(∀p∈names,p.2= .free→env.kindOf p.1=some .cell∨env.kindOf p.1=some .free)→(∀x c,acc.lookup x=some c→env.cells.lookup x=some c)→
  ∃cl,(forIn names acc (λ(p:Str×NameKind)(cs:List (Str×Addr))=>(do
   if p.2==NameKind.free then
    let c ←cellOf env p.1
    pure (ForInStep.yield ((p.1,c)::cs))
   else pure (ForInStep.yield cs):Sem (ForInStep (List (Str×Addr))))))=pure cl∧(∀x c,cl.lookup x=some c→env.cells.lookup x=some c)∧
   (∀x,(acc.lookup x).isSome=true→(cl.lookup x).isSome=true)∧∀p∈names,p.2= .free→(cl.lookup p.1).isSome=true:=by
 intro names
 induction names with
 | nil=>intro acc _ ha;exact⟨acc,rfl,ha,λ_ h=>h,λ_ h=>nomatch h⟩
 | cons p r ih=>
  intro acc hn ha;obtain⟨n,k⟩:=p;rw[Fy];by_cases hk:k= .free
  · subst hk;obtain⟨c,hc⟩:=has n (hn (n,.free) Ai rfl);have e:cellOf env n=(pure c:Sem Addr):=by
     unfold cellOf;rw[hc]
    obtain⟨cl,h1,h2,h3,h4⟩:=ih ((n,c)::acc) (λq hq=>hn q (Ag _ hq)) (λx c' hx=>by
     rw[Cc] at hx;cases hb:x==n with
     | true=> rw[hb] at hx;cases hx;rw[show x=n from eq_of_beq hb];exact hc
     | false=> rw[hb] at hx;exact ha x c' hx)
    refine⟨cl,?_,h2,λx hx=>h3 x ?_,λq hq hf=>?_⟩
    · simp only[beq_self_eq_true,if_true,e];exact h1
    · rw[Cc];cases hb:x==n with
      | true=>rfl
      | false=>exact hx
    · rcases An.mp hq with rfl | hq
      · exact h3 _ (by simp[Cc])
      · exact h4 q hq hf
  · have hb:(k==NameKind.free)=false:=by simpa using hk
    obtain⟨cl,h1,h2,h3,h4⟩:=ih acc (λq hq=>hn q (Ag _ hq)) ha;refine⟨cl,?_,h2,h3,λq hq hf=>?_⟩
    · simp only[hb,A8,if_false];exact h1
    · rcases An.mp hq with rfl | hq
      · exact absurd hf hk
      · exact h4 q hq hf
theorem MO{env:Env}{scope:Scope}(has:∀x,(env.kindOf x=some .cell∨env.kindOf x=some .free)→∃c,env.cells.lookup x=some c)
 (hn:∀p∈scope.names,p.2= .free→env.kindOf p.1=some .cell∨env.kindOf p.1=some .free):
 ∃cl,closureFor scope env=pure cl∧(∀x c,cl.lookup x=some c→env.cells.lookup x=some c)∧∀p∈scope.names,p.2= .free→(cl.lookup p.1).isSome=true:=by
 obtain⟨cl,h1,h2,_,h4⟩:=Xs has scope.names [] hn (λ_ _ h=>nomatch h);refine⟨cl,?_,h2,h4⟩;unfold closureFor;show(do let cs ←forIn scope.names [] _;pure cs)=_
 refine Eq.trans ?_ h1;simp only[bind_pure]
section
variable{R:Result→Shared→Prop}
theorem zhF{elt target iter:Expr}{ifs:List Expr}{scope:Scope}{pos:Pos}{it acc:Value}{env:Env}(I:Nat→Shared→Prop)
 (turn:∀n s,I n s→wpAny (model prog w) A (pyNext it) (λr s₁=>match r with
  | none=>R (.ok .next) s₁
  | some v=>wpAny (model prog w) A (BM target it v) (λ_ s₁'=>wpAny (model prog w) A (assign target env v) (λ_ s₂=>
   wpAny (model prog w) A (forIn ifs true λc r=>if r=true then do let ok ←isTrue c env (eval c env);pure (ForInStep.yield ok) else pure (ForInStep.yield r)) (λok s₃=>
    if ok=true then wpAny (model prog w) A (eval elt env) (λx s₄=> wpAny (model prog w) A (call (.builtin "list.append") [acc,x]) (λ_ s₅=>∃m,m<n∧I m s₅) (λ_ _=>False) s₄) (λ_ _=>False) s₃
    else ∃m,m<n∧I m s₃) (λ_ _=>False) s₂) (λ_ _=>False) s₁') (λ_ _=>False) s₁) (λ_ _=>False) s)
 (n:Nat) (h:I n s):
 codeAny (model prog w) A (.compLoop (.ListComp elt [⟨target,iter,ifs,0⟩] scope pos) 0 it acc env) R s:=by
 refine Es rfl I (λn s hI=>?_) n h;show wpAny _ A ((compTurn (.ListComp elt [⟨target,iter,ifs,0⟩] scope pos) 0 it acc env).onRaise (λx=>do noteFrame x env;theTreesLotGoes x)) _ _ s
 refine EE ?_;rw[compTurn_list];refine Aa (Bm (Aa (A0 (turn n s hI) (λr s₁ h₁=>?_) λ_ _ h'=>h'.elim)));cases r with
 | none=>exact Ac h₁
 | some v=>
  refine Aa (A0 h₁ (λ_ s₁' h₁'=>?_) λ_ _ h'=>h'.elim);refine Aa (A0 h₁' (λ_ s₂ h₂=>Aa (A0 h₂ (λok s₃ h₃=>?_) λ_ _ h'=>h'.elim)) λ_ _ h'=>h'.elim);cases ok with
  | false=>exact Ac ⟨rfl,h₃⟩
  | true=> exact Aa (Aa (A0 h₃ (λx s₄ h₄=>Aa (A0 h₄ (λ_ s₅ h₅=>Ac (Ac ⟨rfl,h₅⟩)) λ_ _ h'=>h'.elim)) λ_ _ h'=>h'.elim))
end
def IU(X:Cx)(ifs:List Expr)(t:TT):Prop:=
 ∀(pins:List (Addr×Obj))(s:Shared)(σ:St)(H:Hp)(Q:Bool→Hp→Prop),Inv X pins σ H s→t σ H Q→
  wpAny (model X.prog X.w) X.A (forIn ifs true λc r=>if r=true then do let ok ←isTrue c X.env (eval c X.env);pure (ForInStep.yield ok) else pure (ForInStep.yield r)) (TP X pins σ Q) X.xe s
def LD:TT:=λ_ H Q=>Q true H
theorem Kn:IU X [] LD:=λ_ _ _ H _ I h=>wpAny_tests_nil ⟨H,I,h⟩
theorem Ks{c:Expr}{t:TT}(h:PT X c t):IU X [c] t:=λpins s σ H Q I hw=>wpAny_tests_one (h pins s σ H Q I hw)
def K5(J:It)(p:Addr)(js:I_)(g:TG)(tc:TT)(te:TE)(σ:St)(H:Hp)(Q:VK):Prop:=
 ∃W:Nat→Nat→St→List V→Hp→Prop,(∃m,W 0 m (J6 js σ) [] (upd H p (.lst [])))∧∀i m σ' ys H,W i m σ' ys H→H p=some (.lst ys)∧
  ((J.stop i H∧Q (.ref p) H)∨(J.go i H∧ys.length<A1∧∀x H',J.yld i H x H'→g x σ' H' λσ2 H2=>tc σ2 H2 λb H3=>
    if b=true then te σ2 H3 λy H4=>H4 p=some (.lst ys)∧∃m',m'<m∧W (i+1) m' σ2 (ys++[y]) (upd H4 p (.lst (ys++[y])))
    else ∃m',m'<m∧W (i+1) m' σ2 ys H3))
def Wf(wi:TI)(js:I_)(g:TG)(tc:TT)(te:TE):TE:=λσ H Q=>wi σ H λJ H1=>∀p,H1 p=none→K5 J p js g tc te σ H1 Q
structure CapOk(X:Cx)(N':List Str)(js:I_)(scope:Scope):Prop where
 len:js.length=N'.length
 kind:scope.kind= .function
 cells:∀p∈scope.names,p.2= .cell→scope.names.lookup p.1=some .cell
 names:∀p∈scope.names,p.2= .local→scope.names.lookup p.1=some .local
 free:∀p∈scope.names,p.2= .free→X.env.kindOf p.1=some .cell∨X.env.kindOf p.1=some .free
 cap:∀(i j:Nat),js[i]?=some (some j)→∃x,N'[i]?=some x∧X.N[j]?=some x∧scope.names.lookup x=some .free
theorem QL{names:List (Str×NameKind)}{k:NameKind}(h:names.lookup x=some k):(x,k)∈names:=by
 induction names with
 | nil=>cases h
 | cons p r ih=>
  obtain⟨n,k'⟩:=p;rw[Cc] at h;cases hb:x==n with
  | true=> rw[hb] at h;cases h;rw[show x=n from eq_of_beq hb];exact Ai
  | false=> rw[hb] at h;exact Ag _ (ih h)
theorem Wa{env:Env}{k:NameKind}(h:(relabel scope env).names.lookup x=some k):∃k0,scope.names.lookup x=some k0∧(k=k0∨(k0= .free∧k= .cell)):=by
 have go:∀(names:List (Str×NameKind)),(names.map λ(p:Str×NameKind)=>if(p.2==NameKind.free && env.scope.kind== .function && env.kindOf p.1==some .cell) then(p.1,NameKind.cell) else(p.1,p.2)).lookup x=some k→
  ∃k0,names.lookup x=some k0∧(k=k0∨(k0= .free∧k= .cell)):=by
  intro names
  induction names with
  | nil=>intro h;cases h
  | cons p r ih=>
   obtain⟨n,k'⟩:=p;intro h;rw[Ax] at h;by_cases hc:(k'==NameKind.free && env.scope.kind== .function && env.kindOf n==some .cell)=true
   · rw[if_pos hc] at h;rw[Cc] at h ⊢;cases hb:x==n with
     | true=>
      rw[hb] at h;cases h;have:k'= .free:=by cases k'<;>first | rfl | (simp at hc)
      exact⟨k',rfl,.inr ⟨this,rfl⟩⟩
     | false=> rw[hb] at h;exact ih h
   · rw[if_neg hc] at h;rw[Cc] at h ⊢;cases hb:x==n with
     | true=> rw[hb] at h;cases h;exact⟨k',rfl,.inl rfl⟩
     | false=> rw[hb] at h;exact ih h
 exact go scope.names h
theorem zgo{env:Env}(h:scope.names.lookup x=some .free):(relabel scope env).names.lookup x=some .cell∨(relabel scope env).names.lookup x=some .free:=by
 have go:∀(names:List (Str×NameKind)),names.lookup x=some .free→(names.map λ(p:Str×NameKind)=>if(p.2==NameKind.free && env.scope.kind== .function && env.kindOf p.1==some .cell) then(p.1,NameKind.cell) else(p.1,p.2)).lookup x=some .cell∨
  (names.map λ(p:Str×NameKind)=>if(p.2==NameKind.free && env.scope.kind== .function && env.kindOf p.1==some .cell) then(p.1,NameKind.cell) else(p.1,p.2)).lookup x=some .free:=by
  intro names
  induction names with
  | nil=>intro h;cases h
  | cons p r ih=>
   obtain⟨n,k'⟩:=p;intro h;rw[Ax];rw[Cc] at h;by_cases hc:(k'==NameKind.free && env.scope.kind== .function && env.kindOf n==some .cell)=true
   · rw[if_pos hc,Cc];cases hb:x==n with
     | true=>exact .inl rfl
     | false=> rw[hb] at h;exact ih h
   · rw[if_neg hc,Cc];cases hb:x==n with
     | true=> rw[hb] at h;exact .inr h
     | false=> rw[hb] at h;exact ih h
 exact go scope.names h
theorem Pg:∀(names:List (Str×NameKind))(n:Nat)(acc:List (Str×Addr)),BO n names acc=BO n names []++acc
 | [],_,_=>rfl
 | (x,k)::r,n,acc=>by
  unfold BO
  split
  · rw[Pg r _ ((x,n)::acc),Pg r _ [(x,n)],BI];rfl
  · exact Pg r n acc
theorem QW{c:Addr}:∀(names:List (Str×NameKind))(n:Nat)(acc:List (Str×Addr)),(x,c)∈BO n names acc→(x,NameKind.cell)∈names∨(x,c)∈acc
 | [],_,_,h=> .inr h
 | (y,k)::r,n,acc,h=>by
  unfold BO at h
  split at h
  · rename_i hk;rcases QW r _ _ h with z | z
    · exact .inl (Ag _ z)
    · rcases An.mp z with z | z
      · cases z;rw[show k= .cell from eq_of_beq hk];exact .inl Ai
      · exact .inr z
  · rcases QW r _ _ h with z | z
    · exact .inl (Ag _ z)
    · exact .inr z
structure OwnCells(scope:Scope)(cl0 cl:List (Str×Addr))(lo:Nat)(h₁:Heap):Prop where
 own:∀x c,cl.lookup x=some c→(scope.names.lookup x=some .cell→lo<c∧h₁.IsCell c none)∧(scope.names.lookup x≠some .cell→cl0.lookup x=some c)
 has:∀x,scope.names.lookup x=some .cell∨(cl0.lookup x).isSome=true→(cl.lookup x).isSome=true
 inj:∀x y c,scope.names.lookup x=some .cell→scope.names.lookup y=some .cell→cl.lookup x=some c→cl.lookup y=some c→x=y
theorem NL{M:Model}{A:BC}{E:Value→Shared→Prop}{s:Shared}{globals:Addr}{cl0:List (Str×Addr)}{qual:Str}{env:Env}{Q:Env→Shared→Prop}(ok:∀p∈scope.names,p.2= .cell→scope.names.lookup p.1=some .cell)
 (hQ:∀(cl:List (Str×Addr))(h₁:Heap),(∃m,h₁.Ns s.heap.objs.size m)→(∀b u,s.heap.get? b=some u→h₁.get? b=some u)→OwnCells scope cl0 cl s.heap.objs.size h₁→
  Q (newEnv scope s.heap.objs.size globals cl qual none .none (some env) builtinsNs) {s with heap:=h₁,toks:=s.toks+([]:List (Str×Value)).length}):
 wpAny M A (newFunctionEnv scope globals cl0 [] qual none .none (some env)) Q E s:=by
 simp only[newFunctionEnv,Option.isSome_some,if_true];refine Aa (wpAny_alloc ?_);refine Aa (wpAny_layCells _ (λname kind cells=>by cases hkc:kind==NameKind.cell<;>simp[hkc]) _ _ _ _ ?_);have ck:=cellsFrom_ok scope.names (s.heap.push {cls:= .type "dict",data:= .dict #[]}) (s.heap.objs.size+1) [] ⟨λ_ _ hm=>(nomatch hm),List.Pairwise.nil⟩ (by rw[BL];exact Af _);rw[BL] at ck;rw[show({s with heap:=s.heap.push {cls:= .type "dict",data:= .dict #[]}}:Shared).heap.objs.size=s.heap.objs.size+1 from BL ..]
 rw[FO];refine Aa (Ac (Ac ?_));rw[Pg];refine hQ _ _ ⟨_,(Heap.Ns.new s.heap (.type "dict")).keeps (pushCells_keeps _ _)⟩ (λb o e=>pushCells_keeps _ _ b o (Ae _ e)) ?_;have lk:∀x,(BO (s.heap.objs.size+1) scope.names []++cl0).lookup x=((BO (s.heap.objs.size+1) scope.names []).lookup x).or (cl0.lookup x):=λx=>List.lookup_append;have cn:∀x c,(BO (s.heap.objs.size+1) scope.names []).lookup x=some c→scope.names.lookup x=some .cell:=λx c e=>by
  rcases QW _ _ _ (mem_of_lookup e) with z | z
  · exact ok _ z rfl
  · cases z
 refine⟨λx c e=>⟨λhx=>?_,λhx=>?_⟩,λx hx=>?_,λx y c hx hy e1 e2=>?_⟩
 · rw[lk] at e;have q:=CH scope.names (s.heap.objs.size+1) [] (.inl hx);cases z:(BO (s.heap.objs.size+1) scope.names []).lookup x with
   | none=>rw[z] at q;cases q
   | some c'=> rw[z] at e;cases e;have:=ck.empty _ _ (mem_of_lookup z);exact⟨this.2,this.1⟩
 · rw[lk] at e;cases z:(BO (s.heap.objs.size+1) scope.names []).lookup x with
   | none=>rw[z] at e;exact e
   | some c'=>exact absurd (cn x c' z) hx
 · rw[lk];rcases hx with hx | hx
   · have q:=CH scope.names (s.heap.objs.size+1) [] (.inl hx);cases z:(BO (s.heap.objs.size+1) scope.names []).lookup x with
     | none=>rw[z] at q;cases q
     | some c'=>rfl
   · cases z:(BO (s.heap.objs.size+1) scope.names []).lookup x with
     | none=>exact hx
     | some c'=>rfl
 · rw[lk] at e1 e2;have go:∀x,scope.names.lookup x=some .cell→((BO (s.heap.objs.size+1) scope.names []).lookup x).or (cl0.lookup x)=some c→(x,c)∈BO (s.heap.objs.size+1) scope.names []:=λx hx e=>by
    have q:=CH scope.names (s.heap.objs.size+1) [] (.inl hx);cases z:(BO (s.heap.objs.size+1) scope.names []).lookup x with
    | none=>rw[z] at q;cases q
    | some c'=>rw[z] at e;cases e;exact mem_of_lookup z
   exact name_of_addr ck.apart (go x hx e1) (go y hy e2)
theorem NB{N':List Str}{js:I_}{cl0 cl:List (Str×Addr)}{fp:List Addr}{h₁:Heap}{t':Nat}(ok:CapOk X N' js scope)(I:Inv X pins σ H s)
 (h2':∀x c,cl0.lookup x=some c→X.env.cells.lookup x=some c) (h3':∀p∈scope.names,p.2= .free→(cl0.lookup p.1).isSome=true)
 (hf:∀b∈fp,Ix X pins H b) (hlt:∀b∈fp,b<s.heap.objs.size)
 (k:∀b u,s.heap.get? b=some u→h₁.get? b=some u) (hn:∃m,h₁.Ns s.heap.objs.size m) (oc:OwnCells scope cl0 cl s.heap.objs.size h₁):
 Inv (IP X N' scope cl s.heap.objs.size s H fp) [] (J6 js σ) H {s with heap:=h₁,toks:=t'}:=by
 have fresh:H s.heap.objs.size=none:=I.hok.fresh (Af _);have h2:∀x c,cl.lookup x=some c→(scope.names.lookup x=some .cell∧s.heap.objs.size<c∧h₁.IsCell c none)∨X.env.cells.lookup x=some c:=λx c e=>by
  by_cases hx:scope.names.lookup x=some .cell
  · exact .inl ⟨hx,(oc.own x c e).1 hx⟩
  · exact .inr (h2' x c ((oc.own x c e).2 hx))
 have h3:∀p∈scope.names,p.2= .free→(cl.lookup p.1).isSome=true:=λp hp e=>oc.has _ (.inr (h3' p hp e));have kind_of:∀x,((relabel scope X.env).names.lookup x=some .cell∨(relabel scope X.env).names.lookup x=some .free)→scope.names.lookup x=some .cell∨scope.names.lookup x=some .free:=λx hx=>by
  rcases hx with hx | hx
  · obtain⟨k0,e,z⟩:=Wa hx;rcases z with z | ⟨z,_⟩
    · subst z;exact .inl e
    · subst z;exact .inr e
  · obtain⟨k0,e,z⟩:=Wa hx;rcases z with z | ⟨z,z'⟩
    · subst z;exact .inr e
    · cases z'
 have clt:∀x c,X.env.cells.lookup x=some c→c<s.heap.objs.size:=λx c e=>let⟨v,hv⟩:=I.cell x c e;hv.lt;have okc:(IP X N' scope cl s.heap.objs.size s H fp).Ok:=by
  refine⟨I.ok.mod,ok.kind,I.ok.glob,I.ok.blt,Af _,λx y c e1 e2=>?_,λx hx=>?_,λx c hx e=>?_,I.ok.hd,I.ok.frames,.inl rfl,λb hb=>⟨A3 (hlt b hb),λx c e=>?_⟩,I.bs,A4 I.ok.bsz I.sz,λb o e hb=>?_,λb hb hb'=>?_,I.stack,I.stkFree⟩
  · rcases h2 x c e1 with⟨k1,l1,_⟩ | l1
    · rcases h2 y c e2 with⟨k2,l2,_⟩ | l2
      · exact oc.inj x y c k1 k2 e1 e2
      · exact absurd l1 (Nat.lt_asymm (clt y c l2))
    · rcases h2 y c e2 with⟨k2,l2,_⟩ | l2
      · exact absurd l2 (Nat.lt_asymm (clt x c l1))
      · exact I.ok.inj x y c l1 l2
  · have z:(cl.lookup x).isSome=true:=by
     rcases kind_of x hx with e | e
     · exact oc.has x (.inl e)
     · exact h3 _ (QL e) rfl
    cases q:cl.lookup x with
    | none=>rw[q] at z;cases z
    | some c=>exact⟨c,q⟩
  · exact Bo ((oc.own x c e).1 (eq_of_beq hx)).1
  · rcases h2 x c e with⟨_,l,_⟩ | l
    · exact λz=>Nat.lt_asymm (hlt b hb) (z ▸ l)
    · exact(hf b hb).2.2.2.2.1 x c l
  · rcases(hf b hb).2.2.2.1 with z | z
    · exact I.ok.noex b o e z
    · exact absurd (AG (Aq e) (A4 I.ok.bsz z)) (Cq _)
  · rcases An.mp (I.stkSub b hb') with z | z
    · exact(hf b hb).2.1 z
    · exact(hf b hb).2.2.1 z
 obtain⟨m,hn⟩:=hn;refine⟨okc,rfl,I.bare,Un.kept k,⟨m,hn,λi x v e1 e2 e3=>?_⟩,λx c e=>?_,fresh,λx c e=>?_,(λp hp=>nomatch hp),I.hok.kept k,by show(J6 js σ).length=N'.length;unfold J6;rw[Ab];exact ok.len⟩
 · have e2:(J6 js σ)[i]?=some (some v):=e2;unfold J6 at e2;rw[Aj] at e2;cases q:js[i]? with
   | none=>rw[q] at e2;cases e2
   | some o=>
    rw[q] at e2;cases o with
    | none=>cases e2
    | some j=>
     obtain⟨x',n1,n2,n3⟩:=ok.cap i j q;have e1:N'[i]?=some x:=e1;rw[n1] at e1;cases e1;have e2:(σ[j]?).join=some v:=AD e2;have e2':σ[j]?=some (some v):=by
      cases q2:σ[j]? with
      | none=>rw[q2] at e2;cases e2
      | some o2=>rw[q2] at e2;exact congrArg some e2
     obtain⟨mo,hno,hlo⟩:=I.loc;have kx:=ok.free _ (QL n3) rfl;have vis:Os X.env.scope x:=by
      rcases kx with z | z
      · exact .inr (.inl z)
      · exact .inr (.inr z)
     obtain⟨u,r,l⟩:=hlo j x v n2 e2' vis;refine⟨u,r,.inr ⟨zgo n3,?_⟩⟩;rcases l with⟨z,_⟩ | ⟨_,c,hc,hcell⟩
     · rcases kx with y | y<;>(rw[z] at y;cases y)
     · have z:=h3 _ (QL n3) rfl;cases q3:cl.lookup x with
       | none=>rw[q3] at z;cases z
       | some c'=> have:=h2' x c' ((oc.own x c' q3).2 (by rw[n3];decide));rw[hc] at this;cases this;exact⟨c,q3,hcell.keeps k⟩
 · rcases h2 x c e with⟨_,_,l⟩ | l
   · exact⟨_,l⟩
   · obtain⟨v,hv⟩:=I.cell x c l;exact⟨v,hv.keeps k⟩
 · rcases h2 x c e with⟨_,l,_⟩ | l
   · exact I.hok.fresh (Bo l)
   · exact I.freeC x c l
section
variable{tg iter elt:Expr}{ifs:List Expr}{wi:TI}{js:I_}{g:TG}{tc:TT}{te:TE}{N':List Str}
theorem Ux{pins:List (Addr×Obj)}{σ:St}{H:Hp}{s:Shared}{E:Value→Shared→Prop}{Q:VK}{J:It}{it:Addr}{fp:List Addr}{tn:Nat→Heap→Prop}{cl:List (Str×Addr)}
 (hc:X.calm=true) (ok:CapOk X N' js scope)
 (h2:∀x c,cl.lookup x=some c→X.env.cells.lookup x=some c) (h3:∀p∈scope.names,p.2= .free→(cl.lookup p.1).isSome=true)
 (hg:∀cl C s₀ H₀ ex,PG (IP X N' scope cl C s₀ H₀ ex) tg g) (ht:∀cl C s₀ H₀ ex,IU (IP X N' scope cl C s₀ H₀ ex) ifs tc) (he:∀cl C s₀ H₀ ex,PE (IP X N' scope cl C s₀ H₀ ex) elt te)
 (I:Inv X pins σ H s) (T:Turn X.prog X.w X.K tg J fp it tn) (st:tn 0 s.heap) (hf:∀b∈fp,Ix X pins H b)
 (hw:∀p,H p=none→K5 J p js g tc te σ H Q):
 wpAny (model X.prog X.w) X.A (newList []) (λacc s₃=>wpAny (model X.prog X.w) X.A (newFunctionEnv scope X.env.globals cl [] X.env.qual none .none (some X.env)) (λcenv s₄=>
  codeAny (model X.prog X.w) X.A (.compStart (.ListComp elt [⟨tg,iter,ifs,0⟩] scope pos) 0 (.ref it) acc {cenv with scope:=relabel scope X.env})
   (λr s'=>r= .ok .next∧(∃m,s'.heap.Ns cenv.locals m)∧∃v H',RelV v acc∧Inv X pins σ H' s'∧Ix X pins H' cenv.locals∧Q v H') s₄) E s₃) E s:=by
 have objs:=T.obj _ _ st;refine Be ?_ (by show 0≤A1;decide);obtain⟨W,⟨m0,w0⟩,turn⟩:=hw s.heap.objs.size (I.hok.fresh (Af _));generalize hp:s.heap.objs.size=p at*;have kp:∀b u,s.heap.get? b=some u→(s.heap.push {cls:= .type "list",dict:=none,data:= .seq ([]:List Value).toArray}).get? b=some u:=λb u e=>Ae _ e;have I3:Inv X pins σ (upd H p (.lst [])) {s with heap:=s.heap.push {cls:= .type "list",dict:=none,data:= .seq ([]:List Value).toArray}}:=by refine I.laid (t':=s.toks) kp (by rw[hp];exact Af _) ⟨AI _,[],0,.nil,?_⟩;have:=Ay s.heap (o:={cls:= .type "list",dict:=none,data:= .seq ([]:List Value).toArray}) rfl;rw[hp] at this;exact this
 have fne:∀b∈fp,b≠p:=λb hb=>by obtain⟨o,e,_⟩:=objs b hb;have:=Aq e;rw[←hp];exact A3 this
 have hf3:∀b∈fp,Ix X pins (upd H p (.lst [])) b:=λb hb=>⟨by rw[Iy (fne b hb)];exact(hf b hb).1,(hf b hb).2⟩;have st3:tn 0 (s.heap.push {cls:= .type "list",dict:=none,data:= .seq ([]:List Value).toArray}):=T.keep _ _ _ st λb _ o e=>kp b o e;have lt3:∀b∈fp,b<(s.heap.push {cls:= .type "list",dict:=none,data:= .seq ([]:List Value).toArray}).objs.size:=λb hb=>by obtain⟨o,e,_⟩:=objs b hb;exact Aq (kp b o e)
 generalize hs3:({s with heap:=s.heap.push {cls:= .type "list",dict:=none,data:= .seq ([]:List Value).toArray}}:Shared)=s3 at*
 have eh:s.heap.push {cls:= .type "list",dict:=none,data:= .seq ([]:List Value).toArray}=s3.heap:=by rw[←hs3]
 rw[eh] at st3 lt3;refine NL ok.cells λcl h₁ hns₁ k4 oc=>?_;have I4:=NB (cl:=cl) (h₁:=h₁) (t':=s3.toks+([]:List (Str×Value)).length) ok I3 h2 h3 hf3 lt3 k4 hns₁ oc;have st4:tn 0 h₁:=T.keep _ _ _ st3 λb _ o e=>k4 b o e;generalize hX:IP X N' scope cl s3.heap.objs.size s3 (upd H p (.lst [])) fp=X' at I4;have hg':PG X' tg g:=by rw[←hX];exact hg _ _ _ _ _
 have ht':IU X' ifs tc:=by rw[←hX];exact ht _ _ _ _ _
 have he':PE X' elt te:=by rw[←hX];exact he _ _ _ _ _
 have eP:X'.prog=X.prog:=by rw[←hX];rfl
 have ew:X'.w=X.w:=by rw[←hX];rfl
 have eK:X'.K=X.K:=by rw[←hX];rfl
 have ec:X'.calm=true:=by rw[←hX];exact hc
 have eA:X'.A=X.A:=by rw[←hX];rfl
 have ex:X'.xe=λ_ _=>False:=by rw[←hX];rfl
 have eE:X'.env=compEnvC scope cl s3.heap.objs.size X.env:=by rw[←hX];rfl
 have eEx:X'.ex=fp:=by rw[←hX];rfl
 have eN:X'.pn=[]:=by rw[←hX];rfl
 have stat:∀{H':Hp},(∀b∈fp,H' b=none)→∀b∈fp,Ix X' [] H' b:=λ{H'}hn b hb=>by have okc:=I4.ok;refine⟨hn b hb,(okc.exf b (by rw[eEx];exact hb)).1,okc.exfs b (by rw[eEx];exact hb),.inl (by rw[eEx];exact hb),(okc.exf b (by rw[eEx];exact hb)).2,λq hq=>?_⟩;rw[eN] at hq;cases hq
 have loop:∀s₄:Shared,s₄={s3 with heap:=h₁,toks:=s3.toks+([]:List (Str×Value)).length}→
  codeAny (model X.prog X.w) X.A (.compLoop (.ListComp elt [⟨tg,iter,ifs,0⟩] scope pos) 0 (.ref it) (.ref p) (compEnvC scope cl s3.heap.objs.size X.env))
   (λr s'=>r= .ok .next∧(∃m,s'.heap.Ns s3.heap.objs.size m)∧∃v H',RelV v (.ref p)∧Inv X pins σ H' s'∧Ix X pins H' s3.heap.objs.size∧Q v H') s₄:=by
  rintro s₄ rfl;refine zhF (λn s'=>∃i σ' ys H',Inv X' [] σ' H' s'∧tn i s'.heap∧(∀b∈fp,H' b=none)∧W i n σ' ys H') ?_ m0 ⟨0,_,[],_,I4,st4,λb hb=>(hf3 b hb).1,w0⟩;rintro n s5 ⟨i,σ5,ys,H5,I5,st5,fr5,w5⟩;obtain⟨hp5,tu⟩:=turn i n σ5 ys H5 w5;rcases tu with⟨stop,qn⟩ | ⟨go,hz,step⟩
  · have D:=T.done X' eP ew eK ec i [] s5 σ5 H5 (λ_ _=>False) I5 (stat fr5) st5 stop;rw[eA] at D;refine Il D λr s6 ⟨hr,I6⟩=>?_;subst hr;refine⟨rfl,?_,.ref p,H5,rfl,?_,?_,qn⟩
    · obtain⟨m,hm,_⟩:=I6.loc;rw[eE] at hm;exact⟨m,hm⟩
    · have b6:=I6.base;have ho:=I6.os;have hk:=I6.hok;have hb:=I6.bare;subst hX;exact I3.call' (ch:=fp) ho b6 hk hb λb hb'=>⟨(hf b hb').2.2.2.1,(hf b hb').2.1,(hf b hb').2.2.2.2.1,(hf b hb').2.2.2.2.2⟩
    · have fr:=I6.free;rw[eE] at fr;exact I3.fpOk (Af _) fr
  · have D:=T.item X' eP ew eK ec i [] s5 σ5 H5 (λ_ _=>False) I5 (stat fr5) st5 go;rw[eA] at D;refine Il D λr s6 ⟨u,hr,h6⟩=>?_;subst hr;refine Il h6 λ_ s7 ⟨x,H7,I7,r7,y7,st7,fr7⟩=>?_;have I7':=I7.pinned (stat fr7) (T.obj _ _ st7);have G:=hg' _ s7 σ5 H7 x u _ I7' r7 (step x H7 y7);rw[eP,ew,eA,ex,eE] at G;refine Il G λ_ s8 ⟨σ8,H8,I8,q8⟩=>?_;have Tt:=ht' _ s8 σ8 H8 _ I8 q8;rw[eP,ew,eA,ex,eE] at Tt;refine Il Tt λb s9 ⟨H9,I9,q9⟩=>?_;have again:∀{s':Shared}{ys':List V}{H':Hp},Inv X' ([]++Ls fp s7.heap) σ8 H' s'→(∃m',m'<n∧W (i+1) m' σ8 ys' H')→
     ∃m,m<n∧∃i σ' ys H',Inv X' [] σ' H' s'∧tn i s'.heap∧(∀b∈fp,H' b=none)∧W i m σ' ys H':=λ{s' ys' H'}I' ⟨m',hm,w'⟩=>by
     refine⟨m',hm,i+1,σ8,ys',H',I'.unpinned,T.keep _ _ _ st7 λb hb o e=>(I'.pin (b,o) (Ah _ (Ah _ (K4 hb e)))).1,λb hb=>?_,w'⟩;obtain⟨o,e,d⟩:=T.obj _ _ st7 b hb;exact(I'.pin (b,o) (Ah _ (Ah _ (K4 hb e)))).2.1
    cases b with
    | false=>exact again I9 q9
    | true=> have Ee:=he' _ s9 σ8 H9 _ I9 q9;rw[eP,ew,eA,ex,eE] at Ee;show wpAny _ _ _ _ _ _;refine Il Ee λxv s10 ⟨y,H10,I10,r10,hp10,q10⟩=>?_;have Ap:=Ld (X:=X') _ s10 σ8 H10 (.ref p) [y] (.ref p) [xv] (λ_ H'=>H'=upd H10 p (.lst (ys++[y]))) I10 rfl (.cons r10 .nil) ⟨p,ys,y,rfl,rfl,hp10,hz,rfl⟩;rw[eP,ew,eA,ex] at Ap;refine Il Ap λ_ s11 ⟨_,H11,I11,_,e11⟩=>?_;subst e11;exact again I11 q10
 exact FD (loop _ rfl) (T.self _ 0 _ _ _ st4 (loop _ rfl))
theorem JZ(hc:X.calm=true)(ok:CapOk X N' js scope)(hi:PI X tg iter wi)
 (hg:∀cl C s₀ H₀ ex,PG (IP X N' scope cl C s₀ H₀ ex) tg g) (ht:∀cl C s₀ H₀ ex,IU (IP X N' scope cl C s₀ H₀ ex) ifs tc) (he:∀cl C s₀ H₀ ex,PE (IP X N' scope cl C s₀ H₀ ex) elt te)
 (hs:∀x,Bq iter X.env x=pure x:=by intro _;rfl):PE X (.ListComp elt [⟨tg,iter,ifs,0⟩] scope pos) (Wf wi js g tc te):=by
 intro pins s σ H Q I h;obtain⟨cl,c1,c2,c3⟩:=MO (scope:=scope) I.ok.has ok.free;rw[eval_ListComp];refine Cd (use:=none) rfl hs c1 ok.kind ok.names (Il (hi pins s σ H _ I h) λv s1 h1=>Il h1 λitv s2 h2=>?_);obtain⟨it,fp,tn,J,H2,e,I2,T,st2,f2,hw⟩:=h2;subst e;refine A0 (Ux (iter:=iter) (pos:=pos) hc ok c2 c3 hg ht he I2 T st2 f2 hw) (λacc s3 h3=>A0 h3 (λcenv s4 h4=>?_) λ_ _ z=>z) λ_ _ z=>z;refine BU h4 λr s5 h5=>?_;obtain⟨rfl,⟨m,hm⟩,v,H5,rv,I5,f5,q5⟩:=h5;refine⟨m,hm,λh' sb=>?_⟩;obtain⟨f0,f1,_,f3,f4,f6⟩:=f5;exact⟨v,H5,I5.turned (t':=s5.toks) (λb o hb e=>(sb.2 b hb).trans e) f0 f1 f3 f4 f6,rv,q5⟩
theorem LX{px:Pos}{spos:Pos}(hN:X.N.Nodup)(hi':X.N[i]?=some x)(hx:MC X.env.scope x)(hc:X.calm=true)(ok:CapOk X N' js scope)(hi:PI X tg iter wi)
 (hg:∀cl C s₀ H₀ ex,PG (IP X N' scope cl C s₀ H₀ ex) tg g) (ht:∀cl C s₀ H₀ ex,IU (IP X N' scope cl C s₀ H₀ ex) ifs tc) (he:∀cl C s₀ H₀ ex,PE (IP X N' scope cl C s₀ H₀ ex) elt te)
 (hsw:swapsWith (.ListComp elt [⟨tg,iter,ifs,0⟩] scope pos) (some (.Name x px)) spos.line X.env=pure true:=by rfl)
 (hs:∀x,Bq iter X.env x=pure x:=by intro _;rfl) (hf:X.fn x=true∨X.env.scope.names.lookup x=some .local:=by first | exact .inl rfl | exact .inr rfl | assumption):
 PS X (.Assign [.Name x px] (.ListComp elt [⟨tg,iter,ifs,0⟩] scope pos) spos) (K8 (Wf wi js g tc te) (Kx i)):=by
 intro pins s σ H D I h;obtain⟨cl,c1,c2,c3⟩:=MO (scope:=scope) I.ok.has ok.free;rw[exec_Assign_Name_used _ _ _ _ hsw];refine Aa (Bm (Aa ?_));show wpAny _ X.A (do let _ ←comprehension (.ListComp elt [⟨tg,iter,ifs,0⟩] scope pos) scope X.env _ (newList []) false (eval iter X.env) (some (assign (.Name x px) X.env))) _ _ s
 refine Aa (A0 (Cd (use:=some (assign (.Name x px) X.env)) (Q:=λ_ s'=>SP X pins D .next s') rfl hs c1 ok.kind ok.names
  (Il (hi pins s σ H _ I h) λv s1 h1=>Il h1 λitv s2 h2=>?_)) (λ_ s' hq=>Ac (Ac hq)) λ_ _ e=>e)
 obtain⟨it,fp,tn,J,H2,e,I2,T,st2,f2,hw⟩:=h2;subst e;refine A0 (Ux (Q:=λx H1=>Kx i x σ H1 D.nx) (iter:=iter) (pos:=pos) hc ok c2 c3 hg ht he I2 T st2 f2 hw) (λacc s3 h3=>A0 h3 (λcenv s4 h4=>?_) λ_ _ z=>z) λ_ _ z=>z;refine BU h4 λr s5 h5=>?_;obtain⟨rfl,⟨m,hm⟩,v,H5,rv,I5,f5,q5⟩:=h5;obtain⟨f0,f1,f2',f3,f4,f6⟩:=f5;show wpAny _ X.A (assign (.Name x px) X.env acc) _ _ _;refine ER (Qy I5 hN hi' hx rv (λs6 I6 ch=>?_) hf);obtain⟨a,sb,ha⟩:=ch;have na:cenv.locals≠a:=by
  rcases ha with z | z
  · rw[z];exact f1
  · exact λy=>f4 x a z y.symm
 refine⟨m,hm.sameBut sb na,λh' sb'=>⟨_,H5,I6.turned (t':=s6.toks) (λb o hb e=>(sb'.2 b hb).trans e) f0 f1 f3 f4 f6,q5⟩⟩
end
end L2
set_option exponentiation.threshold 2000
namespace L2
def Sd(i j:Int):Prop:=0≤j∧j≤1000∧i.natAbs<2^1000
def WG(i j:Int):Prop:=0<j∧j<2^1000
theorem Ly:IY X (binaryOp .Pow) (rI Sd λi j=> .int (i^j.toNat)):=N_ λi j _ _ _ _ _ hc q=>by
 obtain⟨h0,h1,h2⟩:=hc;refine pow_int h0 ?_ q;have hb:E3 i≤1000:=intBits_le h2;have e1:((E3 i:Nat):Int)*j≤1000*1000:=by have a1:((E3 i:Nat):Int)*j≤1000*j:=Int.mul_le_mul_of_nonneg_right (by omega) h0;have a2:1000*j≤1000*1000:=Int.mul_le_mul_of_nonneg_left h1 (by decide);exact Int.le_trans a1 a2
 exact Int.le_trans e1 (by decide)
theorem OQ:IY X (binaryOp .FloorDiv) (rI WG λi j=> .int (i / j)):=N_ λi j _ _ _ _ _ hc q=>by
 obtain⟨h0,h1⟩:=hc;refine floordiv_int (by omega) ?_ (.inl (PyProof.noPylong_of_log2 ?_))
 · rw[Int.fdiv_eq_ediv_of_nonneg _ (by omega)];exact q
 · have h2:j.natAbs<2^1000:=by
    have e:((j.natAbs:Nat):Int)=j:=by omega
    have h3:((j.natAbs:Nat):Int)<((2^1000:Nat):Int):=by rw[e,Int.natCast_pow];exact h1
    exact Int.ofNat_lt.mp h3
   have h4:j.natAbs≠0:=by omega
   have h5:=(Nat.log2_lt h4).mpr h2;omega
inductive PD where
 | non | bl (b:Bool) | int (i:Int) | str (x:Str) | lst (ds:List PD) | tup (ds:List PD)
mutual
def Rep(K:Ad)(H:Hp):PD→V→Prop
 | .non,v=>v= .non
 | .bl b,v=>v= .bl b
 | .int i,v=>v= .int i
 | .str x,v=>v= .str x
 | .lst ds,v=>∃a xs,v= .ref a∧SqL K H a xs∧Reps K H ds xs
 | .tup ds,v=>∃a xs,v= .ref a∧SqT K H a xs∧Reps K H ds xs
def Reps(K:Ad)(H:Hp):List PD→List V→Prop
 | [],xs=>xs=[]
 | d::ds,xs=>∃x r,xs=x::r∧Rep K H d x∧Reps K H ds r
end
mutual
def Ir:PD→PD→Bool
 | .non,.non=>true
 | .bl a,.bl b=>a==b
 | .bl a,.int b=>(if a then 1 else 0)==b
 | .int a,.bl b=>a==(if b then 1 else 0)
 | .int a,.int b=>a==b
 | .str a,.str b=>a==b
 | .lst xs,.lst ys=>Jr xs ys
 | .tup xs,.tup ys=>Jr xs ys
 | _,_=>false
def Jr:List PD→List PD→Bool
 | [],[]=>true
 | x::xs,y::ys=>Ir x y && Jr xs ys
 | _,_=>false
end
mutual
def Jk:PD→Nat
 | .lst ds=>JC ds+1
 | .tup ds=>JC ds+1
 | _=>0
def JC:List PD→Nat
 | []=>0
 | d::ds=>max (Jk d) (JC ds)
end
mutual
theorem Qt:∀d:PD,Ir d d=true
 | .non=>rfl
 | .bl b=>by simp[Ir]
 | .int i=>by simp[Ir]
 | .str x=>by simp[Ir]
 | .lst ds=>by rw[Ir];exact OW ds
 | .tup ds=>by rw[Ir];exact OW ds
theorem OW:∀ds:List PD,Jr ds ds=true
 | []=>by rw[Jr]
 | d::ds=>by rw[Jr,Qt d,OW ds];rfl
end
theorem Reps.length{K:Ad}:∀{ds:List PD}{xs:List V},Reps K H ds xs→xs.length=ds.length
 | [],xs,h=>by rw[Reps] at h;rw[h];rfl
 | d::ds,xs,h=>by rw[Reps] at h;obtain⟨x,r,rfl,_,h⟩:=h;rw[AB,AB,Reps.length h]
theorem MV:∀{xs ys:List PD},xs.length≠ys.length→Jr xs ys=false
 | [],[],h=>absurd rfl h
 | [],_::_,_=>by rw[Jr];all_goals simp
 | _::_,[],_=>by rw[Jr];all_goals simp
 | x::xs,y::ys,h=>by rw[Jr,MV (xs:=xs) (ys:=ys) (by simpa using h)];simp
def Nd(xs ys:List PD)(j:Nat):Bool:=match xs[j]?,ys[j]? with
 | some a,some b=>Ir a b
 | _,_=>false
theorem NM:∀(xs ys:List PD),xs.length=ys.length→(AJ xs.length).all (Nd xs ys)=Jr xs ys
 | [],[],_=>by rw[Jr];rfl
 | x::xs,y::ys,h=>by rw[Jr,AB,FE,C9,List.all_map];rw[←NM xs ys (by simpa using h)];rfl
theorem SqT.notL{K:Ad}{ys:List V}(I:Inv X pins σ H s)(h:SqT X.K H a xs)(h':SqL X.K H a ys):False:=by obtain⟨its,_,p,_⟩:=I.tuple h;obtain⟨its',_,p',_⟩:=I.list h';exact SeqAt.ne_of_list_tuple p'.isList (show s.heap.IsTuple a its.toArray from p) rfl
mutual
theorem Nr(I:Inv X pins σ H s):∀(d e:PD)(v:V),Rep X.K H d v→Rep X.K H e v→d=e
 | .non,e,v,h,h'=>by rw[Rep] at h;subst h;cases e<;>rw[Rep] at h'<;>first | rfl | (obtain⟨_,_,z,_⟩:=h';cases z;done) | (cases h';done)
 | .bl b,e,v,h,h'=>by rw[Rep] at h;subst h;cases e<;>rw[Rep] at h'<;>first | (obtain⟨_,_,z,_⟩:=h';cases z;done) | (cases h';done) | (cases h';rfl)
 | .int i,e,v,h,h'=>by rw[Rep] at h;subst h;cases e<;>rw[Rep] at h'<;>first | (obtain⟨_,_,z,_⟩:=h';cases z;done) | (cases h';done) | (cases h';rfl)
 | .str x,e,v,h,h'=>by rw[Rep] at h;subst h;cases e<;>rw[Rep] at h'<;>first | (obtain⟨_,_,z,_⟩:=h';cases z;done) | (cases h';done) | (cases h';rfl)
 | .lst ds,e,v,h,h'=>by
  rw[Rep] at h;obtain⟨a,xs,rfl,q,r⟩:=h;cases e with
  | lst es=> rw[Rep] at h';obtain⟨a',ys,z,q',r'⟩:=h';cases z;have:=I.list_inj q q';subst this;rw[Qh I ds es xs r r']
  | tup es=> rw[Rep] at h';obtain⟨a',ys,z,q',r'⟩:=h';cases z;exact(SqT.notL (K:=X.K) I q' q).elim
  | _=>rw[Rep] at h';cases h'
 | .tup ds,e,v,h,h'=>by
  rw[Rep] at h;obtain⟨a,xs,rfl,q,r⟩:=h;cases e with
  | tup es=> rw[Rep] at h';obtain⟨a',ys,z,q',r'⟩:=h';cases z;have:=I.tuple_inj q q';subst this;rw[Qh I ds es xs r r']
  | lst es=> rw[Rep] at h';obtain⟨a',ys,z,q',r'⟩:=h';cases z;exact(SqT.notL (K:=X.K) I q q').elim
  | _=>rw[Rep] at h';cases h'
theorem Qh(I:Inv X pins σ H s):∀(ds es:List PD)(vs:List V),Reps X.K H ds vs→Reps X.K H es vs→ds=es
 | [],es,vs,h,h'=>by
  rw[Reps] at h;subst h;cases es with
  | nil=>rfl
  | cons e es=>rw[Reps] at h';obtain⟨_,_,z,_⟩:=h';cases z
 | d::ds,es,vs,h,h'=>by
  rw[Reps] at h;obtain⟨x,r,rfl,h1,h2⟩:=h;cases es with
  | nil=>rw[Reps] at h';cases h'
  | cons e es=> rw[Reps] at h';obtain⟨x',r',z,h1',h2'⟩:=h';cases z;rw[Nr I d e x h1 h1',Qh I ds es r h2 h2']
end
mutual
theorem OP(I:Inv X pins σ H s):∀(A:BC)(d e:PD)(v w:V)(u y:Value),Rep X.K H d v→Rep X.K H e w→RelV v u→RelV w y→A.units+Jk d<cLine→Eo A s u y (Ir d e)
 | A,.non,e,v,w,u,y,h,h',r,r',z=>by
  rw[Rep] at h;subst h;cases r;cases e with
  | non=>rw[Rep] at h';subst h';cases r';rw[Ir];exact Ep _
  | bl b=>rw[Rep] at h';subst h';cases r';exact FY b
  | int b=>rw[Rep] at h';subst h';obtain⟨t,rfl⟩:=r';exact Ex b t
  | str b=>rw[Rep] at h';subst h';obtain⟨t,rfl⟩:=r';exact Ey b t
  | lst es=>rw[Rep] at h';obtain⟨a,xs,rfl,q,_⟩:=h';cases r';obtain⟨its,_,p,_⟩:=I.list q;exact SeqAt.EqAt.none_list p.isList (by omega)
  | tup es=>rw[Rep] at h';obtain⟨a,xs,rfl,q,_⟩:=h';cases r';obtain⟨its,_,p,_⟩:=I.tuple q;exact SeqAt.EqAt.none_tuple p (by omega)
 | A,.bl c,e,v,w,u,y,h,h',r,r',z=>by
  rw[Rep] at h;subst h;cases r;cases e with
  | non=>rw[Rep] at h';subst h';cases r';exact FZ c
  | bl b=>rw[Rep] at h';subst h';cases r';exact F_ c b
  | int b=>rw[Rep] at h';subst h';obtain⟨t,rfl⟩:=r';exact Ge c b t
  | str b=>rw[Rep] at h';subst h';obtain⟨t,rfl⟩:=r';exact Gf c b t
  | lst es=>rw[Rep] at h';obtain⟨a,xs,rfl,q,_⟩:=h';cases r';obtain⟨its,_,p,_⟩:=I.list q;exact SeqAt.EqAt.bool_list c p.isList (by omega)
  | tup es=>rw[Rep] at h';obtain⟨a,xs,rfl,q,_⟩:=h';cases r';obtain⟨its,_,p,_⟩:=I.tuple q;exact SeqAt.EqAt.bool_tuple c p (by omega)
 | A,.int c,e,v,w,u,y,h,h',r,r',z=>by
  rw[Rep] at h;subst h;obtain⟨tc,rfl⟩:=r;cases e with
  | non=>rw[Rep] at h';subst h';cases r';exact Ez c tc
  | bl b=>rw[Rep] at h';subst h';cases r';exact Gg c tc b
  | int b=>rw[Rep] at h';subst h';obtain⟨t,rfl⟩:=r';exact SeqAt.EqAt.int_int c tc b t
  | str b=>rw[Rep] at h';subst h';obtain⟨t,rfl⟩:=r';exact DE c tc b t
  | lst es=>rw[Rep] at h';obtain⟨a,xs,rfl,q,_⟩:=h';cases r';obtain⟨its,_,p,_⟩:=I.list q;exact SeqAt.EqAt.int_list c tc p.isList (by omega)
  | tup es=>rw[Rep] at h';obtain⟨a,xs,rfl,q,_⟩:=h';cases r';obtain⟨its,_,p,_⟩:=I.tuple q;exact SeqAt.EqAt.int_tuple c tc p (by omega)
 | A,.str c,e,v,w,u,y,h,h',r,r',z=>by
  rw[Rep] at h;subst h;obtain⟨tc,rfl⟩:=r;cases e with
  | non=>rw[Rep] at h';subst h';cases r';exact E2 c tc
  | bl b=>rw[Rep] at h';subst h';cases r';exact Gh c tc b
  | int b=>rw[Rep] at h';subst h';obtain⟨t,rfl⟩:=r';exact DF c tc b t
  | str b=>rw[Rep] at h';subst h';obtain⟨t,rfl⟩:=r';exact SeqAt.EqAt.str_str c tc b t
  | lst es=>rw[Rep] at h';obtain⟨a,xs,rfl,q,_⟩:=h';cases r';obtain⟨its,_,p,_⟩:=I.list q;exact SeqAt.EqAt.str_list c tc p.isList (by omega)
  | tup es=>rw[Rep] at h';obtain⟨a,xs,rfl,q,_⟩:=h';cases r';obtain⟨its,_,p,_⟩:=I.tuple q;exact SeqAt.EqAt.str_tuple c tc p (by omega)
 | A,.lst ds,e,v,w,u,y,h,h',r,r',z=>by
  have h0:=h;rw[Rep] at h;obtain⟨a,xs,rfl,q,qs⟩:=h;cases r;obtain⟨its,rv,p,_⟩:=I.list q;cases e with
  | non=>rw[Rep] at h';subst h';cases r';exact SeqAt.EqAt.list_none p.isList (by omega)
  | bl b=>rw[Rep] at h';subst h';cases r';exact SeqAt.EqAt.list_bool b p.isList (by omega)
  | int b=>rw[Rep] at h';subst h';obtain⟨t,rfl⟩:=r';exact SeqAt.EqAt.list_int b t p.isList (by omega)
  | str b=>rw[Rep] at h';subst h';obtain⟨t,rfl⟩:=r';exact SeqAt.EqAt.list_str b t p.isList (by omega)
  | tup es=>rw[Rep] at h';obtain⟨b,ys,rfl,q',_⟩:=h';cases r';obtain⟨its',_,p',_⟩:=I.tuple q';exact SeqAt.EqAt.list_tuple p.isList p' (by omega)
  | lst es=>
   have h0':=h';rw[Rep] at h';obtain⟨b,ys,rfl,q',qs'⟩:=h';cases r';obtain⟨its',rv',p',_⟩:=I.list q';by_cases hab:a=b
   · subst hab;rw[Nr I _ _ _ h0 h0',Qt];exact Ep _
   · refine SeqAt.EqAt.of_refs hab ?_;rw[Ir];rw[Jk] at z;have l1:=qs.length;have l2:=qs'.length;have l3:=rv.length;have l4:=rv'.length;by_cases hl:ds.length=es.length
     · rw[←NM ds es hl];have:=SeqAt.RcAt.lists (e:=Nd ds es) p.isList p'.isList (by simp;omega) (by omega) (λj h1 h2=>?_) (A:=A)
       · simp only[As] at this;rw[show ds.length=its.length by omega];exact this
       · have:=N4 I A.in1 ds es xs ys its its' qs qs' rv rv' (by rw[Ce];omega) j (by simpa using h1) (by simpa using h2);simpa using this
     · rw[MV hl];exact Fj p.isList p'.isList (by simp;omega) (by omega)
 | A,.tup ds,e,v,w,u,y,h,h',r,r',z=>by
  have h0:=h;rw[Rep] at h;obtain⟨a,xs,rfl,q,qs⟩:=h;cases r;obtain⟨its,rv,p,_⟩:=I.tuple q;cases e with
  | non=>rw[Rep] at h';subst h';cases r';exact SeqAt.EqAt.tuple_none p (by omega)
  | bl b=>rw[Rep] at h';subst h';cases r';exact SeqAt.EqAt.tuple_bool b p (by omega)
  | int b=>rw[Rep] at h';subst h';obtain⟨t,rfl⟩:=r';exact SeqAt.EqAt.tuple_int b t p (by omega)
  | str b=>rw[Rep] at h';subst h';obtain⟨t,rfl⟩:=r';exact SeqAt.EqAt.tuple_str b t p (by omega)
  | lst es=>rw[Rep] at h';obtain⟨b,ys,rfl,q',_⟩:=h';cases r';obtain⟨its',_,p',_⟩:=I.list q';exact SeqAt.EqAt.tuple_list p p'.isList (by omega)
  | tup es=>
   have h0':=h';rw[Rep] at h';obtain⟨b,ys,rfl,q',qs'⟩:=h';cases r';obtain⟨its',rv',p',_⟩:=I.tuple q';by_cases hab:a=b
   · subst hab;rw[Nr I _ _ _ h0 h0',Qt];exact Ep _
   · refine SeqAt.EqAt.of_refs hab ?_;rw[Ir];rw[Jk] at z;have l1:=qs.length;have l2:=qs'.length;have l3:=rv.length;have l4:=rv'.length;have:=SeqAt.RcAt.tuples (e:=Nd ds es) p p' (by omega) (λj h1 h2=>?_) (A:=A)
     · simp only[As] at this;by_cases hl:ds.length=es.length
       · rw[←NM ds es hl];rw[show min its.length its'.length=ds.length by omega,show(its.length==its'.length)=true by simp;omega,Bool.and_true] at this;exact this
       · rw[MV hl];rw[show(its.length==its'.length)=false by simp;omega,E9] at this;exact this
     · have:=N4 I A.in1 ds es xs ys its its' qs qs' rv rv' (by rw[Ce];omega) j (by simpa using h1) (by simpa using h2);simpa using this
theorem N4(I:Inv X pins σ H s):∀(A:BC)(ds es:List PD)(vs ws:List V)(us ys:List Value),Reps X.K H ds vs→Reps X.K H es ws→Vals vs us→Vals ws ys→A.units+JC ds<cLine→
 ∀(j:Nat)(h1:j<us.length)(h2:j<ys.length),Eo A s us[j] ys[j] (Nd ds es j)
 | A,[],es,vs,ws,us,ys,h,h',r,r',z=>by rw[Reps] at h;subst h;cases r;intro j h1;exact absurd h1 (CO _)
 | A,d::ds,es,vs,ws,us,ys,h,h',r,r',z=>by
  rw[Reps] at h;obtain⟨x,vr,rfl,g1,g2⟩:=h;cases es with
  | nil=> rw[Reps] at h';subst h';cases r';intro j h1 h2;exact absurd h2 (CO _)
  | cons e es=>
   rw[Reps] at h';obtain⟨x',vr',rfl,g1',g2'⟩:=h';cases r with
   | cons ra rb=>
    cases r' with
    | cons ra' rb'=>
     rw[JC] at z;intro j h1 h2;cases j with
     | zero=>exact OP I A d e x x' _ _ g1 g1' ra ra' (by omega)
     | succ j=>exact N4 I A ds es vr vr' _ _ g2 g2' rb rb' (by omega) j (by simpa using h1) (by simpa using h2)
end
section
variable{R:Result→Shared→Prop}{J:Addr}{fo wo:List Addr}{len:Nat}{At:Nat→Value→Prop}{Sx:Nat→Heap→Prop}
end
section
variable{R:Result→Shared→Prop}{J:Addr}{fo wo:List Addr}{len:Nat}{At:Nat→Value→Prop}{Sx:Nat→Heap→Prop}
end
def Tc(X:Cx)(f:Value)(ks:List Str)(r:List V→List V→Hp→VK→Prop):Prop:=
 ∀(pins:List (Addr×Obj))(s:Shared)(σ:St)(H:Hp)(xs zs:List V)(us ws:List Value)(Q:VK),Inv X pins σ H s→Vals xs us→Vals zs ws→r xs zs H Q→wpAny (model X.prog X.w) X.A (call f us (ks.zip ws)) (EP X pins σ Q) X.xe s
def Rt(r:List V→List V→Hp→VK→Prop)(t tk:TA):TE:=λσ H Q=>t σ H λvs H1=>tk σ H1 λzs H2=>r vs zs H2 Q
theorem zj0{id:String}{ks:List Str}{r:List V→List V→Hp→VK→Prop}{es:List Expr}{kws:List Keyword}{t tk:TA}{p pos:Pos}(hc:Tc X (.builtin id) ks r)(hg:Gl X x)(hm:X.mg x=none)(hv:AW x=some (.builtin id))(ha:PA X (e::es) t)(hkw:PK X kws tk)
 (hks:(backToKw pos (keywordEach kws X.env)).filterMap (·.1)=ks:=by rfl) (hn:x≠"__name__":=by decide) (hdb:(x==("__debug__":Str))=false:=by decide)
 (he:backTo pos (A7 (e::es) X.env)=(false,eval e X.env)::backTo pos (A7 es X.env):=by rfl) (hpl:(backTo pos (A7 (e::es) X.env)).any (·.1)=false:=by rfl)
 (hall:(backToKw pos (keywordEach kws X.env)).all (·.1.isSome)=true:=by rfl) (hkn:(backToKw pos (keywordEach kws X.env)).any (·.1.isNone)=false:=by rfl):
 PE X (.Call (.Name x p) (e::es) kws pos) (Rt r t tk):=by
 intro pins s σ H Q I h;refine Bt (KH I hg hm hv ?_ hn hdb);refine callWith_kw (Il (ha pos pins s σ H _ I h) λus s1 ⟨vs,H1,I1,r1,q1⟩=>?_) he hpl hall hkn;refine Il (hkw pos pins s1 σ H1 _ I1 q1) λws s2 ⟨zs,H2,I2,r2,q2⟩=>?_;rw[hks];exact hc pins s2 σ H2 vs zs us ws Q I2 r1 r2 q2
theorem ziG(I:Inv X pins σ H s)(A:BC)(d e:PD)(v w:V)(u y:Value)(h:Rep X.K H d v)(h':Rep X.K H e w)(r:RelV v u)(r':RelV w y)(z:A.units+Jk d<cLine):SeqAt.RcNeAt A s u y (!Ir d e):=by
 cases d with
 | non=>
  rw[Rep] at h;subst h;cases r;cases e with
  | non=> rw[Rep] at h';subst h';cases r';rw[Ir];exact SeqAt.RcNeAt.none_none
  | bl b=> rw[Rep] at h';subst h';cases r';exact SeqAt.RcNeAt.none_bool b
  | int b=> rw[Rep] at h';subst h';obtain⟨t,rfl⟩:=r';exact SeqAt.RcNeAt.none_int b t
  | str b=> rw[Rep] at h';subst h';obtain⟨t,rfl⟩:=r';exact SeqAt.RcNeAt.none_str b t
  | lst es=> rw[Rep] at h';obtain⟨b,ys,rfl,q',qs'⟩:=h';cases r';obtain⟨its',rv',p',_⟩:=I.list q';exact SeqAt.RcNeAt.none_list p'.isList (by omega)
  | tup es=> rw[Rep] at h';obtain⟨b,ys,rfl,q',qs'⟩:=h';cases r';obtain⟨its',rv',p',_⟩:=I.tuple q';exact SeqAt.RcNeAt.none_tuple p' (by omega)
 | bl c=>
  rw[Rep] at h;subst h;cases r;cases e with
  | non=> rw[Rep] at h';subst h';cases r';exact SeqAt.RcNeAt.bool_none c
  | bl b=> rw[Rep] at h';subst h';cases r';exact SeqAt.RcNeAt.bool_bool c b
  | int b=> rw[Rep] at h';subst h';obtain⟨t,rfl⟩:=r';exact SeqAt.RcNeAt.bool_int c b t
  | str b=> rw[Rep] at h';subst h';obtain⟨t,rfl⟩:=r';exact SeqAt.RcNeAt.bool_str c b t
  | lst es=> rw[Rep] at h';obtain⟨b,ys,rfl,q',qs'⟩:=h';cases r';obtain⟨its',rv',p',_⟩:=I.list q';exact SeqAt.RcNeAt.bool_list c p'.isList (by omega)
  | tup es=> rw[Rep] at h';obtain⟨b,ys,rfl,q',qs'⟩:=h';cases r';obtain⟨its',rv',p',_⟩:=I.tuple q';exact SeqAt.RcNeAt.bool_tuple c p' (by omega)
 | int c=>
  rw[Rep] at h;subst h;obtain⟨tc,rfl⟩:=r;cases e with
  | non=> rw[Rep] at h';subst h';cases r';exact SeqAt.RcNeAt.int_none c tc
  | bl b=> rw[Rep] at h';subst h';cases r';exact SeqAt.RcNeAt.int_bool c tc b
  | int b=> rw[Rep] at h';subst h';obtain⟨t,rfl⟩:=r';exact SeqAt.RcNeAt.int_int c tc b t
  | str b=> rw[Rep] at h';subst h';obtain⟨t,rfl⟩:=r';exact SeqAt.RcNeAt.int_str c tc b t
  | lst es=> rw[Rep] at h';obtain⟨b,ys,rfl,q',qs'⟩:=h';cases r';obtain⟨its',rv',p',_⟩:=I.list q';exact SeqAt.RcNeAt.int_list c tc p'.isList (by omega)
  | tup es=> rw[Rep] at h';obtain⟨b,ys,rfl,q',qs'⟩:=h';cases r';obtain⟨its',rv',p',_⟩:=I.tuple q';exact SeqAt.RcNeAt.int_tuple c tc p' (by omega)
 | str c=>
  rw[Rep] at h;subst h;obtain⟨tc,rfl⟩:=r;cases e with
  | non=> rw[Rep] at h';subst h';cases r';exact SeqAt.RcNeAt.str_none c tc
  | bl b=> rw[Rep] at h';subst h';cases r';exact SeqAt.RcNeAt.str_bool c tc b
  | int b=> rw[Rep] at h';subst h';obtain⟨t,rfl⟩:=r';exact SeqAt.RcNeAt.str_int c tc b t
  | str b=> rw[Rep] at h';subst h';obtain⟨t,rfl⟩:=r';exact SeqAt.RcNeAt.str_str c tc b t
  | lst es=> rw[Rep] at h';obtain⟨b,ys,rfl,q',qs'⟩:=h';cases r';obtain⟨its',rv',p',_⟩:=I.list q';exact SeqAt.RcNeAt.str_list c tc p'.isList (by omega)
  | tup es=> rw[Rep] at h';obtain⟨b,ys,rfl,q',qs'⟩:=h';cases r';obtain⟨its',rv',p',_⟩:=I.tuple q';exact SeqAt.RcNeAt.str_tuple c tc p' (by omega)
 | lst ds=>
  rw[Rep] at h;obtain⟨a,xs,rfl,q,qs⟩:=h;cases r;obtain⟨its,rv,p,_⟩:=I.list q;cases e with
  | non=> rw[Rep] at h';subst h';cases r';exact SeqAt.RcNeAt.list_none p.isList (by omega)
  | bl b=> rw[Rep] at h';subst h';cases r';exact SeqAt.RcNeAt.list_bool b p.isList (by omega)
  | int b=> rw[Rep] at h';subst h';obtain⟨t,rfl⟩:=r';exact SeqAt.RcNeAt.list_int b t p.isList (by omega)
  | str b=> rw[Rep] at h';subst h';obtain⟨t,rfl⟩:=r';exact SeqAt.RcNeAt.list_str b t p.isList (by omega)
  | lst es=>
   rw[Rep] at h';obtain⟨b,ys,rfl,q',qs'⟩:=h';cases r';obtain⟨its',rv',p',_⟩:=I.list q';rw[Ir];rw[Jk] at z;have l1:=qs.length;have l2:=qs'.length;have l3:=rv.length;have l4:=rv'.length;by_cases hl:ds.length=es.length
   · rw[←NM ds es hl];have:=SeqAt.RcNeAt.lists (e:=Nd ds es) p.isList p'.isList (by simp;omega) (by omega) (λj h1 h2=>?_) (A:=A)
     · simp only[As] at this;rw[show ds.length=its.length by omega];exact this
     · have:=N4 I A.in1 ds es xs ys its its' qs qs' rv rv' (by rw[Ce];omega) j (by simpa using h1) (by simpa using h2);simpa using this
   · rw[MV hl];exact EN p.isList p'.isList (by simp;omega) (by omega)
  | tup es=> rw[Rep] at h';obtain⟨b,ys,rfl,q',qs'⟩:=h';cases r';obtain⟨its',rv',p',_⟩:=I.tuple q';exact SeqAt.RcNeAt.list_tuple p.isList p' (by omega)
 | tup ds=>
  rw[Rep] at h;obtain⟨a,xs,rfl,q,qs⟩:=h;cases r;obtain⟨its,rv,p,_⟩:=I.tuple q;cases e with
  | non=> rw[Rep] at h';subst h';cases r';exact SeqAt.RcNeAt.tuple_none p (by omega)
  | bl b=> rw[Rep] at h';subst h';cases r';exact SeqAt.RcNeAt.tuple_bool b p (by omega)
  | int b=> rw[Rep] at h';subst h';obtain⟨t,rfl⟩:=r';exact SeqAt.RcNeAt.tuple_int b t p (by omega)
  | str b=> rw[Rep] at h';subst h';obtain⟨t,rfl⟩:=r';exact SeqAt.RcNeAt.tuple_str b t p (by omega)
  | lst es=> rw[Rep] at h';obtain⟨b,ys,rfl,q',qs'⟩:=h';cases r';obtain⟨its',rv',p',_⟩:=I.list q';exact SeqAt.RcNeAt.tuple_list p p'.isList (by omega)
  | tup es=>
   rw[Rep] at h';obtain⟨b,ys,rfl,q',qs'⟩:=h';cases r';obtain⟨its',rv',p',_⟩:=I.tuple q';rw[Ir];rw[Jk] at z;have l1:=qs.length;have l2:=qs'.length;have l3:=rv.length;have l4:=rv'.length;have:=SeqAt.RcNeAt.tuples (e:=Nd ds es) p p' (by omega) (λj h1 h2=>?_) (A:=A)
   · simp only[As] at this;by_cases hl:ds.length=es.length
     · rw[←NM ds es hl];rw[show min its.length its'.length=ds.length by omega,show(its.length==its'.length)=true by simp;omega,Bool.and_true] at this;exact this
     · rw[MV hl];rw[show(its.length==its'.length)=false by simp;omega,E9] at this;exact this
   · have:=N4 I A.in1 ds es xs ys its its' qs qs' rv rv' (by rw[Ce];omega) j (by simpa using h1) (by simpa using h2);simpa using this
def Ke(X:Cx):Prop:=X.A.units+60<cLine
def LF(K:Ad):R2:=λx y H Q=>∃d e,Rep K H d x∧Rep K H e y∧Jk d<60∧Q (.bl (!Ir d e)) H
theorem O9(hr:Ke X):IY X (A_ .NotEq) (LF X.K):=by intro pins s σ H x y v u Q I rx ry h;obtain⟨d,e,h1,h2,h3,q⟩:=h;unfold Ke at hr;exact ziG I X.A d e x y v u h1 h2 rx ry (by omega) X.prog X.w _ _ ⟨.bl _,H,I,rfl,q⟩
theorem Kb{k:Nat}(hr:Room k A):A.units+60<cLine:=BD (Gi (by decide:60≤64) _) hr.units
theorem Kc{n:String}:Kp X (.builtin "isinstance") (λxs H Q=>∃x t c b,xs=[x,.ty c]∧TyOf X.K H x (.type t)∧PySem.W.kitOne X.K (.type t) (.type c)=some b∧Q (.bl b) H):=by intro pins s σ H xs us Q I r h;obtain⟨x,t,c,b,rfl,ty,e,q⟩:=h;obtain⟨u,w',rfl,ru,rw'⟩:=Ni r;cases rw';exact Zr I ru ty e λtk=>⟨.bl b,H,I.tok tk,rfl,q⟩
section
variable{K:Ad}{p:Addr}{g:TG}{tc:TT}{te:TE}{Q:VK}
abbrev LU(p:Addr)(g:TG)(tc:TT)(te:TE)(ys:List V)(x:V)(σ:St)(H:Hp)(N:St→List V→Hp→Prop):Prop:=
 g x σ H λσ2 H2=>tc σ2 H2 λb H3=>if b=true then te σ2 H3 λy H4=>H4 p=some (.lst ys)∧N σ2 (ys++[y]) (upd H4 p (.lst (ys++[y]))) else N σ2 ys H3
theorem Mv{n:Nat}{J:It}{js:I_}(Pv:Nat→St→List V→Hp→Prop)(h0:Pv 0 (J6 js σ) [] (upd H p (.lst [])))
 (hl:∀i σ ys H,i≤n→Pv i σ ys H→H p=some (.lst ys)∧ys.length<A1)
 (hgo:∀i σ ys H,i<n→Pv i σ ys H→J.go i H) (hst:∀σ ys H,Pv n σ ys H→J.stop n H)
 (hs:∀(i:Nat)x σ ys H H'(N:St→List V→Hp→Prop),i<n→J.yld i H x H'→Pv i σ ys H→(∀σ' ys' H',Pv (i+1) σ' ys' H'→N σ' ys' H')→LU p g tc te ys x σ H' N)
 (hd:∀σ ys H,Pv n σ ys H→Q (.ref p) H):
 K5 J p js g tc te σ H Q:=by
 refine⟨λi m σ ys H=>m=n - i∧i≤n∧Pv i σ ys H,⟨n,by simp,AI _,h0⟩,?_⟩;rintro i m σ ys H ⟨rfl,hi,pv⟩;obtain⟨q1,q2⟩:=hl i σ ys H hi pv;refine⟨q1,?_⟩;by_cases lt:i<n
 · exact .inr ⟨hgo i σ ys H lt pv,q2,λx H' y=>hs i x σ ys H H' (λσ2 ys2 H2=>∃m',m'<n - i∧m'=n - (i+1)∧i+1≤n∧Pv (i+1) σ2 ys2 H2) lt y pv λσ' ys' H' p'=>⟨n - (i+1),by omega,rfl,lt,p'⟩⟩
 · have e:i=n:=by omega
   subst e;exact .inl ⟨hst σ ys H pv,hd σ ys H pv⟩
theorem Lx{js:I_}(Pv:Nat→St→List V→Hp→Prop)(h0:Pv 0 (J6 js σ) [] (upd H p (.lst [])))
 (hl:∀i σ ys H,i≤xs.length→Pv i σ ys H→SqL K H a xs∧H p=some (.lst ys)∧ys.length<A1)
 (hs:∀(i:Nat)x σ ys H(N:St→List V→Hp→Prop),xs[i]?=some x→Pv i σ ys H→(∀σ' ys' H',Pv (i+1) σ' ys' H'→N σ' ys' H')→LU p g tc te ys x σ H N)
 (hd:∀σ ys H,Pv xs.length σ ys H→Q (.ref p) H):K5 (KC K a) p js g tc te σ H Q:=
 Mv (n:=xs.length) (J:=KC K a) (js:=js) (σ:=σ) (H:=H) (p:=p) (Q:=Q) (g:=g) (tc:=tc) (te:=te) Pv h0 (λi σ ys H hi pv=>(hl i σ ys H hi pv).2)
  (λi σ ys H hi pv=>⟨xs,xs[i],(hl i σ ys H (Bo hi) pv).1,by simp[hi]⟩) (λσ ys H pv=>⟨xs,(hl _ σ ys H (Af _) pv).1,Af _⟩)
  (λi x σ ys H H' N hi y pv hN=>by obtain⟨e,y⟩:=y;subst e;exact hs i x σ ys _ N (y xs (hl i σ ys _ (Bo hi) pv).1) pv hN) hd
theorem XT{js:I_}(Pv:Nat→St→List V→Hp→Prop)(h0:Pv 0 (J6 js σ) [] (upd H p (.lst [])))
 (hl:∀i σ ys H,i≤xs.length→Pv i σ ys H→SqT K H a xs∧H p=some (.lst ys)∧ys.length<A1)
 (hs:∀(i:Nat)x σ ys H(N:St→List V→Hp→Prop),xs[i]?=some x→Pv i σ ys H→(∀σ' ys' H',Pv (i+1) σ' ys' H'→N σ' ys' H')→LU p g tc te ys x σ H N)
 (hd:∀σ ys H,Pv xs.length σ ys H→Q (.ref p) H):K5 (Mk K a) p js g tc te σ H Q:=
 Mv (n:=xs.length) (J:=Mk K a) (js:=js) (σ:=σ) (H:=H) (p:=p) (Q:=Q) (g:=g) (tc:=tc) (te:=te) Pv h0 (λi σ ys H hi pv=>(hl i σ ys H hi pv).2)
  (λi σ ys H hi pv=>⟨xs,xs[i],(hl i σ ys H (Bo hi) pv).1,by simp[hi]⟩) (λσ ys H pv=>⟨xs,(hl _ σ ys H (Af _) pv).1,Af _⟩)
  (λi x σ ys H H' N hi y pv hN=>by obtain⟨e,y⟩:=y;subst e;exact hs i x σ ys _ N (y xs (hl i σ ys _ (Bo hi) pv).1) pv hN) hd
theorem Mx{js:I_}{lo:Int}{n:Nat}(Pv:Nat→St→List V→Hp→Prop)(h0:Pv 0 (J6 js σ) [] (upd H p (.lst [])))
 (hl:∀i σ ys H,i≤n→Pv i σ ys H→H p=some (.lst ys)∧ys.length<A1)
 (hs:∀(i:Nat)σ ys H(N:St→List V→Hp→Prop),i<n→Pv i σ ys H→(∀σ' ys' H',Pv (i+1) σ' ys' H'→N σ' ys' H')→LU p g tc te ys (.int (lo+i)) σ H N)
 (hd:∀σ ys H,Pv n σ ys H→Q (.ref p) H):K5 (Ml lo n) p js g tc te σ H Q:=
 Mv (n:=n) (J:=Ml lo n) (js:=js) (σ:=σ) (H:=H) (p:=p) (Q:=Q) (g:=g) (tc:=tc) (te:=te) Pv h0 hl
  (λi σ ys H hi pv=>hi) (λσ ys H pv=>Af n)
  (λi x σ ys H H' N hi y pv hN=>by obtain⟨e,y⟩:=y;subst e y;exact hs i σ ys _ N hi pv hN) hd
end
def Uq(outer:Scope)(N N':List Str)(js:I_)(scope:Scope):Bool:=
 decide (js.length=N'.length) && (scope.kind== .function) && scope.names.all (λp=>(p.2 != .cell || scope.names.lookup p.1==some .cell) && (p.2 != .local || scope.names.lookup p.1==some .local) && (p.2 != .free || (outer.names.lookup p.1==some .cell || outer.names.lookup p.1==some .free)))
  && (AJ js.length).all λi=>match js[i]? with
   | some (some j)=>(match N'[i]? with | some x=>N[j]?==some x && scope.names.lookup x==some .free | none=>false)
   | _=>true
theorem Jq{N N':List Str}{js:I_}{outer:Scope}(h:Uq outer N N' js scope=true)(hN:X.N=N:=by rfl)(ho:X.env.scope=outer:=by rfl):CapOk X N' js scope:=by
 subst hN ho;unfold Uq at h;rw[AM,AM,AM] at h;obtain⟨⟨⟨h1,h2⟩,h3⟩,h4⟩:=h;rw[List.all_eq_true] at h3 h4;refine⟨of_decide_eq_true h1,eq_of_beq h2,λp hp e=>?_,λp hp e=>?_,λp hp e=>?_,λi j e=>?_⟩
 · have:=h3 p hp;rw[e] at this;simp at this;exact this
 · have:=h3 p hp;rw[e] at this;simp at this;exact this
 · have:=h3 p hp;rw[e] at this;simp at this;exact this
 · have hi:i<js.length:=(Al.mp e).1;have:=h4 i (AQ.mpr hi);rw[e] at this;simp only at this;cases q:N'[i]? with
   | none=>rw[q] at this;cases this
   | some x=> rw[q] at this;simp only[AM,beq_iff_eq] at this;exact⟨x,rfl,this.1,this.2⟩
def IH(P:AY)(w:World)(K:Ad)(mg:Str→Option Value)(base:Heap)(k:Nat)(x:Str)(ps:List Str)(sp:Sp):Prop:=
 ∃f fd,FnOk P w K mg base IC k f fd ps sp∧Binds K fd ps []∧E8 K (.ref f)=true∧mg x=some (.ref f)
section
variable{k:Nat}{ps:List Str}{sp:Sp}{es:List Expr}{t:TA}{p:Pos}
theorem Ip(F:IH X.prog X.w X.K X.mg X.base k x ps sp)(hr:Room k X.A)(hg:Gl X x)(ha:PA X (e::es) t)(hdb:(x==("__debug__":Str))=false:=by decide)
 (he:A7 (e::es) X.env=(false,eval e X.env)::A7 es X.env:=by rfl) (hpl:(backTo pos (A7 es X.env)).any (·.1)=false:=by rfl):PE X (.Call (.Name x p) (e::es) [] pos) (Sz sp [] E0 t):=by
 obtain⟨f,fd,h1,h2,h3,h4⟩:=F;exact XW h1 hr hg h4 h3 h2 .nil Sr ha hdb he hpl
end
structure Bl(mg:Str→Option Value):Prop where
 len_:mg "len"=none
 range_:mg "range"=none
 isinstance_:mg "isinstance"=none
 int_:mg "int"=none
 bool_:mg "bool"=none
 tuple_:mg "tuple"=none
 list_:mg "list"=none
 max_:mg "max"=none
 min_:mg "min"=none
 all_:mg "all"=none
 zip_:mg "zip"=none
 str_:mg "str"=none
 dict_:mg "dict"=none
 sorted_:mg "sorted"=none
 set_:mg "set"=none
 any_:mg "any"=none
 sum_:mg "sum"=none
 enumerate_:mg "enumerate"=none
 repr_:mg "repr"=none
 ord_:mg "ord"=none
 chr_:mg "chr"=none
 abs_:mg "abs"=none
 reversed_:mg "reversed"=none
theorem P4:AW "int"=some (.type "int"):=by decide+kernel
theorem PV:AW "bool"=some (.type "bool"):=by decide+kernel
theorem LY:AW "tuple"=some (.type "tuple"):=by decide+kernel
theorem K6:AW "list"=some (.type "list"):=by decide+kernel
theorem P6:AW "str"=some (.type "str"):=by decide+kernel
theorem W0:AW "set"=some (.type "set"):=by decide+kernel
theorem JM:AW "isinstance"=some (.builtin "isinstance"):=by decide+kernel
theorem IW:AW "len"=some (.builtin "len"):=by decide+kernel
theorem Wz:AW "max"=some (.builtin "max"):=by decide+kernel
theorem P5:AW "min"=some (.builtin "min"):=by decide+kernel
theorem Mu:AW "all"=some (.builtin "all"):=by decide+kernel
theorem Vn:AW "sorted"=some (.builtin "sorted"):=by decide+kernel
theorem Lr(h:n≤1000):n≤A1:=Bo (Je h)
theorem Iq{p:Addr}(h:H p=none)(o:HO):Same H (upd H p o):=λb u q=>by rw[Iy (J2 q h)];exact q
def eV:Option Int→V
 | none=> .non
 | some i=> .int i
def SameB(b g:Addr)(H H':Hp):Prop:=∀a o,H a=some o→a≠b→a≠g→H' a=some o
theorem SameB.trans{g:Addr}{H1 H2:Hp}(x:SameB b g H H1)(y:SameB b g H1 H2):SameB b g H H2:=λa o h n1 n2=>y a o (x a o h n1 n2) n1 n2
theorem Same.sameB{g:Addr}{H1:Hp}(x:Same H H1):SameB b g H H1:=λa o h _ _=>x a o h
theorem VI{c:TT}{tb u:TS}{D:Ends}(W:Nat→St→Hp→Prop)(M:St→Hp→Prop)(h0:∃m,W m σ H)
 (hs:∀(m:Nat)σ H(Z:St→Hp→Prop),W m σ H→(∀σ' H',M σ' H'→Z σ' H')→c σ H λb H1=>if b=true then ∃N:St→Hp→Prop,(∀σ' H',N σ' H'→∃m',m'<m∧W m' σ' H')∧tb {nx:=N,rt:=D.rt,bk:=Z,ct:=N} σ H1 else Z σ H1)
 (hd:∀σ H,M σ H→u D σ H):K7 (Tl c tb) u D σ H:=⟨W,h0,λm σ H w=>hs m σ H (u D) w hd⟩
theorem UO{K:Ad}:∀ns:List Int,Reps K H (ns.map PD.int) (ns.map V.int)
 | []=>by show Reps K H [] [];rw[Reps]
 | n::ns=>by show Reps K H (.int n::ns.map PD.int) (.int n::ns.map V.int);rw[Reps];exact⟨_,_,rfl,by rw[Rep],UO ns⟩
theorem Vx:∀ns:List Int,JC (ns.map PD.int)=0
 | []=>by show JC []=0;rw[JC]
 | n::ns=>by
  show JC (.int n::ns.map PD.int)=0;rw[JC,Vx ns,Jk]
  all_goals simp
theorem SA{K:Ad}{p:Addr}{ns:List Int}{Q:VK}(h:SqL K H a (ns.map V.int))(hp:SqL K H p [])(q:Q (.bl (!ns.isEmpty)) H):LF K (.ref a) (.ref p) H Q:=by
 refine⟨.lst (ns.map PD.int),.lst [],by rw[Rep];exact⟨a,_,rfl,h,UO ns⟩,by rw[Rep];exact⟨p,_,rfl,hp,by rw[Reps]⟩,by rw[Jk,Vx];decide,?_⟩;cases ns with
 | nil=>rw[Ir,show Jr (([]:List Int).map PD.int) []=true from OW []];exact q
 | cons n ns=>rw[Ir,MV (by simp)];exact q
theorem RU{α:Type}{x:α}{r:List α}:Jp (x::r) 0=some x:=JN (j:=0) rfl
theorem Wk{α:Type}{x:α}{r:List α}:L3 (x::r).length 0=some 0:=by unfold L3;rw[if_pos (by decide),if_pos (by rw[AB];omega)];rfl
theorem Ww{ls:List Int}{i:Int}(h0:0≤i)(h1:i<(ls.length:Int)):∃v,Jp (ls.map V.int) i=some (.int v)∧v∈ls:=by
 obtain⟨k,rfl⟩:=Cj h0;have hk:k<ls.length:=by omega
 exact⟨ls[k],JN (by rw[Aj,Au hk];rfl),Fl _⟩
theorem K9:(0:Nat)≤A1:=AI _
theorem JI{α:Type}{l:List α}{x:α}(h:l[i]?=some x):l.take (i+1)=l.take i++[x]:=by rw[Dq,h];rfl
theorem OJ{K:Ad}{p:Addr}{Q:VK}{js:I_}{cap:St}{tc:TT}{te:TE}(ns:List Int)(f:Int→Int)(c:Int→Bool)(hn:ns.length≤900)(e:SqL K H a (ns.map V.int))(hp:H p=none)(hσ:J6 js σ=none::cap)
 (ht:∀n H'(R:Bool→Hp→Prop),Same H H'→R (c n) H'→tc (some (.int n)::cap) H' R) (he:∀n H'(R:VK),Same H H'→R (.int (f n)) H'→te (some (.int n)::cap) H' R)
 (hq:∀H',Same H H'→H' p=some (.lst (((ns.filter c).map f).map V.int))→Q (.ref p) H'):K5 (KC K a) p js (Kx 0) tc te σ H Q:=by
 have s0:=Iq hp (.lst []);refine Lx (xs:=ns.map V.int) (λi σ' ys H'=>(∃v,σ'=v::cap)∧Same H H'∧H' p=some (.lst ys)∧ys=((((ns.take i).filter c).map f).map V.int)) ⟨⟨_,hσ⟩,s0,Ij,rfl⟩ ?_ ?_ ?_
 · rintro i σ' ys H' hi ⟨_,s,h1,h2⟩;refine⟨s.seq e,h1,?_⟩;rw[h2];simp only[Ab];have:=AC c (ns.take i);rw[AA] at this;exact Je (by omega)
 · rintro i x σ' ys H' N hx ⟨⟨v,rfl⟩,s,h1,h2⟩ hN;rw[Aj] at hx;cases hn':ns[i]? with
   | none=>rw[hn'] at hx;cases hx
   | some n=>
    rw[hn'] at hx;have hx:V.int n=x:=AD hx;subst hx;refine ht n H' _ s ?_;have e1:=JI hn';cases hc:c n with
    | true=>
     refine Ii (he n H' _ s ⟨h1,hN _ _ _ ⟨⟨_,rfl⟩,?_,Ij,?_⟩⟩)
     · intro b o q;have:b≠p:=λz=>by rw[z,hp] at q;cases q
       rw[Iy this];exact s b o q
     · rw[h2,e1,AV,Bx,if_pos hc];simp
    | false=> refine Ig (hN _ _ _ ⟨⟨_,rfl⟩,s,h1,?_⟩);rw[h2,e1,AV,Bx,if_neg (by rw[hc];exact Ar)];simp
 · rintro σ' ys H' ⟨_,s,h1,h2⟩;refine hq H' s ?_;rw[h1,h2,Ab,AS]
theorem Same.seqT{K:Ad}{H':Hp}(e:Same H H')(h:SqT K H a xs):SqT K H' a xs:=by
 rcases h with(h | ⟨o,h⟩) | h
 · exact .inl (.inl (e _ _ h))
 · exact .inl (.inr ⟨o,e _ _ h⟩)
 · exact .inr h
def Ox(xs:List V):It:=⟨λi _=>i<xs.length,λi H x H'=>H'=H∧xs[i]?=some x,λi _=>xs.length≤i⟩
theorem zfg{K:Ad}{tg:Expr}(it:Addr)(x:Str)(t:Tok):Turn P w K tg (Ox (x.cps.toList.map λc=>V.str ⟨#[c]⟩)) [it] it (λi h=>h.IsStrIter it "str_ascii_iterator" x t i) where
 mem:=by simp
 obj:=λi h st b hb=>by
  have e:b=it:=by simpa using hb
  subst e;obtain⟨o,e,c,d⟩:=st;exact⟨o,e,λv z=>by rw[d] at z;cases z⟩
 keep:=λi h h' st k=>let⟨o,ho,r⟩:=st;⟨o,k it (by simp) o ho,r⟩
 item:=by
  intro X hP hw hK hc i pins s σ H E I hf st hg;subst hP hw hK;have hg:i<(x.cps.toList.map λc=>V.str ⟨#[c]⟩).length:=hg;rw[Ab,A6] at hg;obtain⟨f0,f1,f2,f3,f4,f5⟩:=hf it (by simp);refine wpAny_pyNext_ascii_item st (c:=x.cps[i]) (by simp[hg]) λh' st' sb=>?_;have I1:Inv X pins σ H {s with heap:=h',toks:=s.toks+1}:=I.turned (λb o hb e=>(sb.2 b hb).trans e) f0 f1 f3 f4 f5
  obtain⟨o,e,c,d⟩:=id st';exact⟨_,rfl,MJ (s:={s with heap:=h',toks:=s.toks+1}) e c d (by decide) ⟨.str ⟨#[x.cps[i]]⟩,H,I1,⟨_,rfl⟩,⟨rfl,by rw[Aj,Bj,D9 hg];rfl⟩,st',λb hb=>(hf b hb).1⟩⟩
 done:=by intro X hP hw hK hc i pins s σ H E I hf st hg;subst hP hw hK;have hg:(x.cps.toList.map λc=>V.str ⟨#[c]⟩).length≤i:=hg;rw[Ab,A6] at hg;obtain⟨f0,f1,f2,f3,f4,f5⟩:=hf it (by simp);exact wpAny_pyNext_ascii_end (I.ok.hd hc) st (by simpa using hg) λh' eb=>⟨rfl,I.turned (t':=s.toks) (λb o hb e=>eb b o hb e) f0 f1 f3 f4 f5⟩
 self:=λ_ _ _ _ _ st h=>wpAny_pyIter_striter_ascii st h
theorem zf2{K:Ad}{tg:Expr}(it:Addr)(x:Str)(t:Tok):Turn P w K tg (Ox (x.cps.toList.map λc=>V.str ⟨#[c]⟩)) [it] it (λi h=>h.IsStrIter it "str_iterator" x t i) where
 mem:=by simp
 obj:=λi h st b hb=>by
  have e:b=it:=by simpa using hb
  subst e;obtain⟨o,e,c,d⟩:=st;exact⟨o,e,λv z=>by rw[d] at z;cases z⟩
 keep:=λi h h' st k=>let⟨o,ho,r⟩:=st;⟨o,k it (by simp) o ho,r⟩
 item:=by
  intro X hP hw hK hc i pins s σ H E I hf st hg;subst hP hw hK;have hg:i<(x.cps.toList.map λc=>V.str ⟨#[c]⟩).length:=hg;rw[Ab,A6] at hg;obtain⟨f0,f1,f2,f3,f4,f5⟩:=hf it (by simp);refine wpAny_pyNext_wide_item st (c:=x.cps[i]) (by simp[hg]) λh' st' sb=>?_;have I1:Inv X pins σ H {s with heap:=h',toks:=s.toks+1}:=I.turned (λb o hb e=>(sb.2 b hb).trans e) f0 f1 f3 f4 f5
  obtain⟨o,e,c,d⟩:=id st';exact⟨_,rfl,MJ (s:={s with heap:=h',toks:=s.toks+1}) e c d (by decide) ⟨.str ⟨#[x.cps[i]]⟩,H,I1,⟨_,rfl⟩,⟨rfl,by rw[Aj,Bj,D9 hg];rfl⟩,st',λb hb=>(hf b hb).1⟩⟩
 done:=by intro X hP hw hK hc i pins s σ H E I hf st hg;subst hP hw hK;have hg:(x.cps.toList.map λc=>V.str ⟨#[c]⟩).length≤i:=hg;rw[Ab,A6] at hg;obtain⟨f0,f1,f2,f3,f4,f5⟩:=hf it (by simp);exact wpAny_pyNext_wide_end (I.ok.hd hc) st (by simpa using hg) λh' eb=>⟨rfl,I.turned (t':=s.toks) (λb o hb e=>eb b o hb e) f0 f1 f3 f4 f5⟩
 self:=λ_ _ _ _ _ st h=>wpAny_pyIter_striter_wide st h
section
variable{tg:Expr}
def signs(x:Str):List V:=x.cps.toList.map λc=>V.str ⟨#[c]⟩
def RN(tl:TE):TI:=λσ H R=>tl σ H λv H1=>∃x,v= .str x∧R (Ox (signs x)) H1
theorem XB{l:Expr}{tl:TE}(hl:PE X l tl):PI X tg l (RN tl):=by
 intro pins s σ H R I h;refine Il (hl pins s σ H _ I h) λv s1 ⟨y,H1,I1,r1,q1⟩=>?_;obtain⟨x,e,q⟩:=q1;subst e;obtain⟨t,rfl⟩:=r1;cases ha:x.cps.all (· <128)
 · refine wpAny_pyIter_wide ha ?_;refine⟨s1.heap.objs.size,[s1.heap.objs.size],_,_,H1,rfl,I1.kept (t':=s1.toks) λb o e=>Ae _ e,zf2 _ x t,⟨_,Ay _ rfl,rfl,rfl⟩,λb hb=>?_,q⟩;have e:b=s1.heap.objs.size:=by simpa using hb
   subst e;exact I1.fpOk (Af _) (I1.hok.fresh (Af _))
 · refine wpAny_pyIter_ascii ha ?_;refine⟨s1.heap.objs.size,[s1.heap.objs.size],_,_,H1,rfl,I1.kept (t':=s1.toks) λb o e=>Ae _ e,zfg _ x t,⟨_,Ay _ rfl,rfl,rfl⟩,λb hb=>?_,q⟩;have e:b=s1.heap.objs.size:=by simpa using hb
   subst e;exact I1.fpOk (Af _) (I1.hok.fresh (Af _))
theorem UU:IY X (A_ .LtE) (λx y H Q=>∃i j,x= .str i∧y= .str j∧Q (.bl (!decide (j.cps.toList<i.cps.toList))) H):=by intro pins s σ H x y v u Q I rx ry h;obtain⟨i,j,rfl,rfl,q⟩:=h;obtain⟨t,rfl⟩:=rx;obtain⟨t',rfl⟩:=ry;exact PySem.P.le_str (Ji I q rfl)
theorem Mw(hc:X.calm=true):Kp X (.builtin "all") (λxs H Q=>∃(a:Addr)(bs:List Bool),xs=[.ref a]∧SqL X.K H a (bs.map V.bl)∧Q (.bl (bs.all id)) H):=by
 intro pins s σ H xs us Q I r h;obtain⟨a,bs,rfl,hq,q⟩:=h;obtain⟨u,rfl,ru⟩:=KG r;cases ru;obtain⟨its,rv,p,hzz⟩:=I.list hq;have ll:=rv.length;rw[Ab] at ll;refine call_all_walk (ES p.isList ?_);obtain⟨o,ho,_⟩:=id p.isList;have lt:=Aq ho;refine⟨s.heap.objs.size,_,_,_,_,_,λi=>bs.getD i false,rfl,Walks.list (A:=X.A.in1) (I.ok.hd hc) s.heap.objs.size a (A3 lt) its.toArray,⟨⟨_,Ay _ rfl,rfl,rfl⟩,p.isList.at λo' e=>Ae _ e⟩,?_,λg t' k=>?_⟩
 · intro i v s' Q' E' hv q';have hi:its[i]?=some v:=by simpa using hv
   have hl:i<its.length:=(Al.mp hi).1;have e:(bs.map V.bl)[i]?=some (.bl (bs.getD i false)):=by rw[Aj,Au (by omega),A2,Au (by omega)];rfl
   obtain⟨u,h1,h2⟩:=Vals.get rv e;rw[hi] at h1;cases h1;cases h2;exact Bp q'
 · refine⟨.bl (bs.all id),H,I.kept (λb o' e=>k b o' ?_ (Ae _ e)),?_,q⟩
   · intro z;exact absurd (Am.mp z) (A3 (Aq e))
   · show Value.bool _=Value.bool _;congr 1;rw[As,←ll];clear rv ll hq q p ho lt hzz
     induction bs with
     | nil=>rfl
     | cons b r ih=> rw[AB,FE,C9,List.all_map,C9,←ih];rfl
end
theorem XR{xs:List V}{p:Addr}{g:TG}{tc:TT}{te:TE}{Q:VK}{js:I_}(Pv:Nat→St→List V→Hp→Prop)(h0:Pv 0 (J6 js σ) [] (upd H p (.lst [])))
 (hl:∀i σ ys H,i≤xs.length→Pv i σ ys H→H p=some (.lst ys)∧ys.length<A1)
 (hs:∀(i:Nat)x σ ys H(N:St→List V→Hp→Prop),xs[i]?=some x→Pv i σ ys H→(∀σ' ys' H',Pv (i+1) σ' ys' H'→N σ' ys' H')→LU p g tc te ys x σ H N)
 (hd:∀σ ys H,Pv xs.length σ ys H→Q (.ref p) H):K5 (Ox xs) p js g tc te σ H Q:=
 Mv (n:=xs.length) (J:=Ox xs) (js:=js) (σ:=σ) (H:=H) (p:=p) (Q:=Q) (g:=g) (tc:=tc) (te:=te) Pv h0 hl
  (λi σ ys H hi pv=>hi) (λσ ys H pv=>Af _)
  (λi x σ ys H H' N hi y pv hN=>by obtain⟨e,y⟩:=y;subst e;exact hs i x σ ys _ N y pv hN) hd
section
variable{R:Result→Shared→Prop}
theorem V_{kx vx target iter:Expr}{ifs:List Expr}{scope:Scope}{pos:Pos}{it:Value}{D:Addr}{env:Env}(I:Nat→Shared→Prop)
 (turn:∀n s,I n s→wpAny (model prog w) A (pyNext it) (λr s₁=>match r with
  | none=>R (.ok .next) s₁
  | some v=>wpAny (model prog w) A (BM target it v) (λ_ s₁'=>wpAny (model prog w) A (assign target env v) (λ_ s₂=>
   wpAny (model prog w) A (forIn ifs true λc r=>if r=true then do let ok ←isTrue c env (eval c env);pure (ForInStep.yield ok) else pure (ForInStep.yield r)) (λok s₃=>
    if ok=true then wpAny (model prog w) A (eval kx env) (λkv s₄=>wpAny (model prog w) A (eval vx env) (λvv s₅=> wpAny (model prog w) A (dictSet D kv vv) (λ_ s₆=>∃m,m<n∧I m s₆) (λ_ _=>False) s₅) (λ_ _=>False) s₄) (λ_ _=>False) s₃
    else ∃m,m<n∧I m s₃) (λ_ _=>False) s₂) (λ_ _=>False) s₁') (λ_ _=>False) s₁) (λ_ _=>False) s)
 (n:Nat) (h:I n s):
 codeAny (model prog w) A (.compLoop (.DictComp kx vx [⟨target,iter,ifs,0⟩] scope pos) 0 it (.ref D) env) R s:=by
 refine Es rfl I (λn s hI=>?_) n h;show wpAny _ A ((compTurn (.DictComp kx vx [⟨target,iter,ifs,0⟩] scope pos) 0 it (.ref D) env).onRaise (λx=>do noteFrame x env;theTreesLotGoes x)) _ _ s
 refine EE ?_;rw[compTurn_dict];refine Aa (Bm (Aa (A0 (turn n s hI) (λr s₁ h₁=>?_) λ_ _ z=>z.elim)));cases r with
 | none=>exact Ac h₁
 | some v=>
  refine Aa (A0 h₁ (λ_ s₁' h₁'=>?_) λ_ _ z=>z.elim);refine Aa (A0 h₁' (λ_ s₂ h₂=>Aa (A0 h₂ (λok s₃ h₃=>?_) λ_ _ z=>z.elim)) λ_ _ z=>z.elim);cases ok with
  | false=>exact Ac ⟨rfl,h₃⟩
  | true=> exact Aa (Aa (A0 h₃ (λkv s₄ h₄=>Aa (AZ (A0 h₄ (λvv s₅ h₅=>Aa (Bm (AZ (A0 h₅ (λ_ s₆ h₆=>Ac ⟨rfl,h₆⟩) λ_ _ z=>z.elim)))) λ_ _ z=>z.elim))) λ_ _ z=>z.elim))
end
def P8(J:It)(p:Addr)(js:I_)(g:TG)(tc:TT)(tk tv:TE)(σ:St)(H:Hp)(Q:VK):Prop:=
 ∃W:Nat→Nat→St→List (IT×V)→Hp→Prop,(∃m,W 0 m (J6 js σ) [] (upd H p (.dK [])))∧∀i m σ' kvs H,W i m σ' kvs H→H p=some (.dK kvs)∧
  ((J.stop i H∧Q (.ref p) H)∨(J.go i H∧kvs.length<A1∧∀x H',J.yld i H x H'→g x σ' H' λσ2 H2=>tc σ2 H2 λb H3=>
    if b=true then tk σ2 H3 λk H4=>tv σ2 H4 λy H5=>∃ky,k=kV ky∧H5 p=some (.dK kvs)∧∃m',m'<m∧W (i+1) m' σ2 (JA kvs ky y) (upd H5 p (.dK (JA kvs ky y)))
    else ∃m',m'<m∧W (i+1) m' σ2 kvs H3))
def tDC(wi:TI)(js:I_)(g:TG)(tc:TT)(tk tv:TE):TE:=λσ H Q=>wi σ H λJ H1=>∀p,H1 p=none→P8 J p js g tc tk tv σ H1 Q
section
variable{tg iter kx vx:Expr}{ifs:List Expr}{wi:TI}{js:I_}{g:TG}{tc:TT}{tk tv:TE}{N':List Str}
theorem YR{pins:List (Addr×Obj)}{σ:St}{H:Hp}{s:Shared}{E:Value→Shared→Prop}{Q:VK}{J:It}{it:Addr}{fp:List Addr}{tn:Nat→Heap→Prop}{cl:List (Str×Addr)}
 (hc:X.calm=true) (ok:CapOk X N' js scope)
 (h2:∀x c,cl.lookup x=some c→X.env.cells.lookup x=some c) (h3:∀p∈scope.names,p.2= .free→(cl.lookup p.1).isSome=true)
 (hg:∀cl C s₀ H₀ ex,PG (IP X N' scope cl C s₀ H₀ ex) tg g) (ht:∀cl C s₀ H₀ ex,IU (IP X N' scope cl C s₀ H₀ ex) ifs tc) (he:∀cl C s₀ H₀ ex,PE (IP X N' scope cl C s₀ H₀ ex) kx tk) (hv:∀cl C s₀ H₀ ex,PE (IP X N' scope cl C s₀ H₀ ex) vx tv)
 (I:Inv X pins σ H s) (T:Turn X.prog X.w X.K tg J fp it tn) (st:tn 0 s.heap) (hf:∀b∈fp,Ix X pins H b)
 (hw:∀p,H p=none→P8 J p js g tc tk tv σ H Q):
 wpAny (model X.prog X.w) X.A newDict (λacc s₃=>wpAny (model X.prog X.w) X.A (newFunctionEnv scope X.env.globals cl [] X.env.qual none .none (some X.env)) (λcenv s₄=>
  codeAny (model X.prog X.w) X.A (.compStart (.DictComp kx vx [⟨tg,iter,ifs,0⟩] scope pos) 0 (.ref it) acc {cenv with scope:=relabel scope X.env})
   (λr s'=>r= .ok .next∧(∃m,s'.heap.Ns cenv.locals m)∧∃v H',RelV v acc∧Inv X pins σ H' s'∧Ix X pins H' cenv.locals∧Q v H') s₄) E s₃) E s:=by
 have objs:=T.obj _ _ st;refine Be ?_;obtain⟨W,⟨m0,w0⟩,turn⟩:=hw s.heap.objs.size (I.hok.fresh (Af _));generalize hp:s.heap.objs.size=p at*;have kp:∀b u,s.heap.get? b=some u→(s.heap.push {cls:= .type "dict",data:= .dict #[]}).get? b=some u:=λb u e=>Ae _ e;have I3:Inv X pins σ (upd H p (.dK [])) {s with heap:=s.heap.push {cls:= .type "dict",data:= .dict #[]}}:=by subst hp;exact I.laid (t':=s.toks) kp (Af _) (YY s.heap I.big)
 have fne:∀b∈fp,b≠p:=λb hb=>by obtain⟨o,e,_⟩:=objs b hb;have:=Aq e;rw[←hp];exact A3 this
 have hf3:∀b∈fp,Ix X pins (upd H p (.dK [])) b:=λb hb=>⟨by rw[Iy (fne b hb)];exact(hf b hb).1,(hf b hb).2⟩;have st3:tn 0 (s.heap.push {cls:= .type "dict",data:= .dict #[]}):=T.keep _ _ _ st λb _ o e=>kp b o e;have lt3:∀b∈fp,b<(s.heap.push {cls:= .type "dict",data:= .dict #[]}).objs.size:=λb hb=>by obtain⟨o,e,_⟩:=objs b hb;exact Aq (kp b o e)
 generalize hs3:({s with heap:=s.heap.push {cls:= .type "dict",data:= .dict #[]}}:Shared)=s3 at*
 have eh:s.heap.push {cls:= .type "dict",data:= .dict #[]}=s3.heap:=by rw[←hs3]
 rw[eh] at st3 lt3;refine NL ok.cells λcl h₁ hns₁ k4 oc=>?_;have I4:=NB (cl:=cl) (h₁:=h₁) (t':=s3.toks+([]:List (Str×Value)).length) ok I3 h2 h3 hf3 lt3 k4 hns₁ oc;have st4:tn 0 h₁:=T.keep _ _ _ st3 λb _ o e=>k4 b o e;generalize hX:IP X N' scope cl s3.heap.objs.size s3 (upd H p (.dK [])) fp=X' at I4;have hg':PG X' tg g:=by rw[←hX];exact hg _ _ _ _ _
 have ht':IU X' ifs tc:=by rw[←hX];exact ht _ _ _ _ _
 have he':PE X' kx tk:=by rw[←hX];exact he _ _ _ _ _
 have hv':PE X' vx tv:=by rw[←hX];exact hv _ _ _ _ _
 have eP:X'.prog=X.prog:=by rw[←hX];rfl
 have ew:X'.w=X.w:=by rw[←hX];rfl
 have eK:X'.K=X.K:=by rw[←hX];rfl
 have ec:X'.calm=true:=by rw[←hX];exact hc
 have eA:X'.A=X.A:=by rw[←hX];rfl
 have ex:X'.xe=λ_ _=>False:=by rw[←hX];rfl
 have eE:X'.env=compEnvC scope cl s3.heap.objs.size X.env:=by rw[←hX];rfl
 have eEx:X'.ex=fp:=by rw[←hX];rfl
 have eN:X'.pn=[]:=by rw[←hX];rfl
 have stat:∀{H':Hp},(∀b∈fp,H' b=none)→∀b∈fp,Ix X' [] H' b:=λ{H'}hn b hb=>by have okc:=I4.ok;refine⟨hn b hb,(okc.exf b (by rw[eEx];exact hb)).1,okc.exfs b (by rw[eEx];exact hb),.inl (by rw[eEx];exact hb),(okc.exf b (by rw[eEx];exact hb)).2,λq hq=>?_⟩;rw[eN] at hq;cases hq
 have loop:∀s₄:Shared,s₄={s3 with heap:=h₁,toks:=s3.toks+([]:List (Str×Value)).length}→
  codeAny (model X.prog X.w) X.A (.compLoop (.DictComp kx vx [⟨tg,iter,ifs,0⟩] scope pos) 0 (.ref it) (.ref p) (compEnvC scope cl s3.heap.objs.size X.env))
   (λr s'=>r= .ok .next∧(∃m,s'.heap.Ns s3.heap.objs.size m)∧∃v H',RelV v (.ref p)∧Inv X pins σ H' s'∧Ix X pins H' s3.heap.objs.size∧Q v H') s₄:=by
  rintro s₄ rfl;refine V_ (λn s'=>∃i σ' ys H',Inv X' [] σ' H' s'∧tn i s'.heap∧(∀b∈fp,H' b=none)∧W i n σ' ys H') ?_ m0 ⟨0,_,[],_,I4,st4,λb hb=>(hf3 b hb).1,w0⟩;rintro n s5 ⟨i,σ5,ys,H5,I5,st5,fr5,w5⟩;obtain⟨hp5,tu⟩:=turn i n σ5 ys H5 w5;rcases tu with⟨stop,qn⟩ | ⟨go,hz,step⟩
  · have D:=T.done X' eP ew eK ec i [] s5 σ5 H5 (λ_ _=>False) I5 (stat fr5) st5 stop;rw[eA] at D;refine Il D λr s6 ⟨hr,I6⟩=>?_;subst hr;refine⟨rfl,?_,.ref p,H5,rfl,?_,?_,qn⟩
    · obtain⟨m,hm,_⟩:=I6.loc;rw[eE] at hm;exact⟨m,hm⟩
    · have b6:=I6.base;have ho:=I6.os;have hk:=I6.hok;have hb:=I6.bare;subst hX;exact I3.call' (ch:=fp) ho b6 hk hb λb hb'=>⟨(hf b hb').2.2.2.1,(hf b hb').2.1,(hf b hb').2.2.2.2.1,(hf b hb').2.2.2.2.2⟩
    · have fr:=I6.free;rw[eE] at fr;exact I3.fpOk (Af _) fr
  · have D:=T.item X' eP ew eK ec i [] s5 σ5 H5 (λ_ _=>False) I5 (stat fr5) st5 go;rw[eA] at D;refine Il D λr s6 ⟨u,hr,h6⟩=>?_;subst hr;refine Il h6 λ_ s7 ⟨x,H7,I7,r7,y7,st7,fr7⟩=>?_;have I7':=I7.pinned (stat fr7) (T.obj _ _ st7);have G:=hg' _ s7 σ5 H7 x u _ I7' r7 (step x H7 y7);rw[eP,ew,eA,ex,eE] at G;refine Il G λ_ s8 ⟨σ8,H8,I8,q8⟩=>?_;have Tt:=ht' _ s8 σ8 H8 _ I8 q8;rw[eP,ew,eA,ex,eE] at Tt;refine Il Tt λb s9 ⟨H9,I9,q9⟩=>?_;have again:∀{s':Shared}{ys':List (IT×V)}{H':Hp},Inv X' ([]++Ls fp s7.heap) σ8 H' s'→(∃m',m'<n∧W (i+1) m' σ8 ys' H')→
     ∃m,m<n∧∃i σ' ys H',Inv X' [] σ' H' s'∧tn i s'.heap∧(∀b∈fp,H' b=none)∧W i m σ' ys H':=λ{s' ys' H'}I' ⟨m',hm,w'⟩=>by
     refine⟨m',hm,i+1,σ8,ys',H',I'.unpinned,T.keep _ _ _ st7 λb hb o e=>(I'.pin (b,o) (Ah _ (Ah _ (K4 hb e)))).1,λb hb=>?_,w'⟩;obtain⟨o,e,d⟩:=T.obj _ _ st7 b hb;exact(I'.pin (b,o) (Ah _ (Ah _ (K4 hb e)))).2.1
    cases b with
    | false=>exact again I9 q9
    | true=>
     have Ee:=he' _ s9 σ8 H9 _ I9 q9;rw[eP,ew,eA,ex,eE] at Ee;show wpAny _ _ _ _ _ _;refine Il Ee λkv s10 ⟨kk,H10,I10,r10,q10⟩=>?_;have Ev:=hv' _ s10 σ8 H10 _ I10 q10;rw[eP,ew,eA,ex,eE] at Ev;refine Il Ev λvv s11 ⟨y,H11,I11,r11,ky,ek,hp11,q11⟩=>?_;subst ek;obtain⟨z0,hd0,vs0,rel0,dd0⟩:=WM I11.hok hp11;have hz0:vs0.length≤A1:=by rw[←rel0.length];exact z0
     have hl0:(JA ys ky y).length≤A1:=by have:=VM ys ky y;omega
     rw[eP,ew] at dd0;refine wpAny_dictSet_pairs (hsz:=hz0) (O4 r10) dd0 λh' dd' hs'=>?_;have he0:∃q,h'.get? p=some q:=let⟨q,_,_,hq,_⟩:=dd';⟨q,hq⟩;have I12:=PX (t':=s11.toks+1) I11 (by rw[hp11];exact True.intro) hs' he0 (WA hl0 hd0 (rel0.put ky r11) (by rw[eP,ew];exact dd'));exact again I12 q11
 exact FF (loop _ rfl) (T.self _ 0 _ _ _ st4 (loop _ rfl))
theorem WX(hc:X.calm=true)(ok:CapOk X N' js scope)(hi:PI X tg iter wi)
 (hg:∀cl C s₀ H₀ ex,PG (IP X N' scope cl C s₀ H₀ ex) tg g) (ht:∀cl C s₀ H₀ ex,IU (IP X N' scope cl C s₀ H₀ ex) ifs tc) (he:∀cl C s₀ H₀ ex,PE (IP X N' scope cl C s₀ H₀ ex) kx tk) (hv:∀cl C s₀ H₀ ex,PE (IP X N' scope cl C s₀ H₀ ex) vx tv)
 (hs:∀x,Bq iter X.env x=pure x:=by intro _;rfl):PE X (.DictComp kx vx [⟨tg,iter,ifs,0⟩] scope pos) (tDC wi js g tc tk tv):=by
 intro pins s σ H Q I h;obtain⟨cl,c1,c2,c3⟩:=MO (scope:=scope) I.ok.has ok.free;show wpAny _ X.A (comprehension (.DictComp kx vx [⟨tg,iter,ifs,0⟩] scope pos) scope X.env _ newDict false (eval iter X.env)) _ _ s;refine Cd (use:=none) rfl hs c1 ok.kind ok.names (Il (hi pins s σ H _ I h) λv s1 h1=>Il h1 λitv s2 h2=>?_);obtain⟨it,fp,tn,J,H2,e,I2,T,st2,f2,hw⟩:=h2;subst e;refine A0 (YR (iter:=iter) (pos:=pos) hc ok c2 c3 hg ht he hv I2 T st2 f2 hw) (λacc s3 h3=>A0 h3 (λcenv s4 h4=>?_) λ_ _ z=>z) λ_ _ z=>z;refine BU h4 λr s5 h5=>?_;obtain⟨rfl,⟨m,hm⟩,v,H5,rv,I5,f5,q5⟩:=h5;refine⟨m,hm,λh' sb=>?_⟩;obtain⟨f0,f1,_,f3,f4,f6⟩:=f5;exact⟨v,H5,I5.turned (t':=s5.toks) (λb o hb e=>(sb.2 b hb).trans e) f0 f1 f3 f4 f6,rv,q5⟩
end
theorem PL{ti tp:Addr}{k:Nat}{vs:Array Value}{v:Value}{Q:Value→Shared→Prop}(hi:s.heap.IsTupleIter ti tp k)(ht:s.heap.IsTuple tp vs)(hv:vs[k]?=some v)
 (fin:∀g,g.IsTupleIter ti tp (k+1)→C6 ti s.heap g→Q v {s with heap:=g}):wpAny (model prog w) A (Br (.ref ti)) Q E s:=by
 obtain⟨oi,e1,c1,d1⟩:=id hi;obtain⟨ot,e2,_,nt,d2⟩:=ht;unfold Br;refine Aa (Bn (name:=Ca "__next__") hi.typeIs Cu (Bb Cu hi.typeIs Ec ?_ (DX _)));show wpAny _ _ (field (.ref ti) 0>>=_) _ _ s;refine Aa (Bu e1 d1 (x:= .ref tp) rfl ?_);show wpAny _ _ (if(Value.ref tp==Value.none)=true then _ else _) _ _ s
 rw[if_neg (show ¬((Value.ref tp==Value.none)=true) from Ar)];show wpAny _ _ (field (.ref ti) 1>>=_) _ _ s;refine Aa (Bu e1 d1 (x:= .int k 0) rfl ?_);show wpAny _ _ (seqItems? (.ref tp)>>=_) _ _ s;refine Aa (Bc e2 d2 ?_);simp only[CV,hv];refine Aa (EA e1 d1 (by simp) (Ac ⟨v,rfl,Ac (fin _ ?_ (BH ..))⟩));exact⟨_,Dp _ e1 (FP (DI d1 _)),(Obj.cls_mapFields ..).trans c1,by rw[DI d1];simp[rawInt]⟩
theorem SN{ti tp:Addr}{k:Nat}{vs:Array Value}{Q:Value→Shared→Prop}(hh:A.handled=none)(hi:s.heap.IsTupleIter ti tp k)(ht:s.heap.IsTuple tp vs)(hv:vs[k]?=none)
 (fin:∀g e,Heap.ExtBut ti s.heap g→(∃o,g.get? e=some o∧o.cls= .type "StopIteration")→E (.ref e) {s with heap:=g}):wpAny (model prog w) A (Br (.ref ti)) Q E s:=by
 obtain⟨oi,e1,c1,d1⟩:=id hi;obtain⟨ot,e2,_,nt,d2⟩:=ht;unfold Br;refine Aa (Bn (name:=Ca "__next__") hi.typeIs Cu (Bb Cu hi.typeIs Ec ?_ (DX _)));show wpAny _ _ (field (.ref ti) 0>>=_) _ _ s;refine Aa (Bu e1 d1 (x:= .ref tp) rfl ?_);show wpAny _ _ (if(Value.ref tp==Value.none)=true then _ else _) _ _ s
 rw[if_neg (show ¬((Value.ref tp==Value.none)=true) from Ar)];show wpAny _ _ (field (.ref ti) 1>>=_) _ _ s;refine Aa (Bu e1 d1 (x:= .int k 0) rfl ?_);show wpAny _ _ (seqItems? (.ref tp)>>=_) _ _ s;refine Aa (Bc e2 d2 ?_);simp only[CV,hv];refine Aa (Cg (Aa (EA e1 d1 (by simp) ?_)));show wpAny _ _ (newExc (.type "StopIteration") []>>=_) _ _ _;refine Aa ?_;simp only[newExc,newTuple];refine Aa (Be ?_ (by size_fits));refine Aa (m:=firstArgMember _ _) (FC (a:=Value.none) (by first | rfl | (simp only[firstArgMember];rfl)) ?_)
 refine Be ?_ (by size_fits);simp only[raiseNew];refine Aa (wpAny_handled ?_)
 first | rw[show A.in1.handled=none from hh] | rw[hh]
 refine Aa (Ac (wpAny_throw ?_));exact fin _ _ (((BH ..).extBut.push _).push _) ⟨_,Ay _ rfl,rfl⟩
structure ZA(z a b i j:Addr):Prop where
 az:a≠z
 bz:b≠z
 iz:i≠z
 jz:j≠z
 ab:a≠b
 ai:a≠i
 aj:a≠j
 bi:b≠i
 bj:b≠j
 ij:i≠j
theorem L8{h':Heap}{t c:Addr}{vs:Array Value}(x:h.IsTuple t vs)(hs:C6 c h h')(n:t≠c):h'.IsTuple t vs:=x.extBut hs.extBut n
theorem Yp{z i j t1 t2:Addr}{k1 k2:Nat}{xs ys:Array Value}{x y p q:Value}{Q:Value→Shared→Prop}(D:ZA z a b i j)(n1:t1≠z∧t1≠b∧t1≠i∧t1≠j)(n2:t2≠z∧t2≠b∧t2≠i∧t2≠j)
 (hz:IsZip s.heap z a b .none) (ha:IsPair s.heap a (.ref i) (.ref j)) (hb:IsPair s.heap b p q) (h1:s.heap.IsTupleIter i t1 k1) (h2:s.heap.IsTupleIter j t2 k2) (g1:s.heap.IsTuple t1 xs) (g2:s.heap.IsTuple t2 ys) (hx:xs[k1]?=some x) (hy:ys[k2]?=some y)
 (fin:∀g,IsZip g z a b (rawInt s.heap.objs.size)→IsPair g b x y→g.IsTupleIter i t1 (k1+1)→g.IsTupleIter j t2 (k2+1)→IsPair g s.heap.objs.size x y→
  (∀c o,c≠z→c≠b→c≠i→c≠j→s.heap.get? c=some o→g.get? c=some o)→Q (.ref s.heap.objs.size) {s with heap:=g}):
 wpAny (model prog w) A (Builtin.«zip.__next__» ⟨[.ref z],[]⟩) (λr s'=>∃v,r= .done (.ret v)∧Q v s') E s:=by
 show wpAny _ _ (field (.ref z) 2>>=_) _ _ _;refine Aa (Bu hz rfl (x:= .bool false) rfl ?_);show wpAny _ _ (field (.ref z) 3>>=_) _ _ _;refine Aa (Bu hz rfl (x:= .ref a) rfl ?_);refine Aa (Bc ha rfl ?_);show wpAny _ _ (Ch (.ref z)>>=_) _ _ _;refine Aa ?_;unfold Ch;refine Aa (Bu hz rfl (x:= .none) rfl (Ac ?_));simp only[if_true];refine Aa (Cg ?_);refine Aa (Bu hz rfl (x:= .ref b) rfl ?_);refine Aa (CI hz (by simp) λw1 z1 m1=>?_)
 replace z1:IsZip w1 z a b .ellipsis:=z1
 refine Aa ?_;simp only[List.zipIdx_cons,List.zipIdx_nil,Fy,FO];refine Aa (Aa (EO ?_));show wpAny _ _ (Br (.ref i)>>=_) _ _ _;refine Aa (PL (h1.extBut m1.extBut D.iz) (L8 g1 m1 n1.1) hx λw2 i2 m2=>Ac ?_);have b2:IsPair w2 b p q:=m2.extBut _ _ D.bi (m1.extBut _ _ D.bz hb);refine Aa (Bc b2 rfl ?_);refine Aa (Et b2 λw3 b3 m3=>?_)
 replace b3:IsPair w3 b x q:=b3
 refine Aa (ED (Ac ?_));refine Aa (Aa (EO ?_));show wpAny _ _ (Br (.ref j)>>=_) _ _ _;refine Aa (PL (((h2.extBut m1.extBut D.jz).extBut m2.extBut D.ij.symm).extBut m3.extBut D.bj.symm) (L8 (L8 (L8 g2 m1 n2.1) m2 n2.2.2.1) m3 n2.2.1) hy λw4 j4 m4=>Ac ?_);have b4:IsPair w4 b x q:=m4.extBut _ _ D.bj b3;refine Aa (Bc b4 rfl ?_);refine Aa (Et b4 λw5 b5 m5=>?_)
 replace b5:IsPair w5 b x y:=b5
 refine Aa (ED (Ac (Ac ?_)));refine Aa (Bc b5 rfl ?_);refine Aa (wpAny_newTuple ?_);have sz:w5.objs.size=s.heap.objs.size:=by rw[m5.1,m4.1,m3.1,m2.1,m1.1]
 have z5:IsZip w5 z a b .ellipsis:=m5.extBut _ _ D.bz.symm (m4.extBut _ _ D.jz.symm (m3.extBut _ _ D.bz.symm (m2.extBut _ _ D.iz.symm z1)));have k5:∀c o,c≠z→c≠b→c≠i→c≠j→s.heap.get? c=some o→w5.get? c=some o:=λc o c1 c2 c3 c4 e=> m5.extBut _ _ c2 (m4.extBut _ _ c4 (m3.extBut _ _ c2 (m2.extBut _ _ c3 (m1.extBut _ _ c1 e))));have i5:w5.IsTupleIter i t1 (k1+1):=((i2.extBut m3.extBut D.bi.symm).extBut m4.extBut D.ij).extBut m5.extBut D.bi.symm;have j5:w5.IsTupleIter j t2 (k2+1):=j4.extBut m5.extBut D.bj.symm;have zlt:z<w5.objs.size:=Aq z5;show wpAny _ _ (DJ (.ref z) (.ref w5.objs.size)>>=_) _ _ _;refine Aa ?_;unfold DJ;have z6:IsZip (w5.push {cls:= .type "tuple",data:= .seq #[x,y]}) z a b .ellipsis:=Ae _ z5;refine Aa (CI z6 (by simp) λw7 z7 m7=>?_)
 replace z7:IsZip w7 z a b (rawInt w5.objs.size):=z7
 refine CI z7 (by simp) λw8 z8 m8=>?_
 replace z8:IsZip w8 z a b (rawInt w5.objs.size):=z8
 have up:∀c o,c≠z→w5.get? c=some o→w8.get? c=some o:=λc o c1 e=>m8.extBut _ _ c1 (m7.extBut _ _ c1 (Ae _ e));have t8:IsPair w8 w5.objs.size x y:=m8.extBut _ _ (C7 zlt) (m7.extBut _ _ (C7 zlt) (Ay _ rfl));rw[sz] at z8 t8;refine Ac ⟨_,rfl,?_⟩;show Q (.ref w5.objs.size) _;rw[sz];obtain⟨oi,ei,ri⟩:=i5;obtain⟨oj,ej,rj⟩:=j5;exact fin w8 z8 (up _ _ D.bz b5) ⟨oi,up _ oi D.iz ei,ri⟩ ⟨oj,up _ oj D.jz ej,rj⟩ t8 λc o c1 c2 c3 c4 e=>up c o c1 (k5 c o c1 c2 c3 c4 e)
theorem Xm{z i j t1 t2:Addr}{k1 k2:Nat}{xs ys:Array Value}{p q:Value}{Q:Fin→Shared→Prop}(hh:A.handled=none)(D:ZA z a b i j)(n1:t1≠z∧t1≠b∧t1≠i∧t1≠j)(n2:t2≠z∧t2≠b∧t2≠i∧t2≠j)
 (hz:IsZip s.heap z a b .none) (ha:IsPair s.heap a (.ref i) (.ref j)) (hb:IsPair s.heap b p q) (h1:s.heap.IsTupleIter i t1 k1) (h2:s.heap.IsTupleIter j t2 k2) (g1:s.heap.IsTuple t1 xs) (g2:s.heap.IsTuple t2 ys) (hend:xs[k1]?=none∨ys[k2]?=none)
 (fin:∀g e,(∀c o,c≠z→c≠b→c≠i→c≠j→s.heap.get? c=some o→g.get? c=some o)→(∃o,g.get? e=some o∧o.cls= .type "StopIteration")→E (.ref e) {s with heap:=g}):
 wpAny (model prog w) A (Builtin.«zip.__next__» ⟨[.ref z],[]⟩) Q E s:=by
 show wpAny _ _ (field (.ref z) 2>>=_) _ _ _;refine Aa (Bu hz rfl (x:= .bool false) rfl ?_);show wpAny _ _ (field (.ref z) 3>>=_) _ _ _;refine Aa (Bu hz rfl (x:= .ref a) rfl ?_);refine Aa (Bc ha rfl ?_);show wpAny _ _ (Ch (.ref z)>>=_) _ _ _;refine Aa ?_;unfold Ch;refine Aa (Bu hz rfl (x:= .none) rfl (Ac ?_));simp only[if_true];refine Aa (Cg ?_);refine Aa (Bu hz rfl (x:= .ref b) rfl ?_);refine Aa (CI hz (by simp) λw1 z1 m1=>?_)
 replace z1:IsZip w1 z a b .ellipsis:=z1
 refine Aa ?_;simp only[List.zipIdx_cons,List.zipIdx_nil,Fy,FO];refine Aa (Aa (EO ?_));show wpAny _ _ (Br (.ref i)>>=_) _ _ _;cases hx:xs[k1]? with
 | none=>
  refine Aa (SN hh (h1.extBut m1.extBut D.iz) (L8 g1 m1 n1.1) hx λw2 e m2 he=>?_);obtain⟨oe,e1,e2⟩:=he;have z2:IsZip w2 z a b .ellipsis:=m2 _ _ D.iz.symm z1;have ez:e≠z:=λu=>by subst u;rw[z2] at e1;cases e1;simp at e2
  exact CI z2 (by simp) λw3 _ m3=>fin w3 e (λc o c1 _ c3 _ u=>m3.extBut _ _ c1 (m2 _ _ c3 (m1.extBut _ _ c1 u))) ⟨oe,m3.extBut _ _ ez e1,e2⟩
 | some x=>
  have hy:ys[k2]?=none:=by
   rcases hend with u | u
   · rw[hx] at u;cases u
   · exact u
  refine Aa (PL (h1.extBut m1.extBut D.iz) (L8 g1 m1 n1.1) hx λw2 i2 m2=>Ac ?_);have b2:IsPair w2 b p q:=m2.extBut _ _ D.bi (m1.extBut _ _ D.bz hb);refine Aa (Bc b2 rfl ?_);refine Aa (Et b2 λw3 b3 m3=>?_);refine Aa (ED (Ac ?_));refine Aa (Aa (EO ?_));show wpAny _ _ (Br (.ref j)>>=_) _ _ _;refine Aa (SN hh (((h2.extBut m1.extBut D.jz).extBut m2.extBut D.ij.symm).extBut m3.extBut D.bj.symm) (L8 (L8 (L8 g2 m1 n2.1) m2 n2.2.2.1) m3 n2.2.1) hy λw4 e m4 he=>?_);obtain⟨oe,e1,e2⟩:=he;have z4:IsZip w4 z a b .ellipsis:=m4 _ _ D.jz.symm (m3.extBut _ _ D.bz.symm (m2.extBut _ _ D.iz.symm z1));have ez:e≠z:=λu=>by subst u;rw[z4] at e1;cases e1;simp at e2
  exact CI z4 (by simp) λw5 _ m5=>fin w5 e (λc o c1 c2 c3 c4 u=>m5.extBut _ _ c1 (m4 _ _ c4 (m3.extBut _ _ c2 (m2.extBut _ _ c3 (m1.extBut _ _ c1 u))))) ⟨oe,m5.extBut _ _ ez e1,e2⟩
section
variable{h':Heap}
theorem Inv.newTup{T:Addr}{x y:V}{t':Nat}(I:Inv X pins σ H s)(ch:List Addr)(hch:∀c∈ch,Ix X pins H c)(keep:∀c o,c ∉ ch→s.heap.get? c=some o→h'.get? c=some o)(hT:s.heap.objs.size≤T)
 (tup:∃its:List Value,Vals [x,y] its∧IsTupP h' T its.toArray):Inv X pins σ (upd H T (.tup [x,y])) {s with heap:=h',toks:=t'}:=by
 have hn:H T=none:=I.hok.fresh hT;have neT:∀c o,s.heap.get? c=some o→c≠T:=λc o e=>A3 (AG (Aq e) hT);have off:∀c u,H c=some u→c ∉ ch:=λc u e z=>by rw[(hch c z).1] at e;cases e
 refine I.step (g':=s.gens) (d':=s.drawn) (ch:=ch) (λc hc=>⟨(hch c hc).2.2.2.1,(hch c hc).2.1,(hch c hc).2.2.2.2.1,(hch c hc).2.2.2.2.2⟩) (λc o _ _ hc e _=>keep c o hc e) (λc o _ _ hc e _=>⟨o.slots,keep c o hc e⟩)
  (λc o _ e n=>by rw[Iy (neT c o e)];exact n) (λc o hc e=>⟨o,keep c o hc e⟩) (λc xs e=>by rw[Iy (J2 e hn)];exact e) (λc o u e=>by rw[Iy (J2 e hn)];exact e)
  (λc ps e=>⟨#[],by rw[Iy (J2 e hn),e];simp⟩) (λm hm=>?_) (λc u e=>?_) I.bare
 · obtain⟨o,es,ep,ho,r⟩:=hm;exact⟨o,es,ep,keep _ o (λz=>(hch _ z).2.1 rfl) ho,r⟩
 · by_cases hc:c=T
   · subst hc;rw[Ij] at e;cases e;obtain⟨its,r,p⟩:=tup;exact⟨by show 2≤A1;decide,its,r,p⟩
   · rw[Iy hc] at e;refine(I.hok c u e).stay (λd v hd q=>keep d v ?_ q) (λd q=>by rw[Iy (J2 q hn)];exact q) λd xs q=>by rw[Iy (J2 q hn)];exact q
     rcases hd with z | z
     · rw[z];exact off c u e
     · exact off d _ z
theorem Inv.turnedN{t':Nat}(I:Inv X pins σ H s)(ch:List Addr)(hch:∀c∈ch,Ix X pins H c)(keep:∀c o,c ∉ ch→s.heap.get? c=some o→h'.get? c=some o):Inv X pins σ H {s with heap:=h',toks:=t'}:=by
 have off:∀c u,H c=some u→c ∉ ch:=λc u e z=>by rw[(hch c z).1] at e;cases e
 refine I.step (g':=s.gens) (d':=s.drawn) (ch:=ch) (λc hc=>⟨(hch c hc).2.2.2.1,(hch c hc).2.1,(hch c hc).2.2.2.2.1,(hch c hc).2.2.2.2.2⟩) (λc o _ _ hc e _=>keep c o hc e) (λc o _ _ hc e _=>⟨o.slots,keep c o hc e⟩)
  (λc o _ e n=>n) (λc o hc e=>⟨o,keep c o hc e⟩) (λc xs e=>e) (λc o u e=>e) (λc ps e=>⟨#[],by rw[e];simp⟩) (λm hm=>?_) (λc u e=>?_) I.bare
 · obtain⟨o,es,ep,ho,r⟩:=hm;exact⟨o,es,ep,keep _ o (λz=>(hch _ z).2.1 rfl) ho,r⟩
 · refine(I.hok c u e).stay (λd v hd q=>keep d v ?_ q) (λ_ q=>q) λ_ _ q=>q;rcases hd with z | z
   · rw[z];exact off c u e
   · exact off d _ z
theorem Km{t c:Addr}(I:Inv X pins σ H s)(h:SqT X.K H t xs)(f:Ix X pins H c):t≠c:=by
 intro e;subst e;rcases h with(h | ⟨o,h⟩) | ⟨o,its,n,hk,_⟩
 · rw[f.1] at h;cases h
 · rw[f.1] at h;cases h
 · have eb:=I.ok.mod.kin t o hk;rcases f.2.2.2.1 with z | z
   · exact I.ok.noex t o eb z
   · exact absurd (AG (Aq eb) (A4 I.ok.bsz z)) (Cq _)
end
def Pm(K:Ad)(t1 t2:Addr):It:=
 ⟨λk H=>∃(xs ys:List V)(x y:V),SqT K H t1 xs∧SqT K H t2 ys∧xs[k]?=some x∧ys[k]?=some y,
  λk H v H'=>∃p,v= .ref p∧H p=none∧∀(xs ys:List V)(x y:V),SqT K H t1 xs→SqT K H t2 ys→xs[k]?=some x→ys[k]?=some y→H'=upd H p (.tup [x,y]),
  λk H=>∃(xs ys:List V),SqT K H t1 xs∧SqT K H t2 ys∧(xs.length≤k∨ys.length≤k)⟩
theorem Z6{P:AY}{w:World}{K:Ad}{es:List Expr}{kk:Nat}{pos:Pos}(t1 t2 z a b i j:Addr)(D:ZA z a b i j):
 Turn P w K (.Tuple es kk pos) (Pm K t1 t2) [z,a,b,i,j] z (λk h=>IsZip h z a b .none∧IsPair h a (.ref i) (.ref j)∧(∃p q,IsPair h b p q)∧h.IsTupleIter i t1 k∧h.IsTupleIter j t2 k) where
 mem:=by simp
 obj:=λk h st c hc=>by
  obtain⟨hz,ha,⟨p,q,hb⟩,⟨oi,ei,_,di⟩,⟨oj,ej,_,dj⟩⟩:=st;simp only[An,AK,or_false] at hc;rcases hc with rfl | rfl | rfl | rfl | rfl
  · exact⟨_,hz,λv e=>by cases e⟩
  · exact⟨_,ha,λv e=>by cases e⟩
  · exact⟨_,hb,λv e=>by cases e⟩
  · exact⟨oi,ei,λv e=>by rw[di] at e;cases e⟩
  · exact⟨oj,ej,λv e=>by rw[dj] at e;cases e⟩
 keep:=λk h h' st kp=>by obtain⟨hz,ha,⟨p,q,hb⟩,⟨oi,ei,ri⟩,⟨oj,ej,rj⟩⟩:=st;exact⟨kp z (by simp) _ hz,kp a (by simp) _ ha,⟨p,q,kp b (by simp) _ hb⟩,⟨oi,kp i (by simp) _ ei,ri⟩,⟨oj,kp j (by simp) _ ej,rj⟩⟩
 item:=by
  intro X hP hw hK hc k pins s σ H E I hf st hg;subst hP hw hK;obtain⟨xs,ys,x,y,q1,q2,hx,hy⟩:=hg;obtain⟨hz,ha,⟨p,q,hb⟩,h1,h2⟩:=st;obtain⟨its1,r1,g1,_⟩:=I.tuple q1;obtain⟨its2,r2,g2,_⟩:=I.tuple q2;obtain⟨u1,hu1,v1⟩:=r1.get hx;obtain⟨u2,hu2,v2⟩:=r2.get hy;have fz:=hf z (by simp);have fb:=hf b (by simp);have fi:=hf i (by simp);have fj:=hf j (by simp);have hT:s.TypeIs (.ref z) "zip":=⟨_,hz,rfl⟩;unfold pyNext;refine Aa (Ej (Bn (name:=Ca "__next__") hT Dr (Bb Dr hT FG
   (Yp D ⟨Km I q1 fz,Km I q1 fb,Km I q1 fi,Km I q1 fj⟩ ⟨Km I q2 fz,Km I q2 fb,Km I q2 fi,Km I q2 fj⟩ hz ha hb h1 h2 g1 g2 (by simpa using hu1) (by simpa using hu2) λg a1 a2 a3 a4 a5 a6=>Ac ?_) (Fs _))))
  refine⟨_,rfl,wpAny_letOwnedTupleGo_zip a1 λg' z' m'=>?_⟩;have zT:z≠s.heap.objs.size:=A3 (Aq hz);have up:∀c o,c≠z→g.get? c=some o→g'.get? c=some o:=λc o hc e=>m'.extBut c o hc e;have fr:H s.heap.objs.size=none:=I.hok.fresh (Af _);have I1:Inv X pins σ (upd H s.heap.objs.size (.tup [x,y])) {s with heap:=g'}:=by
   refine I.newTup (t':=s.toks) [z,b,i,j] (λc hc=>?_) (λc o hc e=>?_) (Af _) ⟨[u1,u2],.cons v1 (.cons v2 .nil),_,up _ _ zT.symm a5,rfl,rfl,_,rfl⟩
   · simp only[An,AK,or_false] at hc;rcases hc with rfl | rfl | rfl | rfl
     · exact fz
     · exact fb
     · exact fi
     · exact fj
   · simp only[An,AK,or_false,not_or] at hc;exact up c o hc.1 (a6 c o hc.1 hc.2.1 hc.2.2.1 hc.2.2.2 e)
  obtain⟨oi,ei,ri⟩:=a3;obtain⟨oj,ej,rj⟩:=a4;refine⟨.ref s.heap.objs.size,_,I1,rfl,⟨_,rfl,fr,λxs' ys' x' y' s1 s2 e1 e2=>?_⟩,⟨z',up _ _ D.az (a6 a _ D.az D.ab D.ai D.aj ha),⟨_,_,up _ _ D.bz a2⟩,⟨oi,up _ _ D.iz ei,ri⟩,⟨oj,up _ _ D.jz ej,rj⟩⟩,λc hc=>?_⟩
  · rw[I.tuple_inj s1 q1,hx] at e1;rw[I.tuple_inj s2 q2,hy] at e2;cases e1;cases e2;rfl
  · have fc:=hf c hc;have:c≠s.heap.objs.size:=by
     simp only[An,AK,or_false] at hc;obtain⟨oi',ei',_⟩:=h1;obtain⟨oj',ej',_⟩:=h2;rcases hc with rfl | rfl | rfl | rfl | rfl
     · exact zT
     · exact A3 (Aq ha)
     · exact A3 (Aq hb)
     · exact A3 (Aq ei')
     · exact A3 (Aq ej')
    rw[Iy this];exact fc.1
 done:=by
  intro X hP hw hK hc k pins s σ H E I hf st hg;subst hP hw hK;obtain⟨xs,ys,q1,q2,hend⟩:=hg;obtain⟨hz,ha,⟨p,q,hb⟩,h1,h2⟩:=st;obtain⟨its1,r1,g1,_⟩:=I.tuple q1;obtain⟨its2,r2,g2,_⟩:=I.tuple q2;have l1:=r1.length;have l2:=r2.length;have fz:=hf z (by simp);have fb:=hf b (by simp);have fi:=hf i (by simp);have fj:=hf j (by simp);have hT:s.TypeIs (.ref z) "zip":=⟨_,hz,rfl⟩;unfold pyNext;refine Aa (Ej (Bn (name:=Ca "__next__") hT Dr (Bb Dr hT FG
   (Xm (I.ok.hd hc) D ⟨Km I q1 fz,Km I q1 fb,Km I q1 fi,Km I q1 fj⟩ ⟨Km I q2 fz,Km I q2 fb,Km I q2 fi,Km I q2 fj⟩ hz ha hb h1 h2 g1 g2 ?_ λg e kp he=>?_) (Fs _))))
  · rcases hend with u | u
    · exact .inl (by simp;omega)
    · exact .inr (by simp;omega)
  · obtain⟨o,ho,hcl⟩:=he;refine Aa (Dx (T:="StopIteration") (b:=true) ⟨o,ho,hcl⟩ isSubtype_stop ?_);refine Ac ⟨rfl,I.turnedN (t':=s.toks) [z,b,i,j] (λc hc=>?_) (λc o hc e=>?_)⟩
    · simp only[An,AK,or_false] at hc;rcases hc with rfl | rfl | rfl | rfl
      · exact fz
      · exact fb
      · exact fi
      · exact fj
    · simp only[An,AK,or_false,not_or] at hc;exact kp c o hc.1 hc.2.1 hc.2.2.1 hc.2.2.2 e
 self:=λ_ _ _ _ _ st h=>wpAny_pyIter_zip st.1 h
abbrev Mo(h:Heap)(t:Addr):Heap:=h.push {cls:= .type "tuple_iterator",data:= .fields #[.ref t,.int 0 0]}
abbrev Mn(h:Heap)(t u:Addr):Heap:=(Mo h t).push {cls:= .type "tuple_iterator",data:= .fields #[.ref u,.int 0 0]}
abbrev Mm(h:Heap)(t u:Addr):Heap:=(Mn h t u).push {cls:= .type "tuple",data:= .seq #[.ref h.objs.size,.ref (Mo h t).objs.size]}
abbrev ME(h:Heap)(t u:Addr):Heap:=(Mm h t u).push {cls:= .type "tuple",data:= .seq #[.none,.none]}
abbrev LP(h:Heap)(t u:Addr):Heap:=(ME h t u).push {cls:= .type "zip",data:= .fields #[.none,.bool false,.bool false,.ref (Mn h t u).objs.size,.ref (Mm h t u).objs.size]}
theorem Xn(t u:Addr)(xs ys:Array Value):Meets (Builtin.«zip.__new__» ⟨[.type "zip",.ref t,.ref u],[]⟩) (λ_ R s=>s.heap.IsTuple t xs∧s.heap.IsTuple u ys∧
 R (.ok (.ret (.ref (ME s.heap t u).objs.size))) {s with heap:=LP s.heap t u}):=
 .of_wp λprog w A R s h=>by
  obtain⟨hp,g,d,tk,os⟩:=s;obtain⟨g1,g2,h⟩:=h;have f0:=sub_zip;have f1:Heap.IsTuple (Shared.heap ⟨hp,g,d,tk,os⟩) t xs:=g1;have f2:Heap.IsTuple (Shared.heap ⟨hp.push {cls:= .type "tuple_iterator",data:= .fields #[.ref t,.int 0 0]},g,d,tk,os⟩) u ys:=Heap.IsTuple.push g2 _
  wp_walk using EF f1,EF f2
  exact⟨_,rfl,h⟩
theorem W1:AW "zip"=some (.type "zip"):=by decide+kernel
def RL(K:Ad)(ta:TA):TI:=λσ H R=>ta σ H λvs H1=>∃t u,vs=[.ref t,.ref u]∧(∃xs,SqT K H1 t xs)∧(∃ys,SqT K H1 u ys)∧R (Pm K t u) H1
theorem XC{es:List Expr}{kk:Nat}{tpos:Pos}{a b:Expr}{ta:TA}{p pos:Pos}(hg:Gl X "zip")(hm:X.mg "zip"=none)(ha:PA X [a,b] ta)
 (he:A7 [a,b] X.env=(false,eval a X.env)::A7 [b] X.env:=by rfl) (hpl:(backTo pos (A7 [b] X.env)).any (·.1)=false:=by rfl):
 PI X (.Tuple es kk tpos) (.Call (.Name "zip" p) [a,b] [] pos) (RL X.K ta):=by
 intro pins s σ H R I h;refine Bt (KH I hg hm W1 ?_ (by decide) (by decide));refine By (Il (ha pos pins s σ H _ I h) λus s1 ⟨vs,H1,I1,r1,t,u,e,⟨xs,q1⟩,⟨ys,q2⟩,q⟩=>?_) he hpl;subst e;obtain⟨u1,u2,rfl,v1,v2⟩:=Ni r1;cases v1;cases v2;obtain⟨its1,rv1,g1,_⟩:=I1.tuple q1;obtain⟨its2,rv2,g2,_⟩:=I1.tuple q2;refine callType_new PySem.F.called_zip (by decide) (PySem.F.typeCall_zip_2 _ _) (PySem.F.newCall_zip_2 _ _) (λobj=>PySem.F.args_object_init_3 obj _ _) PySem.F.entry_zip_new (Xn t u its1.toArray its2.toArray) ⟨g1,g2,?_⟩;have y1:(Mo s1.heap t).objs.size=s1.heap.objs.size+1:=BL ..;have y2:(Mn s1.heap t u).objs.size=s1.heap.objs.size+2:=by rw[BL,y1]
 have y3:(Mm s1.heap t u).objs.size=s1.heap.objs.size+3:=by rw[BL,y2]
 have y4:(ME s1.heap t u).objs.size=s1.heap.objs.size+4:=by rw[BL,y3]
 have k5:∀c o,s1.heap.get? c=some o→(LP s1.heap t u).get? c=some o:=λc o e=>Ae _ (Ae _ (Ae _ (Ae _ (Ae _ e))));have e5:(LP s1.heap t u).get? (ME s1.heap t u).objs.size=some _:=Ay _ rfl;have e4:(LP s1.heap t u).get? (Mm s1.heap t u).objs.size=some _:=Ae _ (Ay _ rfl);have e3:(LP s1.heap t u).get? (Mn s1.heap t u).objs.size=some _:=Ae _ (Ae _ (Ay _ rfl));have e2:(LP s1.heap t u).get? (Mo s1.heap t).objs.size=some _:=Ae _ (Ae _ (Ae _ (Ay _ rfl)));have e1:(LP s1.heap t u).get? s1.heap.objs.size=some _:=Ae _ (Ae _ (Ae _ (Ae _ (Ay _ rfl))));have I2:Inv X pins σ H1 {s1 with heap:=LP s1.heap t u}:=I1.kept (t':=s1.toks) k5
 have fp:∀c,s1.heap.objs.size≤c→Ix X pins H1 c:=λc hc=>I1.fpOk hc (I1.hok.fresh hc);have D:ZA (ME s1.heap t u).objs.size (Mn s1.heap t u).objs.size (Mm s1.heap t u).objs.size s1.heap.objs.size (Mo s1.heap t).objs.size:=by
  have n4:(Mm s1.heap t u).objs.size<(ME s1.heap t u).objs.size:=by rw[y3,y4];exact CG _
  have n3:(Mn s1.heap t u).objs.size<(Mm s1.heap t u).objs.size:=by rw[y2,y3];exact CG _
  have n2:(Mo s1.heap t).objs.size<(Mn s1.heap t u).objs.size:=by rw[y1,y2];exact CG _
  have n1:s1.heap.objs.size<(Mo s1.heap t).objs.size:=by rw[y1];exact CG _
  exact⟨A3 (Co n3 n4),A3 n4,A3 (Co n1 (Co n2 (Co n3 n4))),A3 (Co n2 (Co n3 n4)),A3 n3,C7 (Co n1 n2),C7 n2,
   C7 (Co n1 (Co n2 n3)),C7 (Co n2 n3),A3 n1⟩
 refine⟨⟨_,e5,rfl⟩,wpAny_pyIter_zip e5 ?_⟩;refine⟨_,_,_,_,H1,rfl,I2,Z6 t u _ _ _ _ _ D,⟨e5,e3,⟨_,_,e4⟩,⟨_,e1,rfl,rfl⟩,⟨_,e2,rfl,rfl⟩⟩,λc hc=>fp c ?_,q⟩;simp only[An,AK,or_false] at hc;rcases hc with rfl | rfl | rfl | rfl | rfl
 · rw[y4];exact CF _ _
 · rw[y2];exact CF _ _
 · rw[y3];exact CF _ _
 · exact Af _
 · rw[y1];exact CF _ _
section
variable{tg iter kx vx:Expr}{ifs:List Expr}{wi:TI}{js:I_}{g:TG}{tc:TT}{tk tv:TE}{N':List Str}
end
theorem Z0{t sl:Addr}{items:Array Value}{vl vu:Value}{lo hi:Option Int}{Q:Value→Shared→Prop}(ht:IsTup s.heap t items)(hs:s.heap.IsSliceOf sl vl vu .none)(pl:IsPart vl lo)(pu:IsPart vu hi)
 (h0:HT.sIx items.size 0 lo=0) (h1:HT.sIx items.size items.size hi=items.size) (h:Q (.ref t) s):wpAny (model prog w) A (getItem (.ref t) (.ref sl)) Q E s:=by
 obtain⟨os,hos,hcs,hds⟩:=id hs;have hTs:s.TypeIs (.ref sl) "slice":=⟨os,hos,hcs⟩;unfold getItem
 try with_reducible refine AZ ?_
 first | refine Aa (Ac ?_) | skip
 refine Aa (ET ht.typeIs (by decide) ?_);refine Aa (Bn (name:=Ca "__getitem__") ht.typeIs BB
  (Bb BB ht.typeIs PySem.F.entry_tuple_getitem ?_ (PySem.F.args_tuple_getitem_2 _ _)))
 show wpAny _ _ (D2 (.ref t)>>=_) _ _ s;refine Aa (tupleItemsOf_ ht ?_);refine Aa (Do hTs ?_);rw[if_pos (by decide)];refine Aa (HT.sliceApplied_gen hs pl pu ?_);have yes:((((HT.sIx items.size 0 lo:Nat):Int)==0 && (1:Int)==1 && (HT.sIx items.size items.size hi - HT.sIx items.size 0 lo)==items.size)=true):=by rw[h0,h1];simp
 show wpAny _ _ (if(((HT.sIx items.size 0 lo:Nat):Int)==0 && (1:Int)==1 && (HT.sIx items.size items.size hi - HT.sIx items.size 0 lo)==items.size)=true then _ else _) _ _ s
 rw[if_pos yes];unfold Builtin.Tuple.tupleIsExact;refine Aa (Aa (Do ht.typeIs (Ac ?_)));rw[if_pos (by decide)];exact Aa (Cg (Ac ⟨_,rfl,Ac h⟩))
def NU(K:Ad):V→Option Int→Option Int→Hp→VK→Prop:=λx lo hi H Q=>∃a xs,x= .ref a∧SqT K H a xs∧
 (HT.sIx xs.length 0 lo=0∧HT.sIx xs.length xs.length hi=xs.length→Q (.ref a) H)∧
 (¬(HT.sIx xs.length 0 lo=0∧HT.sIx xs.length xs.length hi=xs.length)→∀p,H p=none→Q (.ref p) (upd H p (.tup (Jd xs lo hi))))
theorem Um:Nh X (NU X.K):=by
 intro pins s σ H x v vl vu lo hi sl Q I rx hs pl pu h;obtain⟨a,xs,rfl,hx,q1,q2⟩:=h;by_cases hw:HT.sIx xs.length 0 lo=0∧HT.sIx xs.length xs.length hi=xs.length
 · cases rx;obtain⟨its,r,ht,hz⟩:=I.tuple hx;have hlen:its.toArray.size=xs.length:=by rw[As];exact r.length.symm
   refine⟨"tuple",_,BB.lookup,ht.typeIs,?_⟩;exact Z0 ht hs pl pu (by rw[hlen];exact hw.1) (by rw[hlen];exact hw.2) ⟨.ref a,H,I,rfl,q1 hw⟩
 · exact XI pins s σ H (.ref a) v vl vu lo hi sl Q I rx hs pl pu ⟨a,xs,rfl,hx,hw,q2 hw⟩
theorem Yh{K:Ad}{Q:VK}(h:SqT K H a xs)(q:∀p H',Same H H'→SqT K H' p (xs.drop 1)→Q (.ref p) H'):NU K (.ref a) (some 1) none H Q:=by
 have e0:HT.sIx xs.length 0 (some 1)=min 1 xs.length:=HT.sIx_nat _ _ 1;refine⟨a,xs,rfl,h,λhw=>?_,λhw p hp=>?_⟩
 · rw[e0] at hw;have hl:xs.length=0:=by omega
   have hx:xs=[]:=Ft.mp hl;subst hx;exact q a H (Same.refl _) h
 · refine q p _ (Iq hp _) (SqT.of ?_);rw[Ij];unfold Jd;rw[e0,show HT.sIx xs.length xs.length none=xs.length from rfl];cases xs with
   | nil=>rfl
   | cons x r=>
    have e1:min 1 (x::r).length=1:=by rw[AB];omega
    rw[e1];congr 2;rw[AB,Nat.add_sub_cancel];exact AX (by simp)
section
variable{K:Ad}
theorem PH(K:Ad)(h:X.K=K):Mj X (NV K):=by subst h;exact Kk
theorem Zf(K:Ad)(h:X.K=K):Mj X (NW K):=by subst h;exact IV
theorem MT(K:Ad)(h:X.K=K){es:List Expr}{k:Nat}{t:Mi}{n:Nat}{pos:Pos}(hc:X.calm=true)(hg:Ou X es t)
 (hn:(assignEach es X.env).length=n:=by rfl) (hst:(assignEach es X.env).findIdx? (·.1)=none:=by rfl):PG X (.Tuple es k pos) (Oo K n t):=by subst h;exact JL hc hg hn hst
end
theorem XU{K:Ad}{t1 t2 p:Addr}{ys:List V}{g:TG}{tc:TT}{te:TE}{Q:VK}{js:I_}(h1:n≤xs.length)(h2:n≤ys.length)(h3:xs.length≤n∨ys.length≤n)(Pv:Nat→St→List V→Hp→Prop)(h0:Pv 0 (J6 js σ) [] (upd H p (.lst [])))
 (hl:∀i σ zs H,i≤n→Pv i σ zs H→SqT K H t1 xs∧SqT K H t2 ys∧H p=some (.lst zs)∧zs.length<A1)
 (hs:∀(i:Nat)x y σ zs H q(N:St→List V→Hp→Prop),xs[i]?=some x→ys[i]?=some y→H q=none→Pv i σ zs H→(∀σ' ys' H',Pv (i+1) σ' ys' H'→N σ' ys' H')→LU p g tc te zs (.ref q) σ (upd H q (.tup [x,y])) N)
 (hd:∀σ zs H,Pv n σ zs H→Q (.ref p) H):K5 (Pm K t1 t2) p js g tc te σ H Q:=
 Mv (n:=n) (J:=Pm K t1 t2) (js:=js) (σ:=σ) (H:=H) (p:=p) (Q:=Q) (g:=g) (tc:=tc) (te:=te) Pv h0 (λi σ zs H hi pv=>(hl i σ zs H hi pv).2.2)
  (λi σ zs H hi pv=>⟨xs,ys,xs[i],ys[i],(hl i σ zs H (Bo hi) pv).1,(hl i σ zs H (Bo hi) pv).2.1,by simp,by simp⟩)
  (λσ zs H pv=>⟨xs,ys,(hl _ σ zs H (Af _) pv).1,(hl _ σ zs H (Af _) pv).2.1,h3⟩)
  (λi v σ zs H H' N hi y pv hN=>by
   obtain⟨q,e,hq,y⟩:=y;subst e;have ex:xs[i]?=some xs[i]:=by simp
   have ey:ys[i]?=some ys[i]:=by simp
   have e2:=y xs ys _ _ (hl i σ zs H (Bo hi) pv).1 (hl i σ zs H (Bo hi) pv).2.1 ex ey;subst e2;exact hs i _ _ σ zs H q N ex ey hq pv hN) hd
section
variable{h':Heap}
end
def Po(K:Ad)(a:Addr):It:=
 ⟨λk H=>∃(xs:List V)(x:V),SqL K H a xs∧xs[k]?=some x,
  λk H v H'=>∃p,v= .ref p∧H p=none∧∀(xs:List V)(x:V),SqL K H a xs→xs[k]?=some x→H'=upd H p (.tup [.int k,x]),
  λk H=>∃(xs:List V),SqL K H a xs∧xs.length≤k⟩
theorem ZI{P:AY}{w:World}{K:Ad}{es:List Expr}{kk:Nat}{pos:Pos}(a e it:Addr)(D:e≠it):
 Turn P w K (.Tuple es kk pos) (Po K a) [e,it] e (λk h=>(∃old,IsEnum h e it k old)∧h.IsListIter it a k) where
 mem:=by simp
 obj:=λk h st c hc=>by
  obtain⟨⟨old,hz⟩,⟨oi,ei,_,di⟩⟩:=st;simp only[An,AK,or_false] at hc;rcases hc with rfl | rfl
  · exact⟨_,hz,λv e=>by cases e⟩
  · exact⟨oi,ei,λv e=>by rw[di] at e;cases e⟩
 keep:=λk h h' st kp=>by obtain⟨⟨old,hz⟩,⟨oi,ei,ri⟩⟩:=st;exact⟨⟨old,kp e (by simp) _ hz⟩,⟨oi,kp it (by simp) _ ei,ri⟩⟩
 item:=by
  intro X hP hw hK hc k pins s σ H E I hf st hg;subst hP hw hK;obtain⟨xs,x,q1,hx⟩:=hg;obtain⟨⟨old,hz⟩,h1⟩:=st;obtain⟨its1,r1,g1,_⟩:=I.list q1;obtain⟨u1,hu1,v1⟩:=r1.get hx;have fz:=hf e (by simp);have fi:=hf it (by simp);refine wpAny_pyNext_enum_item hz h1 g1.isList (by simpa using hu1) D λg a1 a2 a3 a4 a5=>?_;refine⟨_,rfl,wpAny_letOwnedTupleGo_enum a1 λg' z' m'=>?_⟩;have zT:e≠s.heap.objs.size:=A3 (Aq hz);have up:∀c o,c≠e→g.get? c=some o→g'.get? c=some o:=λc o hc e=>m'.extBut c o hc e;have fr:H s.heap.objs.size=none:=I.hok.fresh (Af _);have I1:Inv X pins σ (upd H s.heap.objs.size (.tup [.int k,x])) {s with heap:=g',toks:=s.toks+1}:=by
   refine I.newTup (t':=s.toks+1) [e,it] (λc hc=>?_) (λc o hc e=>?_) (Af _) ⟨[.int k s.toks,u1],.cons ⟨_,rfl⟩ (.cons v1 .nil),_,up _ _ zT.symm a3,rfl,rfl,_,rfl⟩
   · simp only[An,AK,or_false] at hc;rcases hc with rfl | rfl
     · exact fz
     · exact fi
   · simp only[An,AK,or_false,not_or] at hc;exact up c o hc.1 (a5 c o hc.1 hc.2 e)
  obtain⟨oi,ei,ri⟩:=a2;refine⟨.ref s.heap.objs.size,_,I1,rfl,⟨_,rfl,fr,λxs' x' s1 e1=>?_⟩,⟨⟨_,z'⟩,⟨oi,up _ _ D.symm ei,ri⟩⟩,λc hc=>?_⟩
  · rw[I.list_inj s1 q1,hx] at e1;cases e1;rfl
  · have fc:=hf c hc;have:c≠s.heap.objs.size:=by
     simp only[An,AK,or_false] at hc;obtain⟨oi',ei',_⟩:=h1;rcases hc with rfl | rfl
     · exact zT
     · exact A3 (Aq ei')
    rw[Iy this];exact fc.1
 done:=by
  intro X hP hw hK hc k pins s σ H E I hf st hg;subst hP hw hK;obtain⟨xs,q1,hend⟩:=hg;obtain⟨⟨old,hz⟩,h1⟩:=st;obtain⟨its1,r1,g1,_⟩:=I.list q1;have l1:=r1.length;refine wpAny_pyNext_enum_end (I.ok.hd hc) hz h1 g1.isList (by simp;omega) λg kp=>?_;refine⟨rfl,I.turnedN (t':=s.toks) [it] (λc hc=>?_) (λc o hc e=>?_)⟩
  · simp only[An,AK,or_false] at hc;subst hc;exact hf c (by simp)
  · simp only[An,AK,or_false] at hc;exact kp c o hc e
 self:=λ_ _ _ _ _ st h=>by obtain⟨⟨old,hz⟩,_⟩:=st;exact wpAny_pyIter_enum hz h
theorem zgP:AW "enumerate"=some (.type "enumerate"):=by decide+kernel
def WR(K:Ad)(ta:TA):TI:=λσ H R=>ta σ H λvs H1=>∃t,vs=[.ref t]∧(∃xs,SqL K H1 t xs)∧R (Po K t) H1
theorem XY{es:List Expr}{kk:Nat}{tpos:Pos}{a:Expr}{ta:TA}{p pos:Pos}(hg:Gl X "enumerate")(hm:X.mg "enumerate"=none)(ha:PA X [a] ta)
 (he:A7 [a] X.env=(false,eval a X.env)::A7 [] X.env:=by rfl) (hpl:(backTo pos (A7 [] X.env)).any (·.1)=false:=by rfl):
 PI X (.Tuple es kk tpos) (.Call (.Name "enumerate" p) [a] [] pos) (WR X.K ta):=by
 intro pins s σ H R I h;refine Bt (KH I hg hm zgP ?_ (by decide) (by decide));refine By (Il (ha pos pins s σ H _ I h) λus s1 ⟨vs,H1,I1,r1,t,e,⟨xs,q1⟩,q⟩=>?_) he hpl;subst e;obtain⟨u1,rfl,v1⟩:=KG r1;cases v1;obtain⟨its1,rv1,⟨o,n,g0,g1,g2,g3⟩,_⟩:=I1.list q1;obtain⟨oc,od,odat,osl⟩:=o;cases g1;cases g2;cases g3;refine callType_new PySem.F.called_enumerate (by decide) (PySem.F.typeCall_enumerate_1 _) (PySem.F.newCall_enumerate_1 _) (λobj=>PySem.F.args_object_init_2 obj _) PySem.F.entry_enumerate_new (meets_enumerate_newL t its1.toArray n none osl) ⟨g0,?_⟩;generalize hh5:((s1.heap.push {cls:= .type "list_iterator",data:= .fields #[.ref t,.int 0 0]}).push {cls:= .type "enumerate",data:= .fields #[.none,.bool false,.ref s1.heap.objs.size,rawInt 0,.none,.none]})=h5;have y1:(s1.heap.push {cls:= .type "list_iterator",data:= .fields #[.ref t,.int 0 0]}).objs.size=s1.heap.objs.size+1:=BL ..;have k5:∀c o,s1.heap.get? c=some o→h5.get? c=some o:=λc o e=>by rw[←hh5];exact Ae _ (Ae _ e)
 have e5:IsEnum h5 (s1.heap.objs.size+1) s1.heap.objs.size 0 .none:=by have:=Ay (s1.heap.push {cls:= .type "list_iterator",data:= .fields #[.ref t,.int 0 0]}) (o:={cls:= .type "enumerate",data:= .fields #[.none,.bool false,.ref s1.heap.objs.size,rawInt 0,.none,.none]}) rfl;rw[y1,hh5] at this;exact this
 have e1:h5.IsListIter s1.heap.objs.size t 0:=by rw[←hh5];exact⟨_,Ae _ (Ay _ rfl),rfl,rfl⟩
 have I2:Inv X pins σ H1 {s1 with heap:=h5}:=I1.kept (t':=s1.toks) k5
 have fp:∀c,s1.heap.objs.size≤c→Ix X pins H1 c:=λc hc=>I1.fpOk hc (I1.hok.fresh hc);show _∧_;rw[y1];refine⟨⟨_,e5,rfl⟩,wpAny_pyIter_enum e5 ?_⟩;refine⟨_,_,_,_,H1,rfl,I2,ZI t _ _ (C7 (CG _)),⟨⟨_,e5⟩,e1⟩,λc hc=>fp c ?_,q⟩;simp only[An,AK,or_false] at hc;rcases hc with rfl | rfl
 · exact D6 _
 · exact Af _
theorem Yu{K:Ad}{a p:Addr}{xs:List V}{g:TG}{tc:TT}{te:TE}{Q:VK}{js:I_}(Pv:Nat→St→List V→Hp→Prop)(h0:Pv 0 (J6 js σ) [] (upd H p (.lst [])))
 (hl:∀i σ ys H,i≤xs.length→Pv i σ ys H→SqL K H a xs∧H p=some (.lst ys)∧ys.length<A1)
 (hs:∀(i:Nat)x q σ ys H(N:St→List V→Hp→Prop),xs[i]?=some x→H q=none→Pv i σ ys H→(∀σ' ys' H',Pv (i+1) σ' ys' H'→N σ' ys' H')→LU p g tc te ys (.ref q) σ (upd H q (.tup [.int i,x])) N)
 (hd:∀σ ys H,Pv xs.length σ ys H→Q (.ref p) H):K5 (Po K a) p js g tc te σ H Q:=
 Mv (n:=xs.length) (J:=Po K a) (js:=js) (σ:=σ) (H:=H) (p:=p) (Q:=Q) (g:=g) (tc:=tc) (te:=te) Pv h0 (λi σ ys H hi pv=>(hl i σ ys H hi pv).2)
  (λi σ ys H hi pv=>⟨xs,xs[i],(hl i σ ys H (Bo hi) pv).1,by simp[hi]⟩) (λσ ys H pv=>⟨xs,(hl _ σ ys H (Af _) pv).1,Af _⟩)
  (λi x σ ys H H' N hi y pv hN=>by
   obtain⟨q,e,hq,y⟩:=y;subst e;have hx:xs[i]?=some xs[i]:=by simp[hi]
   rw[y xs xs[i] (hl i σ ys _ (Bo hi) pv).1 hx];exact hs i _ q σ ys _ N hx hq pv hN) hd
section
variable{te:TE}{p2 p3 p4:Pos}
def Rj(K:Ad)(te:TE):TE:=λσ H Q=>te σ H λx H1=>∃a xs,x= .ref a∧SqL K H1 a xs∧∀p,H1 p=none→Q (.ref p) (upd H1 p (.lst xs.reverse))
theorem Vals.rev:∀{xs:List V}{us:List Value},Vals xs us→Vals xs.reverse us.reverse
 | _,_,.nil=> .nil
 | _,_,.cons r t=>by rw[Dl,Dl];exact(Vals.rev t).append (.cons r .nil)
theorem X8(he:PE X e te):PE X (.Subscript e (.Slice none none (some (.UnaryOp .USub (.Constant (.int 1) n p3) p4)) p2) pos) (Rj X.K te):=by
 intro pins s σ H Q I h;refine Subscript_ (Il (he pins s σ H _ I h) λv s1 ⟨x,H1,I1,r1,a,xs,hx,hq,q1⟩=>?_);subst hx;cases r1;refine wpAny_Slice ?_;rw[evalPart_none,evalPart_some];refine Ac (Ac ?_);have hst:PE X (.UnaryOp .USub (.Constant (.int 1) n p3) p4) _:=Ps PB Ih;refine Il (hst pins s1 σ H1 (λv H2=>v= .int (-1)∧H2=H1) I1 ⟨1,rfl,rfl,rfl⟩) λvs s2 ⟨y,H2,I2,r2,e2,e3⟩=>?_;subst e2 e3;obtain⟨t,rfl⟩:=r2;have I4:Inv X pins σ H2 {s2 with heap:=s2.heap.push {cls:= .type "slice",data:= .fields #[.none,.none,.int (-1) t]}}:=I2.kept (t':=s2.toks) λb ob q=>Ae _ q
 obtain⟨its,r,ht,hz⟩:=I4.list hq;have hlen:=r.length;have hg:wpAny (model X.prog X.w) X.A (getItem (.ref a) (.ref s2.heap.objs.size)) (EP X pins σ Q) X.xe {s2 with heap:=s2.heap.push {cls:= .type "slice",data:= .fields #[.none,.none,.int (-1) t]}}:=by refine Ff ht.isList (Heap.IsSliceOf.new ..) .none .none (.int (-1) t) (by decide) ?_ (by rw[As]<;>omega);rw[PySem.W.krv_pick];refine⟨.ref _,_,I4.laid (t':=s2.toks) (o:= .lst xs.reverse) (λb ob q=>Ae _ q) (Af _) ?_,rfl,q1 _ (I4.hok.fresh (Af _))⟩;exact⟨by rw[E4];exact hz,_,0,Vals.rev r,Ay _ rfl⟩
 show wpAny (model X.prog X.w) X.A (subscriptTail e (.Slice none none (some (.UnaryOp .USub (.Constant (.int 1) n p3) p4)) p2) (.ref a) (.ref s2.heap.objs.size)) (EP X pins σ Q) X.xe {s2 with heap:=s2.heap.push {cls:= .type "slice",data:= .fields #[.none,.none,.int (-1) t]}}
 exact tail_any (ops:=_) ht.isList.typeIs EU.lookup hg (by with_unfolding_all rfl)
end
def Rh(ns:List Int):Nat:=(ns.foldl step_dedup []).length
section
variable{te:TE}{p2 p3 p4:Pos}
end
end L2
namespace WB
def Web(W:List Int):Prop:=W.length≤23∧∀(i:Nat)(x:Int),W[i]?=some x→0≤x∧x≤(i:Int)
def Post(W:List Int)(p:Int):Prop:=0≤p∧p≤(W.length:Int)
def par(W:List Int)(p:Int):Int:=W.getD (p - 1).toNat 0
theorem par_at{W:List Int}{p:Int}(h:Post W p)(h0:0<p):W[(p - 1).toNat]?=some (par W p):=by
 obtain⟨h1,h2⟩:=h;have:(p - 1).toNat<W.length:=by omega
 unfold par;rw[A2,Au this];rfl
theorem par_lt{W:List Int}{p:Int}(w:Web W)(h:Post W p)(h0:0<p):0≤par W p∧par W p<p:=by have:=w.2 _ _ (par_at h h0);omega
theorem par_post{W:List Int}{p:Int}(w:Web W)(h:Post W p)(h0:0<p):Post W (par W p):=by have:=par_lt w h h0;obtain⟨h1,h2⟩:=h;exact⟨this.1,by omega⟩
def back(W:List Int):Nat→Int→List Int
 | 0,p=>[p]
 | f+1,p=>if 0<p then p::back W f (par W p) else [p]
def bk(W:List Int)(p:Int):List Int:=back W p.toNat p
theorem Vi{W:List Int}(w:Web W):∀(f g:Nat)(p:Int),Post W p→p.toNat≤f→p.toNat≤g→back W f p=back W g p
 | 0,0,p,_,_,_=>rfl
 | 0,g+1,p,h,h1,_=>by
  have:¬ 0<p:=by omega
  unfold back;rw[if_neg this]
 | f+1,0,p,h,_,h1=>by
  have:¬ 0<p:=by omega
  unfold back;rw[if_neg this]
 | f+1,g+1,p,h,h1,h2=>by
  unfold back;by_cases h0:0<p
  · rw[if_pos h0,if_pos h0];have:=par_lt w h h0;rw[Vi w f g _ (par_post w h h0) (by omega) (by omega)]
  · rw[if_neg h0,if_neg h0]
theorem bk_pos{W:List Int}{p:Int}(w:Web W)(h:Post W p)(h0:0<p):bk W p=p::bk W (par W p):=by
 unfold bk;obtain⟨n,hn⟩:∃n,p.toNat=n+1:=⟨p.toNat - 1,by omega⟩;rw[hn];have:=par_lt w h h0;show(if 0<p then p::back W n (par W p) else [p])=_
 rw[if_pos h0,Vi w n (par W p).toNat _ (par_post w h h0) (by omega) (Af _)]
theorem bk_zero(W:List Int):bk W 0=[0]:=rfl
theorem NF{W:List Int}(w:Web W){P:Int→Prop}(h0:P 0)(hs:∀p,Post W p→0<p→P (par W p)→P p):∀p,Post W p→P p:=by
 have:∀(n:Nat)(p:Int),p.toNat≤n→Post W p→P p:=by
  intro n
  induction n with
  | zero=>
   intro p hn hp;have:p=0:=by have:=hp.1;omega
   subst this;exact h0
  | succ n ih=>
   intro p hn hp;by_cases hp0:0<p
   · have:=par_lt w hp hp0;exact hs p hp hp0 (ih _ (by omega) (par_post w hp hp0))
   · have:p=0:=by have:=hp.1;omega
     subst this;exact h0
 exact λp hp=>this _ p (Af _) hp
theorem bk_cons{W:List Int}(w:Web W){p:Int}(h:Post W p):∃t,bk W p=p::t:=by
 by_cases h0:0<p
 · exact⟨_,bk_pos w h h0⟩
 · have:p=0:=by have:=h.1;omega
   subst this;exact⟨_,bk_zero W⟩
theorem Mt{W:List Int}(w:Web W):∀p,Post W p→∀x∈bk W p,Post W x∧x≤p∧∃pre,bk W p=pre++bk W x:=by
 refine NF w ?_ ?_
 · intro x hx;rw[bk_zero] at hx;simp at hx;subst hx;exact⟨⟨by decide,by omega⟩,by decide,[],rfl⟩
 · intro p hp h0 ih x hx;have e:=bk_pos w hp h0;rw[e] at hx;rcases An.mp hx with rfl | hx
   · exact⟨hp,Int.le_refl _,[],rfl⟩
   · obtain⟨a,b,pre,c⟩:=ih x hx;have:=par_lt w hp h0;exact⟨a,by omega,p::pre,by rw[e,c];rfl⟩
theorem Xr{W:List Int}(w:Web W):∀p,Post W p→(0:Int)∈bk W p:=by
 refine NF w ?_ ?_
 · rw[bk_zero];simp
 · intro p hp h0 ih;rw[bk_pos w hp h0];exact Ag _ ih
theorem SD{W:List Int}(w:Web W):∀p,Post W p→(bk W p).Pairwise (· > ·):=by
 refine NF w ?_ ?_
 · rw[bk_zero];simp
 · intro p hp h0 ih;rw[bk_pos w hp h0];refine Dj.mpr ⟨λx hx=>?_,ih⟩;have:=(Mt w _ (par_post w hp h0) x hx).2.1;have:=par_lt w hp h0;omega
theorem Z3{l:List Int}(h:l.Pairwise (· > ·)):l.Nodup:=h.imp (λa=>by omega)
theorem ON{W:List Int}(w:Web W){p:Int}(h:Post W p):(bk W p).Nodup:=Z3 (SD w p h)
theorem TF:∀(l:List Int)(m:Int),l.Pairwise (· > ·)→(∀x∈l,0≤x∧x≤m)→(l.length:Int)≤m+1∨l=[]
 | [],m,_,_=> .inr rfl
 | x::l,m,h,hm=>by
  rw[Dj] at h;have hx:=hm x (Ai ..)
  left
  rcases TF l (x - 1) h.2 (λy hy=>⟨(hm y (Ag _ hy)).1,by have:=h.1 y hy;omega⟩) with z | z
  · rw[AB];omega
  · subst z;simp;omega
theorem bk_len{W:List Int}(w:Web W){p:Int}(h:Post W p):(bk W p).length≤24:=by
 have:=TF _ p (SD w p h) (λx hx=>⟨(Mt w p h x hx).1.1,(Mt w p h x hx).2.1⟩);have h2:=h.2;have h3:=w.1;rcases this with z | z
 · omega
 · rw[z];simp
structure Split(W:List Int)(p q c:Int)(a b:List Int):Prop where
 pc:Post W c
 ea:bk W p=a++bk W c
 eb:bk W q=b++bk W c
 na:∀x∈a,x ∉ bk W q
 nb:∀x∈b,x ∉ bk W p
theorem split{W:List Int}(w:Web W){q:Int}(hq:Post W q):∀p,Post W p→∃c a b,Split W p q c a b:=by
 have Pj:∀p,Post W p→p∈bk W q→∃c a b,Split W p q c a b:=by intro p hp hm;obtain⟨_,_,pre,e⟩:=Mt w q hq p hm;refine⟨p,[],pre,hp,rfl,e,λx hx=>by simp at hx,λx hx hx2=>?_⟩;have nd:=ON w hq;rw[e,BJ] at nd;exact nd.2.2 x hx x hx2 rfl
 refine NF w ?_ ?_
 · exact Pj 0 ⟨by decide,by omega⟩ (Xr w q hq)
 · intro p hp h0 ih;by_cases hm:p∈bk W q
   · exact Pj p hp hm
   · obtain⟨c,a,b,s⟩:=ih;have e:=bk_pos w hp h0;refine⟨c,p::a,b,s.pc,by rw[e,s.ea];rfl,s.eb,λx hx=>?_,λx hx hx2=>?_⟩
     · rcases An.mp hx with rfl | hx
       · exact hm
       · exact s.na x hx
     · rw[e] at hx2;rcases An.mp hx2 with rfl | hx2
       · exact hm (by rw[s.eb];exact AH _ hx)
       · exact s.nb x hx hx2
theorem Split.flip{W:List Int}{p q c:Int}{a b:List Int}(s:Split W p q c a b):Split W q p c b a:=⟨s.pc,s.eb,s.ea,s.nb,s.na⟩
def off(B:List Int)(x:Int):Bool:=!B.any (λy=>y==x)
theorem off_iff{B:List Int}{x:Int}:off B x=true↔x ∉ B:=by
 unfold off;rw[BA,←Cv,Cf];constructor
 · intro h hx;exact h ⟨x,hx,by simp⟩
 · rintro h ⟨y,hy,e⟩;have:=eq_of_beq e;subst this;exact h hy
theorem Split.ahead{W:List Int}{p q c:Int}{a b:List Int}(s:Split W p q c a b):(bk W p).filter (off (bk W q))=a:=by rw[s.ea,AV];have h1:a.filter (off (bk W q))=a:=List.filter_eq_self.mpr λx hx=>off_iff.mpr (s.na x hx);have h2:(bk W c).filter (off (bk W q))=[]:=List.filter_eq_nil_iff.mpr λx hx z=>off_iff.mp z (by rw[s.eb];exact Ah _ hx);rw[h1,h2,Cm]
def wayB(W:List Int)(p q:Int):List Int:=
 (bk W p).filter (off (bk W q))++[(bk W p).getD ((bk W p).filter (off (bk W q))).length 0]++((bk W q).filter (off (bk W p))).reverse
theorem Split.turn{W:List Int}(w:Web W){p q c:Int}{a b:List Int}(s:Split W p q c a b):(bk W p)[a.length]?=some c:=by obtain⟨t,e⟩:=bk_cons w s.pc;rw[s.ea,Cr (Af _),Nat.sub_self,e];rfl
theorem Split.way{W:List Int}(w:Web W){p q c:Int}{a b:List Int}(s:Split W p q c a b):wayB W p q=a++c::b.reverse:=by unfold wayB;rw[s.ahead,s.flip.ahead,A2,s.turn w];simp
theorem U5{W:List Int}(w:Web W){p q:Int}(hp:Post W p)(hq:Post W q):wayB W q p=(wayB W p q).reverse:=by obtain⟨c,a,b,s⟩:=split w hq p hp;rw[s.way w,s.flip.way w];simp
def Adj(W:List Int)(x y:Int):Prop:=0<max x y∧W[(max x y - 1).toNat]?=some (min x y)
theorem Adj.symm{W:List Int}{x y:Int}(h:Adj W x y):Adj W y x:=by unfold Adj at*;rw[Int.max_comm,Int.min_comm];exact h
theorem adj_par{W:List Int}(w:Web W){p:Int}(h:Post W p)(h0:0<p):Adj W p (par W p):=by have:=par_lt w h h0;unfold Adj;rw[Fz (by omega),Int.min_eq_right (by omega)];exact⟨h0,par_at h h0⟩
def Adjs(W:List Int):List Int→Prop
 | []=>True
 | [_]=>True
 | x::y::r=>Adj W x y∧Adjs W (y::r)
theorem T6{W:List Int}(w:Web W):∀p,Post W p→Adjs W (bk W p):=by
 refine NF w ?_ ?_
 · rw[bk_zero];exact trivial
 · intro p hp h0 ih;rw[bk_pos w hp h0];obtain⟨t,e⟩:=bk_cons w (par_post w hp h0);rw[e] at ih ⊢;exact⟨adj_par w hp h0,ih⟩
theorem Adjs.left{W:List Int}:∀(a:List Int){c:Int}{t:List Int},Adjs W (a++c::t)→Adjs W (a++[c])
 | [],c,t,_=>trivial
 | [x],c,t,h=>⟨h.1,trivial⟩
 | x::y::r,c,t,h=>⟨h.1,Adjs.left (y::r) h.2⟩
theorem Adjs.join{W:List Int}:∀(a:List Int){c:Int}{b:List Int},Adjs W (a++[c])→Adjs W (c::b)→Adjs W (a++c::b)
 | [],c,b,_,h=>h
 | [x],c,b,h,h2=>⟨h.1,h2⟩
 | x::y::r,c,b,h,h2=>⟨h.1,Adjs.join (y::r) h.2 h2⟩
theorem Adjs.rev{W:List Int}:∀(l:List Int),Adjs W l→Adjs W l.reverse
 | [],_=>trivial
 | [x],_=>trivial
 | x::y::r,h=>by have ih:=Adjs.rev (y::r) h.2;rw[Dl] at ih;rw[Dl,Dl,BI];exact Adjs.join _ ih ⟨h.1.symm,trivial⟩
structure IsWay(W:List Int)(l:List Int)(p q:Int):Prop where
 first:l[0]?=some p
 last:l[l.length - 1]?=some q
 nd:l.Nodup
 posts:∀x∈l,Post W x
 adj:Adjs W l
 len:l.length≤60
theorem way_first{W:List Int}(w:Web W){p q:Int}(hp:Post W p)(hq:Post W q):∃t,wayB W p q=p::t:=by
 obtain⟨c,a,b,s⟩:=split w hq p hp;obtain⟨t,e⟩:=bk_cons w s.pc;obtain⟨t',e'⟩:=bk_cons w hp;rw[s.way w];have:=s.ea;rw[e,e'] at this;cases a with
 | nil=>injection this with h1 h2;exact⟨b.reverse,by rw[h1];rfl⟩
 | cons x a=>injection this with h1 h2;exact⟨a++c::b.reverse,by rw[h1];rfl⟩
theorem Xl{W:List Int}(w:Web W){p q:Int}(hp:Post W p)(hq:Post W q):IsWay W (wayB W p q) p q:=by
 have r:=U5 w hp hq;obtain⟨t1,f1⟩:=way_first w hp hq;obtain⟨t2,f2⟩:=way_first w hq hp;obtain⟨c,a,b,s⟩:=split w hq p hp
 have e:=s.way w;have ea:=s.ea;have eb:=s.eb;obtain⟨t,ec⟩:=bk_cons w s.pc;have nA:=ON w hp;have nB:=ON w hq;have aA:=T6 w p hp;have aB:=T6 w q hq;have mA:∀x∈a++[c],x∈bk W p:=λx hx=>by
  rw[ea,ec];rcases A9.mp hx with z | z
  · exact AH _ z
  · exact Ah _ (by rw[Am.mp z];exact Ai ..)
 have lA:=bk_len w hp;have lB:=bk_len w hq;refine⟨by rw[f1];rfl,?_,?_,?_,?_,?_⟩
 · have:(wayB W p q).reverse[0]?=some q:=by rw[←r,f2];rfl
   rw[List.getElem?_reverse (by rw[f1];simp)] at this;rw[←this,Nat.sub_zero]
 · rw[e];rw[ea,ec] at nA;rw[eb,ec] at nB;rw[BJ] at nA nB ⊢;refine⟨nA.1,?_,?_⟩
   · rw[Bv];refine⟨λz=>nB.2.2 c (by simpa using z) c (Ai ..) rfl,?_⟩;exact List.pairwise_reverse.mpr (nB.1.imp λh z=>h z.symm)
   · intro x hx y hy z;subst z;rcases An.mp hy with z | z
     · exact nA.2.2 x hx c (Ai ..) z
     · exact s.na x hx (by rw[eb];exact AH _ (by simpa using z))
 · intro x hx;rw[e] at hx;rcases A9.mp hx with z | z
   · exact(Mt w p hp x (by rw[ea];exact AH _ z)).1
   · rcases An.mp z with z | z
     · rw[z];exact s.pc
     · exact(Mt w q hq x (by rw[eb];exact AH _ (by simpa using z))).1
 · rw[e];rw[ea,ec] at aA;rw[eb,ec] at aB;refine Adjs.join a (aA.left a) ?_;have:=Adjs.rev _ (aB.left b);simpa using this
 · rw[e];have l1:a.length+(bk W c).length=(bk W p).length:=by rw[ea,Aw]
   have l2:b.length+(bk W c).length=(bk W q).length:=by rw[eb,Aw]
   rw[Aw,AB,E4];omega
end WB
namespace L2
def Sc(i j:Int):Prop:=i.natAbs<2^1000∧j.natAbs<2^1000
theorem MQ:IY X (binaryOp .Mult) (rI Sc λi j=> .int (i*j)):=N_ λi j _ _ _ _ _ hc q=> mul_int q (IntMulOk.of_bits (A4 (intBits_le hc.1) (by decide)) (A4 (intBits_le hc.2) (by decide)))
theorem X4(K:Ad)(h:X.K=K):IY X (A_ .In) (Na K false):=by subst h;exact UT
theorem UV(K:Ad)(h:X.K=K):IY X (A_ .NotIn) (Na K true):=by subst h;exact QO
theorem VV(K:Ad)(h:X.K=K):Kp X (.builtin "len") (λxs H Q=>∃p ys,xs=[.ref p]∧(SqL K H p ys∨SqT K H p ys)∧Q (.int ys.length) H):=by subst h;exact Jb
theorem Qb(K:Ad)(h:X.K=K)(hr:Ke X):IY X (A_ .NotEq) (LF K):=by subst h;exact O9 hr
section
variable{K:Ad}{Q:VK}
theorem Q4:∀ns:List Int,(ns.map V.int).all Lp=true
 | []=>rfl
 | n::ns=>by rw[Ax,C9,Q4 ns];rfl
theorem Qp(x:Int):∀ns:List Int,Nb (.int x) (ns.map V.int)=ns.any (λy=>y==x)
 | []=>rfl
 | n::ns=>by have:=Qp x ns;unfold Nb at*;rw[Ax,BV,BV,this];rfl
theorem Tu{p:Addr}{x:Int}{ns:List Int}(h:SqL K H p (ns.map V.int))(q:Q (.bl (ns.any (λy=>y==x))) H):Na K false (.int x) (.ref p) H Q:=
 ⟨p,_,rfl,.inl h,rfl,Q4 ns,by rw[Qp];exact q⟩
theorem QM{p:Addr}{x:Int}{ns:List Int}(h:SqL K H p (ns.map V.int))(q:Q (.bl (!ns.any (λy=>y==x))) H):Na K true (.int x) (.ref p) H Q:=
 ⟨p,_,rfl,.inl h,rfl,Q4 ns,by rw[Qp];exact q⟩
end
def But(b:Addr)(H H':Hp):Prop:=∀a o,H a=some o→a≠b→H' a=some o
theorem But.refl(b:Addr)(H:Hp):But b H H:=λ_ _ h _=>h
def WebAt(H:Hp)(a:Addr)(W:List Int):Prop:=H a=some (.lst (W.map V.int))∧WB.Web W
theorem WebAt.same{H':Hp}{W:List Int}(h:WebAt H a W)(s:Same H H'):WebAt H' a W:=⟨s _ _ h.1,h.2⟩
def TL:Sp:=λvs H Q _=>∃(a:Addr)(W:List Int),vs=[.ref a]∧WebAt H a W∧∀H',Same H H'→Q (.bl true) H'
def U9:Sp:=λvs H Q _=>∃(a:Addr)(W:List Int),vs=[.ref a]∧WebAt H a W∧∀H',Same H H'→Q .non H'
def UA:Sp:=λvs H Q _=>∃(a:Addr)(W:List Int)(p:Int),vs=[.ref a,.int p]∧WebAt H a W∧WB.Post W p∧Q (.bl true) H
def V6:Sp:=λvs H Q _=>∃(a:Addr)(W:List Int)(p:Int),vs=[.ref a,.int p]∧WebAt H a W∧WB.Post W p∧∀l H',Same H H'→H l=none→H' l=some (.lst ((WB.bk W p).map V.int))→Q (.ref l) H'
def Sy:Sp:=λvs H Q _=>∃(a:Addr)(W:List Int)(p q:Int),vs=[.ref a,.int p,.int q]∧WebAt H a W∧WB.Post W p∧WB.Post W q∧∀l H',Same H H'→H l=none→H' l=some (.lst ((WB.wayB W p q).map V.int))→Q (.ref l) H'
theorem Xq(pre:List Int)(x:Int):Jp ((pre++[x]).map V.int) (-1)=some (.int x):=by
 unfold Jp L3;rw[if_neg (by decide),if_pos (by rw[Ab,Aw,CN];omega)];show((pre++[x]).map V.int)[(-1+(((pre++[x]).map V.int).length:Int)).toNat]?=_;have:(-1+(((pre++[x]).map V.int).length:Int)).toNat=pre.length:=by rw[Ab,Aw,CN];omega
 rw[this,Aj,Cr (Af _),Nat.sub_self];rfl
theorem Yx{H':Hp}{l:Addr}(s:Same H H')(h:H' l=none):H l=none:=by
 cases hz:H l with
 | none=>rfl
 | some o=>rw[s _ _ hz] at h;cases h
theorem nb{i:Int}(h0:0≤i)(h1:i<2^400):i.natAbs<2^1000:=by
 have:i.natAbs<2^400:=by omega
 exact AG this (by decide)
def Oz(K:Ad):Sp:=λvs H Q _=>∃(a:Addr)(ns:List Int),vs=[.ref a]∧SqL K H a (ns.map V.int)∧ns.length≤63∧∀H',Q (.bl true) H'
theorem mx(i j:Int):(if j>i then j else i)=max i j:=by rw[Int.max_def];split<;>split<;>omega
def KB(H H':Hp):Prop:=∀a xs,H a=some (.tup xs)→H' a=some (.tup xs)
theorem Same.tups{H':Hp}(s:Same H H'):KB H H':=λa xs h=>s _ _ h
theorem OT{p:Addr}{ys:List V}{o:HO}(h:H p=some (.lst ys)):KB H (upd H p o):=λa xs e=>by rw[Iy (Nl e h (by intro z;cases z))];exact e
theorem J7{H0:Hp}{p:Addr}{o:HO}(s:Same H0 H)(n:H0 p=none):Same H0 (upd H p o):=λa u e=>by rw[Iy (J2 e n)];exact s _ _ e
theorem TZ:∀{ts:List Str}{us:List Value},Vals (ts.map V.str) us→∃l:List (Str×Tok),strValues l=us∧l.map (·.1)=ts
 | [],_,h=>by cases h;exact⟨[],rfl,rfl⟩
 | x::ts,_,h=>by
  rw[Ax] at h;cases h with
  | cons r h=> obtain⟨t,rfl⟩:=r;obtain⟨l,h1,h2⟩:=TZ h;exact⟨(x,t)::l,by rw[←h1];rfl,by rw[←h2];rfl⟩
theorem VT:∀{ts:List Str}{us:List Value},Vals (ts.map V.str) us→StrsAre us ts
 | [],_,h=>by cases h;exact .nil
 | x::ts,_,h=>by
  rw[Ax] at h;cases h with
  | cons r h=> obtain⟨t,rfl⟩:=r;exact .cons _ _ (VT h)
theorem Wd:∀{us:List Value}{ts:List Str},StrsAre us ts→Vals (ts.map V.str) us
 | _,_,.nil=> .nil
 | _,_,.cons n t h=> .cons ⟨t,rfl⟩ (Wd h)
def W_(K:Ad):V→List V→Hp→VK→Prop:=λx vs H Q=>∃(y:Str)(a:Addr)(ts:List Str),x= .str y∧vs=[.ref a]∧SqL K H a (ts.map V.str)∧JoinOk y ts=true∧Q (.str (Txt.join y ts)) H
theorem Yw:RY X "str.join" (W_ X.K):=by intro pins s σ H x vs v us Q I rx rv h;obtain⟨y,a,ts,rfl,rfl,hq,hok,q⟩:=h;obtain⟨t,rfl⟩:=rx;obtain⟨u,rfl,ru⟩:=rv.one;cases ru;obtain⟨its,r,ht,hz⟩:=I.list hq;obtain⟨l,rfl,rfl⟩:=TZ r;unfold JoinOk at hok;rw[BA] at hok;refine call_meets F.slot_str_join (typeIs_str _ _ _) F.entry_str_join (F.args_str_join_2 _ _) (meets_str_join_list y t a l hok) ⟨ht.isList,post_join l ⟨joinFit_length hok,λt' k=>?_⟩⟩;exact⟨.str _,H,I.kept (t':=k) λb o e=>e,⟨t',rfl⟩,q⟩
def XG(K:Ad):List V→Hp→VK→Prop:=λxs H Q=>∃(a:Addr)(ns:List Str),xs=[.ref a]∧SqL K H a (ns.map V.str)∧ns.length<64∧
 ∀(p:Addr)(ms:List Str),ms.Perm ns→sortedS ms=true→H p=none→Q (.ref p) (upd H p (.lst (ms.map V.str)))
theorem zgN:Kp X (.builtin "sorted") (XG X.K):=by
 intro pins s σ H xs us Q I r h;obtain⟨a,ns,rfl,hq,h64,q⟩:=h;obtain⟨u,rfl,rx⟩:=KG r;cases rx;obtain⟨its,rv,ht,hz⟩:=I.list hq;have hl:=rv.length;rw[Ab] at hl;refine sorted_strs ht.isList (VT rv) (by omega) λout ns' a1 a2 a3=>?_;obtain⟨e,he⟩:=sortedAll_at s.heap its out;have hn:H (s.heap.objs.size+1)=none:=I.hok.fresh (D6 _);have hlen:ns'.length=ns.length:=a2.length_eq;refine⟨.ref (s.heap.objs.size+1),upd H (s.heap.objs.size+1) (.lst (ns'.map V.str)),I.laid (t':=s.toks) (λb o e=>sortedAll_old e) (D6 _) ?_,rfl,q _ ns' a2 a3 hn⟩;have hz':ns.length≤A1:=by rw[Ab] at hz;exact hz
 exact⟨by rw[Ab];omega,out.toList,e,Wd a1,by simpa [Bd] using he⟩
def J4(w:World):Bool:=w.params.followText "set-order"
theorem Yj(k:Str)(t:Tok):(strKind prog w).is k (.str k t)=true:=by show Eh k (.str k t)=true;simp[Eh]
theorem Ue(h:Heap)(a:Addr)(es es':Array (Int×Value))(ep:Nat)(t t':Ba)(ho:h.get? a=some {cls:= .type "set",dict:=none,data:= .set es ep t}):
 (h.update a (Obj.putSet es' t')).get? a=some {cls:= .type "set",dict:=none,data:= .set es' (ep+1) t'}:=by
 have:=Dp (Obj.putSet es' t') ho (by rw[putSet_of es' t' (o:={cls:= .type "set",dict:=none,data:= .set es ep t}) rfl];rfl);rw[putSet_of es' t' (o:={cls:= .type "set",dict:=none,data:= .set es ep t}) rfl] at this;exact this
section
variable{R:Result→Shared→Prop}{I:Addr}{fp wr:List Addr}{G:Array GenState→Array GenState→Prop}{P:Nat→Value→Prop}{St:Nat→Shared→Prop}
end
theorem zhG(a:Value){Q₁:Value→Shared→Prop}
 (h:Q₁ (.ref s.heap.objs.size) {s with heap:=s.heap.push {cls:= .type "set",dict:=none,data:= .set #[] 0 (.fresh 0 0 (!J4 w))}}):
 codeAny (model prog w) A (.call (.builtin "set.__new__") ⟨[.type "set",a],[]⟩) (wants Q₁ E) s:=by
 refine Eu ?_;show wpAny _ A.in1 (do checkBuiltinCall "set.__new__" ⟨[.type "set",a],[]⟩;again (.builtin "set.__new__" ⟨[.type "set",a],[]⟩)) _ _ s
 refine Aa (FC (PySem.F.newCall_set_1 a) (Ac ⟨CQ FQ _,BY PySem.F.entry_set_new ?_⟩));rw[BE FQ _];unfold Builtin.«set.__new__» Builtin.Frozenset.newClass;have hsub:=sub_set_self;obtain⟨hp,g,d,tk,os⟩:=s;dsimp only
 wp_walk
 refine Fm (Ac ?_);dsimp only;simp only[newObj];refine Aa (wpAny_alloc (Ac ?_));exact Ac h
namespace FS
end FS
namespace FS
end FS
section
variable{te:TE}{p2 p3 p4:Pos}
end
theorem zfJ:typeLookup (.type "tuple") "keys"=pure none:=by rw[typeLookup_type,builtinLookup_eq_fast];kernel_rfl
set_option maxHeartbeats 4000000 in
theorem L_{prog:AY}{w:World}{A:BC}{E:Value→Shared→Prop}{a:Addr}{its:Array Value}{n:Nat}{sl:Array (Option Value)}{h:Heap}{g d t os}{Q:Option Value→Shared→Prop}
 (hh:A.handled=none) (hx:h.get? a=some {cls:= .type "tuple",dict:=none,data:= .seq its n,slots:=sl})
 (q:∀h' tk,(∀b o,h.get? b=some o→h'.get? b=some o)→Q none ⟨h',g,d,tk,os⟩):wpAny (model prog w) A (getAttr? (.ref a) "keys") Q E ⟨h,g,d,t,os⟩:=by
 have y0:∀tk',(⟨h,g,d,tk',os⟩:Shared).TypeIs (.ref a) "tuple":=λ_=>⟨_,hx,rfl⟩;have y1:=sub_AttributeError;have y2:=F.slot_tuple_getattribute.lookup;have y3:=F.slot_tuple_getattribute.bind (.ref a);have y4:=am_tuple_getattr_none;unfold getAttr? getAttrBy? getAttrBy
 repeat (any_goals (first
  | assumption
  | exact y0 _
  | ((with_reducible show wpAny _ _ (call (Value.builtin "tuple.__getattribute__") _ _) _ _ _)
     refine call_meets F.slot_tuple_getattribute (y0 _) am_entry_tuple_getattribute (F.args_tuple_getattribute_2 _ _) (meets_getattribute_miss_tuple a its n sl "keys" _ zfJ (by decide+kernel)) ⟨hx,hh,λh' tk' e hx'=>?_⟩)
  | wp_step))
 obtain⟨t',u',he⟩:=hx'.there;show wpAny _ _ (getattributeRaised _ _ _ _ _ _ _) _ _ _;unfold getattributeRaised
 repeat (any_goals (first | assumption | wp_step))
 exact q _ _ hx'.keeps
namespace FS
end FS
section
variable{κ:Type}[DecidableEq κ]{knd:PySem.KeyKind prog w κ}
end
open PySem.W PyProof.Rows
namespace KS
def JF{α:Type}(lt:Nat→Nat→Bool)(n:Nat):KasT α→(α→Prop)→Prop
 | .ret a,Q=>Q a
 | .ask i j k,Q=>i<n∧j<n∧JF lt n (k (lt i j)) Q
variable{lt:Nat→Nat→Bool}{N:Nat}
theorem MX{α β:Type}{f:α→KasT β}{Q:β→Prop}:∀(t:KasT α),JF lt N t (λa=>JF lt N (f a) Q)→JF lt N (t.bind f) Q
 | .ret _,h=>h
 | .ask _ _ k,⟨h1,h2,h⟩=>⟨h1,h2,MX (k _) h⟩
theorem KY{α:Type}{Q Q':α→Prop}(hq:∀a,Q a→Q' a):∀(t:KasT α),JF lt N t Q→JF lt N t Q'
 | .ret a,h=>hq a h
 | .ask _ _ k,⟨h1,h2,h⟩=>⟨h1,h2,KY hq (k _) h⟩
structure Ord(lt:Nat→Nat→Bool):Prop where
 as:∀a b,lt a b=true→lt b a=false
 tr:∀a b c,lt b a=false→lt c b=false→lt c a=false
theorem Ord.rfl'(O:Ord lt)(a:Nat):lt a a=false:=by
 cases h:lt a a with
 | false=>rfl
 | true=>exact(O.as a a h).symm.trans h ▸ rfl
abbrev K(p:Array Nat)(i:Nat):Nat:=p.getD i 0
structure Ok(N:Nat)(p:Array Nat):Prop where
 perm:p.toList.Perm (AJ N)
theorem Ok.size{p:Array Nat}(h:Ok N p):p.size=N:=by have:=h.perm.length_eq;simpa using this
theorem Ok.below{p:Array Nat}(h:Ok N p)(hi:i<N):K p i<N:=by
 have hs:i<p.size:=by rw[h.size];exact hi
 have:p.getD i 0=p[i]:=by simp[Array.getD,hs]
 show p.getD i 0<N;rw[this];have m:p[i]∈p.toList:=by simp
 exact AQ.mp (h.perm.mem_iff.mp m)
theorem Ok.of_perm{p q:Array Nat}(h:Ok N p)(e:q.Perm p):Ok N q:=⟨(Array.perm_iff_toList_perm.mp e).trans h.perm⟩
theorem Ok.rev{p:Array Nat}(h:Ok N p)(i j:Nat):Ok N (kas_rev p i j):=h.of_perm (mirror_perm _ _ _ _)
theorem Ok.bub{p:Array Nat}(h:Ok N p)(i j:Nat):Ok N (bubble p i j):=h.of_perm (bubble_perm _ _ _)
theorem Ln{p q:Array Nat}{j:Nat}(h:p[i]?=q[j]?):K p i=K q j:=by show p.getD i 0=q.getD j 0;rw[BP,BP,h]
theorem Pp{p:Array Nat}(h:Ok N p){j:Nat}(hj:j≤N)(k:Nat):K (kas_rev p i j) k=if i≤k∧k<j then K p (i+j - 1 - k) else K p k:=by
 have e:=getElem?_mirror_all (xs:=p) (i:=i) (j:=j) (by rw[h.size];exact hj) k
 split
 · rename_i c;rw[if_pos c] at e;exact Ln e
 · rename_i c;rw[if_neg c] at e;exact Ln e
theorem Se{p:Array Nat}(h:Ok N p){k l:Nat}(hk:k<N)(hl:l≤k)(i:Nat):K (bubble p k (k - l)) i=if i=l then K p k else if l<i∧i≤k then K p (i - 1) else K p i:=by
 have e:=getElem?_bubble (xs:=p) (src:=k) (by rw[h.size];exact hk) (k - l) (by omega) i;have e1:k - (k - l)=l:=by omega
 rw[e1] at e
 split
 · rename_i c;rw[if_pos c] at e;exact Ln e
 · rename_i c;rw[if_neg c] at e
   split
   · rename_i d;rw[if_pos d] at e;exact Ln e
   · rename_i d;rw[if_neg d] at e;exact Ln e
def Srt(lt:Nat→Nat→Bool)(p:Array Nat)(m:Nat):Prop:=∀i j,i<j→j<m→lt (K p j) (K p i)=false
def Dsc(lt:Nat→Nat→Bool)(p:Array Nat)(m:Nat):Prop:=∀i j,i<j→j<m→lt (K p i) (K p j)=false
def Eqv(lt:Nat→Nat→Bool)(a b:Nat):Prop:=lt a b=false∧lt b a=false
theorem Eqv.symm{a b:Nat}(h:Eqv lt a b):Eqv lt b a:=⟨h.2,h.1⟩
theorem Ord.refl(O:Ord lt)(a:Nat):Eqv lt a a:=⟨O.rfl' a,O.rfl' a⟩
theorem Ord.eqv_trans(O:Ord lt){a b c:Nat}(h:Eqv lt a b)(h':Eqv lt b c):Eqv lt a c:=⟨O.tr c b a h'.1 h.1,O.tr a b c h.2 h'.2⟩
theorem Ord.via(O:Ord lt){a b a' b':Nat}(h1:Eqv lt a a')(h2:Eqv lt b b')(h:lt a' b'=false):lt a b=false:=
 O.tr b b' a h2.symm.1 (O.tr b' a' a h h1.1)
theorem P0(O:Ord lt){p:Array Nat}(h:Ok N p):∀(f n:Nat),1≤n→n+f≤N→Srt lt p n→
 JF lt N (kas_asc p f n) (λm=>n≤m∧m≤n+f∧Srt lt p m∧(m<n+f→lt (K p m) (K p (m - 1))=true))
 | 0,n,_,_,s=>⟨Af _,Af _,s,λz=>absurd z (by omega)⟩
 | f+1,n,h1,h2,s=>by
  refine⟨h.below (by omega),h.below (by omega),?_⟩;cases c:lt (p.getD n 0) (p.getD (n - 1) 0) with
  | true=>exact⟨Af _,by omega,s,λ_=>c⟩
  | false=>
   show JF lt N (kas_asc p f (n+1)) _;refine KY (λm hm=>?_) _ (P0 O h f (n+1) (by omega) (by omega) ?_)
   · obtain⟨a1,a2,a3,a4⟩:=hm;exact⟨by omega,by omega,a3,λz=>a4 (by omega)⟩
   · intro i j hij hj;by_cases hjn:j<n
     · exact s i j hij hjn
     · obtain rfl:j=n:=by omega
       by_cases hi:i=j - 1
       · subst hi;exact c
       · exact O.tr _ (K p (j - 1)) _ (s i (j - 1) (by omega) (by omega)) c
theorem Qd(O:Ord lt){p:Array Nat}(h:Ok N p){j:Nat}(hj:j≤N)(he:∀k,i≤k→k<j→Eqv lt (K p k) (K p (j - 1)))(k:Nat):Eqv lt (K (kas_rev p i j) k) (K p k):=by
 rw[Pp h hj]
 split
 · rename_i c;exact O.eqv_trans (he _ (by omega) (by omega)) (he k c.1 c.2).symm
 · exact O.refl _
theorem Dsc.eqv(O:Ord lt){p q:Array Nat}{m:Nat}(h:Dsc lt p m)(e:∀k,Eqv lt (K q k) (K p k)):Dsc lt q m:=λi j hij hj=>O.via (e i) (e j) (h i j hij hj)
def Sa(lt:Nat→Nat→Bool)(p:Array Nat)(m q:Nat):Prop:=∀i,m - (q+1)≤i→i<m→Eqv lt (K p i) (K p (m - 1))
theorem Dsc.snoc(O:Ord lt){p:Array Nat}(h1:1≤n)(s:Dsc lt p n)(c:lt (K p (n - 1)) (K p n)=false):Dsc lt p (n+1):=by
 intro i j hij hj;by_cases hjn:j<n
 · exact s i j hij hjn
 · obtain rfl:j=n:=by omega
   by_cases hi:i=j - 1
   · subst hi;exact c
   · exact O.tr _ (K p (j - 1)) _ c (s i (j - 1) (by omega) (by omega))
theorem OH(O:Ord lt):∀(f:Nat)(p:Array Nat)(n q:Nat),Ok N p→q+1≤n→n+f≤N→Dsc lt p n→Sa lt p n q→
 JF lt N (kas_desc f p n q) (λr=>Ok N r.1∧n≤r.2.1∧r.2.1≤n+f∧Dsc lt r.1 r.2.1∧Sa lt r.1 r.2.1 r.2.2∧r.2.2+1≤r.2.1)
 | 0,p,n,q,h,h1,h2,s,e=>⟨h,Af _,Af _,s,e,h1⟩
 | f+1,p,n,q,h,h1,h2,s,e=>by
  refine⟨h.below (by omega),h.below (by omega),?_⟩;cases c:lt (p.getD n 0) (p.getD (n - 1) 0) with
  | true=>
   have c':lt (K p (n - 1)) (K p n)=false:=O.as _ _ c;have s':=s.snoc O (by omega) c';show JF lt N (if q>0 then kas_desc f (kas_rev p (n - (q+1)) n) (n+1) 0 else kas_desc f p (n+1) 0) _
   have t1:∀p',Sa lt p' (n+1) 0:=λp' i hi1 hi2=>by
    obtain rfl:i=n:=by omega
    exact O.refl _
   split
   · refine KY (λm hm=>?_) _ (OH O f (kas_rev p (n - (q+1)) n) (n+1) 0 (h.rev _ _) (by omega) (by omega) (s'.eqv O (Qd O h (by omega) e)) (t1 _));obtain⟨a1,a2,a3,a4⟩:=hm;exact⟨a1,by omega,by omega,a4⟩
   · refine KY (λm hm=>?_) _ (OH O f p (n+1) 0 h (by omega) (by omega) s' (t1 _));obtain⟨a1,a2,a3,a4⟩:=hm;exact⟨a1,by omega,by omega,a4⟩
  | false=>
   show JF lt N (KasT.ask (p.getD (n - 1) 0) (p.getD n 0) λd=>if d=true then KasT.ret (p,n,q) else kas_desc f p (n+1) (q+1)) _
   refine⟨h.below (by omega),h.below (by omega),?_⟩;cases d:lt (p.getD (n - 1) 0) (p.getD n 0) with
   | true=>exact⟨h,Af _,by show n≤n+(f+1);omega,s,e,h1⟩
   | false=>
    show JF lt N (kas_desc f p (n+1) (q+1)) _;refine KY (λm hm=>?_) _ (OH O f p (n+1) (q+1) h (by omega) (by omega) (s.snoc O (by omega) d) ?_)
    · obtain⟨a1,a2,a3,a4⟩:=hm;exact⟨a1,by omega,by omega,a4⟩
    · intro i hi1 hi2;have en:Eqv lt (K p (n - 1)) (K p n):=⟨d,c⟩;by_cases hin:i=n
      · subst hin;exact O.refl _
      · exact O.eqv_trans (e i (by omega) (by omega)) en
theorem Uc(O:Ord lt){p:Array Nat}{nrem:Nat}(h:Ok N p)(h1:1≤n)(h2:n≤nrem)(h3:nrem≤N)(s:Dsc lt p n):
 JF lt N (kas_tail3 n nrem p) (λr=>Ok N r.2∧1≤r.1∧r.1≤nrem∧Srt lt r.2 r.1):=by
 unfold kas_tail3;refine MX _ (KY (λm hm=>?_) _ (P0 O (h.rev 0 n) (nrem - n) n h1 (by omega) ?_))
 · obtain⟨a1,a2,a3,_⟩:=hm;exact⟨h.rev 0 n,by show 1≤m;omega,by show m≤nrem;omega,a3⟩
 · intro i j hij hj;rw[Pp h (by omega),Pp h (by omega),if_pos (by omega),if_pos (by omega)];exact s _ _ (by omega) (by omega)
theorem VL(O:Ord lt){p:Array Nat}{nrem:Nat}(h:Ok N p)(h1:1≤n)(h2:n+1≤nrem)(h3:nrem≤N)(s:Dsc lt p (n+1)):
 JF lt N (kas_descPart n nrem p) (λr=>Ok N r.2∧1≤r.1∧r.1≤nrem∧Srt lt r.2 r.1):=by
 unfold kas_descPart;refine MX _ (KY (λr hr=>?_) _ (OH O (nrem - (n+1)) p (n+1) 0 h (by omega) (by omega) s λi i1 i2=>?_))
 · obtain⟨a1,a2,a3,a4,a5,a6⟩:=hr
   split
   · exact Uc O (a1.rev _ _) (by omega) (by omega) h3 (a4.eqv O (Qd O a1 (by omega) a5))
   · exact Uc O a1 (by omega) (by omega) h3 a4
 · obtain rfl:i=n:=by omega
   exact O.refl _
theorem YQ(O:Ord lt){p:Array Nat}{nrem:Nat}(h:Ok N p)(h1:1≤nrem)(h3:nrem≤N):
 JF lt N (kas_count nrem p) (λr=>Ok N r.2∧1≤r.1∧r.1≤nrem∧Srt lt r.2 r.1):=by
 unfold kas_count;refine MX _ (KY (λn hn=>?_) _ (P0 O h (nrem - 1) 1 (Af _) (by omega) λi j hij hj=>absurd hj (by omega)));obtain⟨a1,a2,a3,a4⟩:=hn
 split
 · exact⟨h,a1,by show n≤nrem;omega,a3⟩
 · rename_i ne;have hlt:n<nrem:=by
    have:n≠nrem:=λz=>ne (by rw[z];simp);omega
   have c:=a4 (by omega);have c':=O.as _ _ c
   split
   · refine⟨h.below (by omega),h.below (by omega),?_⟩;cases d:lt (p.getD 0 0) (p.getD (n - 1) 0) with
     | true=>exact⟨h,a1,by show n≤nrem;omega,a3⟩
     | false=>
      show JF lt N (kas_descPart n nrem (kas_rev p 0 n)) _;have al:∀k,0≤k→k<n→Eqv lt (K p k) (K p (n - 1)):=by
       intro k _ hk;have u1:lt (K p (n - 1)) (K p k)=false:=by
        by_cases z:k=n - 1
        · subst z;exact O.rfl' _
        · exact a3 k (n - 1) (by omega) (by omega)
       have u0:lt (K p k) (K p 0)=false:=by
        by_cases z:k=0
        · subst z;exact O.rfl' _
        · exact a3 0 k (by omega) hk
       exact⟨O.tr _ (K p 0) _ d u0,u1⟩
      refine VL O (h.rev 0 n) a1 (by omega) h3 ?_;have dn:Dsc lt p n:=λi j hij hj=>O.via (al i (by omega) (by omega)) (al j (by omega) hj) (O.rfl' _);exact(dn.snoc O a1 c').eqv O (Qd O h (by omega) al)
   · refine VL O h a1 (by omega) h3 ?_;refine Dsc.snoc O a1 (λi j hij hj=>absurd hj (by omega)) c'
theorem Qg(O:Ord lt){p:Array Nat}(h:Ok N p){k:Nat}(hk:k<N)(s:Srt lt p k):∀(f l r:Nat),l≤r→r≤k→r - l≤f→(∀i,i<l→lt (K p k) (K p i)=false)→(∀i,r≤i→i<k→lt (K p k) (K p i)=true)→
 JF lt N (kas_place p k f l r) (λL=>L≤k∧(∀i,i<L→lt (K p k) (K p i)=false)∧∀i,L≤i→i<k→lt (K p k) (K p i)=true)
 | 0,l,r,h1,h2,h3,a,b=>by
  obtain rfl:l=r:=by omega
  exact⟨h2,a,b⟩
 | f+1,l,r,h1,h2,h3,a,b=>by
  unfold kas_place
  split
  · obtain rfl:l=r:=by omega
    exact⟨h2,a,b⟩
  · refine⟨h.below hk,h.below (by omega),?_⟩;cases c:lt (p.getD k 0) (p.getD ((l+r) / 2) 0) with
    | true=>
     show JF lt N (kas_place p k f l ((l+r) / 2)) _;refine Qg O h hk s f l _ (by omega) (by omega) (by omega) a λi i1 i2=>?_;cases d:lt (K p k) (K p i) with
     | true=>rfl
     | false=>
      have:lt (K p k) (K p ((l+r) / 2))=false:=by
       by_cases z:i=(l+r) / 2
       · rw[←z];exact d
       · exact O.tr _ (K p i) _ (s _ _ (by omega) i2) d
      rw[show lt (K p k) (K p ((l+r) / 2))=true from c] at this;cases this
    | false=>
     show JF lt N (kas_place p k f ((l+r) / 2+1) r) _;refine Qg O h hk s f _ r (by omega) h2 (by omega) (λi hi=>?_) b;by_cases z:i=(l+r) / 2
     · rw[z];exact c
     · exact O.tr _ (K p ((l+r) / 2)) _ (s _ _ (by omega) (by omega)) c
theorem SC(O:Ord lt):∀(f:Nat)(p:Array Nat)(k:Nat),Ok N p→k+f≤N→1≤k→Srt lt p k→JF lt N (kas_bin f p k) (λq=>Ok N q∧Srt lt q (k+f))
 | 0,p,k,h,_,_,s=>⟨h,s⟩
 | f+1,p,k,h,h1,h2,s=>by
  unfold kas_bin;refine MX _ (KY (λl hl=>?_) _ (Qg O h (by omega) s k 0 k (by omega) (Af _) (by omega) (λi hi=>absurd hi (by omega)) λi i1 i2=>absurd i2 (by omega)));obtain⟨l1,a,b⟩:=hl;have e:k+1+f=k+(f+1):=by omega
  rw[←e];refine SC O f _ (k+1) (h.bub k (k - l)) (by omega) (by omega) λi j hij hj=>?_;rw[Se h (by omega) l1,Se h (by omega) l1];by_cases jl:j=l
  · rw[if_pos jl,if_neg (by omega),if_neg (by omega)];exact a i (by omega)
  · rw[if_neg jl];by_cases jm:l<j∧j≤k
    · rw[if_pos jm];by_cases il:i=l
      · rw[if_pos il];exact O.as _ _ (b (j - 1) (by omega) (by omega))
      · rw[if_neg il];by_cases im:l<i∧i≤k
        · rw[if_pos im];exact s _ _ (by omega) (by omega)
        · rw[if_neg im];exact s _ _ (by omega) (by omega)
    · rw[if_neg jm,if_neg (by omega),if_neg (by omega)];exact s _ _ hij (by omega)
theorem sort_ok(O:Ord lt)(h1:1≤N):JF lt N (kas_sort N) (λq=>Ok N q∧Srt lt q N):=by
 unfold kas_sort;refine MX _ (KY (λr hr=>?_) _ (YQ O (p:=(AJ N).toArray) ⟨by simp⟩ h1 (Af _)));obtain⟨a1,a2,a3,a4⟩:=hr
 split
 · have e:max r.1 1=r.1:=by omega
   rw[e];refine KY (λq hq=>?_) _ (SC O (N - r.1) r.2 r.1 a1 (by omega) a2 a4);rw[show r.1+(N - r.1)=N by omega] at hq;exact hq
 · have e:r.1=N:=by omega
   rw[e] at a4;exact⟨a1,a4⟩
open PySem in
theorem sat_wp{α:Type}{cmp:Nat→Nat→(Bool→Shared→Prop)→Shared→Prop}{Q:α→Prop}{G:α→Shared→Prop}(hc:∀i j C,i<N→j<N→C (lt i j) s→cmp i j C s)(hq:∀a,Q a→G a s):
 ∀t:KasT α,JF lt N t Q→t.kasWp cmp G s
 | .ret a,h=>hq a h
 | .ask i j k,⟨h1,h2,h⟩=>hc i j _ h1 h2 (sat_wp hc hq (k _) h)
end KS
end L2
set_option maxHeartbeats 1000000
namespace L2
open PySem PySem.Spec PyProof.Rows PySem.W
def Kh:V→Bool
 | .non=>true
 | .int _=>true
 | _=>false
def RJ:V→V→Bool
 | .int i,.int j=>decide (i≤j)
 | _,_=>true
def KL(H:Hp):V→Bool
 | .ref a=>match H a with
  | some (.tup [x,y])=>Kh x && Kh y && RJ x y
  | _=>false
 | _=>false
def SpanAt(H:Hp)(v:V)(lo hi:Option Int):Prop:=∃a,v= .ref a∧H a=some (.tup [eV lo,eV hi])
def LJ:Option Int→Option Int→Bool
 | some i,some j=>decide (i≤j)
 | _,_=>true
theorem Zq{v:V}{lo hi:Option Int}(h:SpanAt H v lo hi):KL H v=LJ lo hi:=by obtain⟨a,rfl,e⟩:=h;unfold KL;simp only[e];cases lo<;>cases hi<;>simp[eV,Kh,RJ,LJ]
theorem Sm{K:Ad}(o:Option Int):∃t,TyOf K H (eV o) (.type t):=by
 cases o with
 | none=>exact⟨_,.non⟩
 | some i=>exact⟨_,.int i⟩
def TW(K:Ad):Sp:=λvs H Q _=>∃(v:V)(t:String),vs=[v]∧TyOf K H v (.type t)∧Q (.bl (t=="int")) H
def Sv(K:Ad):Sp:=λvs H Q _=>∃(v:V)(t:String),vs=[v]∧TyOf K H v (.type t)∧Q (.bl (Kh v)) H
def SB(K:Ad)(H:Hp)(v:V):Prop:=∀a x y,v= .ref a→H a=some (.tup [x,y])→∃t1 t2,TyOf K H x (.type t1)∧TyOf K H y (.type t2)
def UB(K:Ad):Sp:=λvs H Q _=>∃(v:V)(t:String),vs=[v]∧TyOf K H v (.type t)∧SB K H v∧Q (.bl (KL H v)) H
theorem SpanAt.ty{K:Ad}{v:V}{lo hi:Option Int}(h:SpanAt H v lo hi):TyOf K H v (.type "tuple")∧SB K H v:=by obtain⟨a,rfl,q⟩:=h;refine⟨.tup q,λa' x y e q'=>?_⟩;cases e;rw[q] at q';injection q' with q';injection q' with q';injection q' with e1 e2;injection e2 with e2 _;subst e1 e2;obtain⟨t1,h1⟩:=Sm (K:=K) (H:=H) lo;obtain⟨t2,h2⟩:=Sm (K:=K) (H:=H) hi;exact⟨t1,t2,h1,h2⟩
def KR:Option Int→Option Int→Bool
 | none,_=>true
 | some _,none=>false
 | some l,some o=>decide (l≤o)
def LZ:Option Int→Option Int→Bool
 | none,_=>true
 | some _,none=>false
 | some h,some o=>decide (o≤h)
def JT(lo hi lo2 hi2:Option Int):Bool:=KR lo lo2 && LZ hi hi2
def Wi:Option Int→Option Int→Option Int
 | none,o=>o
 | some l,none=>some l
 | some l,some o=>some (if l<o then o else l)
def Wj:Option Int→Option Int→Option Int
 | none,o=>o
 | some h,none=>some h
 | some h,some o=>some (if o<h then o else h)
def Oq:Option Int→Option Int→Bool
 | some l,some h=>decide (h<l)
 | _,_=>false
def loB:Option Int→Int→Bool
 | none,_=>true
 | some l,k=>decide (l≤k)
def hiB:Option Int→Int→Bool
 | none,_=>true
 | some h,k=>decide (k≤h)
def Pj(lo hi:Option Int)(k:Int):Bool:=loB lo k && hiB hi k
def TQ:Sp:=λvs H Q _=>∃(v w:V)(lo hi lo2 hi2:Option Int),vs=[v,w]∧SpanAt H v lo hi∧SpanAt H w lo2 hi2∧Q (.bl (JT lo hi lo2 hi2)) H
abbrev T15:Int:=1000000000000000
theorem Pk:(10:Int)^(15:Int).toNat=T15:=by decide
theorem JU{j:Int}(h0:0≤j)(h1:j≤1000):Sd 10 j:=⟨h0,h1,by decide⟩
def Oa:Option Int→List Int
 | none=>[]
 | some e=>[e - 1,e,e+1]
def R7:List Int:=[0,10^(17:Int).toNat,0 - 10^(17:Int).toNat]
def WY(ss:List (Option Int×Option Int)):List Int:=R7++ss.flatMap λs=>Oa s.1++Oa s.2
def spPoints(K:Ad):Sp:=λvs H Q _=>∃(a:Addr)(ss:List (Addr×Option Int×Option Int)),vs=[.ref a]∧SqL K H a (ss.map λs=>V.ref s.1)∧(∀s∈ss,H s.1=some (.tup [eV s.2.1,eV s.2.2]))∧ss.length≤8∧
 ∀r H',Same H H'→H' r=some (.lst ((WY (ss.map (·.2))).map V.int))→Q (.ref r) H'
def dE:Option Int→PD
 | none=> .non
 | some i=> .int i
theorem SU{K:Ad}(o:Option Int):Rep K H (dE o) (eV o):=by
 cases o with
 | none=>show Rep K H .non .non;rw[Rep]
 | some i=>show Rep K H (.int i) (.int i);rw[Rep]
def LW(c:Nat):Bool:=decide (97≤c) && decide (c≤122)
structure FieldOk(x:Str):Prop where
 one:1≤x.length
 eight:x.length≤8
 all:∀c∈x.cps.toList,LW c=true
theorem WJ:("a":Str).cps.toList=[97]:=by decide+kernel
theorem WK:("z":Str).cps.toList=[122]:=by decide+kernel
theorem RQ{c:Nat}(h:LW c=true):(!decide ((⟨#[c]⟩:Str).cps.toList<("a":Str).cps.toList))=true:=by
 rw[WJ];have h1:97≤c:=of_decide_eq_true ((AM _ _).mp h).1;have:¬([c]:List Nat)<[97]:=by
  intro z;cases z with
  | rel z=>exact absurd z (by omega)
  | cons z=>cases z
 show(!decide (([c]:List Nat)<[97]))=true;rw[decide_eq_false this];rfl
theorem RI{c:Nat}(h:LW c=true):(!decide (("z":Str).cps.toList<(⟨#[c]⟩:Str).cps.toList))=true:=by
 rw[WK];have h1:c≤122:=of_decide_eq_true ((AM _ _).mp h).2;have:¬([122]:List Nat)<[c]:=by
  intro z;cases z with
  | rel z=>exact absurd z (by omega)
  | cons z=>cases z
 show(!decide (([122]:List Nat)<[c]))=true;rw[decide_eq_false this];rfl
def OG:Sp:=λvs H Q _=>∃x:Str,vs=[.str x]∧FieldOk x∧∀H',Same H H'→Q (.bl true) H'
def WH(H:Hp)(p:Addr)(f:Str)(lo hi:Option Int):Prop:=H p=some (.tup [.str f,eV lo,eV hi])
def VS:Sp:=λvs H Q _=>∃(p:Addr)(f:Str)(lo hi:Option Int),vs=[.ref p]∧WH H p f lo hi∧FieldOk f∧LJ lo hi=true∧∀H',Same H H'→Q (.bl true) H'
def JP(f g:Str):Prop:=f.cps.toList<g.cps.toList
def U7:Sp:=λvs H Q _=>∃(a:Addr)(ps:List (Addr×Str×List V)),vs=[.ref a]∧H a=some (.tup (ps.map λp=>V.ref p.1))∧ps.length≤100∧(∀p∈ps,H p.1=some (.tup (V.str p.2.1::p.2.2)))∧
 (∀(i:Nat)p q,ps[i]?=some p→ps[i+1]?=some q→JP p.2.1 q.2.1)∧∀H',Same H H'→Q (.bl true) H'
abbrev WP:=Str×Option Int×Option Int
def WishAt(H:Hp)(a:Addr)(w:List WP):Prop:=∃ps:List (Addr×WP),ps.map (·.2)=w∧H a=some (.tup (ps.map λp=>V.ref p.1))∧∀p∈ps,H p.1=some (.tup [.str p.2.1,eV p.2.2.1,eV p.2.2.2])
theorem WishAt.keep{H':Hp}{w:List WP}(h:WishAt H a w)(s:KB H H'):WishAt H' a w:=by obtain⟨ps,e,h1,h2⟩:=h;exact⟨ps,e,s _ _ h1,λp hp=>s _ _ (h2 p hp)⟩
theorem WishAt.same{H':Hp}{w:List WP}(h:WishAt H a w)(s:Same H H'):WishAt H' a w:=h.keep s.tups
structure WOk(w:List WP):Prop where
 len:w.length≤100
 ok:∀p∈w,FieldOk p.1∧LJ p.2.1 p.2.2=true
 asc:(w.map (·.1)).Pairwise JP
def Jt(w:List WP)(f:Str):Option (Option Int×Option Int):=(w.find? (λp=>decide (p.1=f))).map (·.2)
theorem VH{w:List WP}{f:Str}(h:∀p∈w,p.1≠f):Jt w f=none:=by unfold Jt;rw[Cz.mpr λp hp z=>h p hp (of_decide_eq_true z)];rfl
theorem zgX(w:List WP)(p:WP)(f:Str)(hn:Jt w p.1=none):Jt (w++[p]) f=if f=p.1 then some p.2 else Jt w f:=by
 unfold Jt at*;rw[List.find?_append];by_cases h:f=p.1
 · subst h;rw[if_pos rfl];cases e:w.find? (λq=>decide (q.1=p.1)) with
   | some q=>rw[e] at hn;cases hn
   | none=>simp
 · rw[if_neg h];cases e:w.find? (λq=>decide (q.1=f)) with
   | some q=>rfl
   | none=>simp;exact λz=>h z.symm
theorem SM{f g:Str}(h:JP f g):f≠g:=λe=>by subst e;exact Ds _ h
theorem WOk.fresh{w:List WP}(h:WOk w){p:WP}(hp:w[i]?=some p):Jt (w.take i) p.1=none:=by
 refine VH λq hq e=>?_;obtain⟨j,hj⟩:=Ci hq;rw[List.getElem?_take] at hj
 split at hj
 · rename_i lt;have hi:i<w.length:=(Al.mp hp).1;have:=Bs.mp h.asc j i (by rw[Ab];omega) (by rw[Ab];exact hi) lt;rw[BQ,BQ] at this;have e1:w[j]'(by omega)=q:=(Al.mp hj).2;have e2:w[i]=p:=(Al.mp hp).2;rw[e1,e2] at this;exact SM this e
 · cases hj
def DictSp(H:Hp)(d:Addr)(w:List WP):Prop:=∃kvs:List (IT×V),H d=some (.dK kvs)∧kvs.length≤w.length∧∀f:Str,match Jt w f with
 | none=>IQ kvs (.inr f)=none
 | some s=>∃t,IQ kvs (.inr f)=some (.ref t)∧H t=some (.tup [eV s.1,eV s.2])
theorem DictSp.same{H':Hp}{d:Addr}{w:List WP}(h:DictSp H d w)(s:Same H H'):DictSp H' d w:=by
 obtain⟨kvs,e,l,q⟩:=h;refine⟨kvs,s _ _ e,l,λf=>?_⟩;have:=q f;cases hs:Jt w f with
 | none=>rw[hs] at this;exact this
 | some sp=>rw[hs] at this;obtain⟨t,h1,h2⟩:=this;exact⟨t,h1,s _ _ h2⟩
def L9(other:List WP)(p:WP):Bool:=match Jt other p.1 with
 | none=>false
 | some s=>JT p.2.1 p.2.2 s.1 s.2
theorem VD{other:List WP}{p:WP}(h:Jt other p.1=none):L9 other p=false:=by unfold L9;rw[h]
theorem QX{other:List WP}{p:WP}{s:Option Int×Option Int}(h:Jt other p.1=some s):L9 other p=JT p.2.1 p.2.2 s.1 s.2:=by unfold L9;rw[h]
def II(one other:List WP):Bool:=one.all (L9 other)
def UC:Sp:=λvs H Q _=>∃(a:Addr)(w:List WP),vs=[.ref a]∧WishAt H a w∧WOk w∧∀H',Same H H'→Q (.bl true) H'
def Vc:Sp:=λvs H Q _=>∃(a:Addr)(w:List WP),vs=[.ref a]∧WishAt H a w∧WOk w∧∀H',Same H H'→Q .non H'
def Vh:Sp:=λvs H Q _=>∃(a:Addr)(w:List WP),vs=[.ref a]∧WishAt H a w∧WOk w∧∀d H',Same H H'→H d=none→DictSp H' d w→Q (.ref d) H'
def Vg:Sp:=λvs H Q _=>∃(a d:Addr)(w w':List WP),vs=[.ref a,.ref d]∧WishAt H a w∧DictSp H d w'∧∀H',Same H H'→Q (.bl (II w w')) H'
def VG:Sp:=λvs H Q _=>∃(a b:Addr)(w w':List WP),vs=[.ref a,.ref b]∧WishAt H a w∧WishAt H b w'∧WOk w'∧∀H',Same H H'→Q (.bl (II w w')) H'
def WW:Option Int→Option Int→Int
 | some l,_=>l
 | none,some h=>h
 | none,none=>0
abbrev PP:=Str×Int
def Nu(H:Hp)(a:Addr)(w:List PP):Prop:=∃ps:List (Addr×PP),ps.map (·.2)=w∧H a=some (.tup (ps.map λp=>V.ref p.1))∧∀p∈ps,H p.1=some (.tup [.str p.2.1,.int p.2.2])
theorem W9{K:Ad}{a p:Addr}{xs:List V}{g:TG}{tc:TT}{tk tv:TE}{Q:VK}{js:I_}(Pv:Nat→St→List (IT×V)→Hp→Prop)(h0:Pv 0 (J6 js σ) [] (upd H p (.dK [])))
 (hl:∀i σ kvs H,i≤xs.length→Pv i σ kvs H→SqT K H a xs∧H p=some (.dK kvs)∧kvs.length<A1)
 (hs:∀(i:Nat)x σ kvs H(N:St→List (IT×V)→Hp→Prop),xs[i]?=some x→Pv i σ kvs H→(∀σ' kvs' H',Pv (i+1) σ' kvs' H'→N σ' kvs' H')→g x σ H λσ2 H2=>tc σ2 H2 λb H3=> if b=true then tk σ2 H3 λk H4=>tv σ2 H4 λy H5=>∃ky,k=kV ky∧H5 p=some (.dK kvs)∧N σ2 (JA kvs ky y) (upd H5 p (.dK (JA kvs ky y))) else N σ2 kvs H3)
 (hd:∀σ kvs H,Pv xs.length σ kvs H→Q (.ref p) H):P8 (Mk K a) p js g tc tk tv σ H Q:=by
 refine⟨λi m σ kvs H=>m=xs.length - i∧i≤xs.length∧Pv i σ kvs H,⟨xs.length,by simp,AI _,h0⟩,?_⟩;rintro i m σ kvs H ⟨rfl,hi,pv⟩;obtain⟨q0,q1,q2⟩:=hl i σ kvs H hi pv;refine⟨q1,?_⟩;by_cases lt:i<xs.length
 · refine .inr ⟨⟨xs,xs[i],q0,by simp[lt]⟩,q2,λx H' y=>?_⟩;obtain⟨e,y⟩:=y;subst e;exact hs i x σ kvs H' (λσ2 kvs2 H2=>∃m',m'<xs.length - i∧m'=xs.length - (i+1)∧i+1≤xs.length∧Pv (i+1) σ2 kvs2 H2) (y xs q0) pv λσ' ys' H' p'=>⟨xs.length - (i+1),by omega,rfl,lt,p'⟩
 · have e:i=xs.length:=by omega
   subst e;exact .inl ⟨⟨xs,q0,Af _⟩,hd σ kvs H pv⟩
theorem Yk{y:Str}(h:x.cps.toList=y.cps.toList):x=y:=by obtain⟨a⟩:=x;obtain⟨b⟩:=y;congr;exact Array.toList_inj.mp h
theorem T4{y:Str}(h:¬JP x y)(n:x≠y):JP y x:=by
 unfold JP at*;rcases Std.lt_trichotomy (α:=List Nat) x.cps.toList y.cps.toList with h1 | h1 | h1
 · exact absurd h1 h
 · exact absurd (Yk h1) n
 · exact h1
theorem Zx{y z:Str}(h:JP x y)(h2:JP y z):JP x z:=List.lt_trans h h2
theorem UZ:∀(r:List Str)(p:Str),risingS p r=true→(p::r).Nodup→(p::r).Pairwise JP
 | [],p,_,_=>List.pairwise_singleton _ _
 | x::r,p,h,n=>by
  unfold risingS at h;rw[AM,BA,ltCps_eq,decide_eq_false_iff_not] at h;rw[Bv] at n;have px:JP p x:=T4 (x:=x) (y:=p) h.1 (λe=>n.1 (by rw[←e];exact Ai));have ih:=UZ r x h.2 n.2;rw[Dj];refine⟨λy hy=>?_,ih⟩;rcases An.mp hy with rfl | hy
  · exact px
  · exact Zx px ((List.pairwise_cons.mp ih).1 y hy)
theorem ZZ{ms:List Str}(h:sortedS ms=true)(n:ms.Nodup):ms.Pairwise JP:=by
 cases ms with
 | nil=>exact .nil
 | cons x r=>exact UZ r x h n
structure POk(p:List PP):Prop where
 len:p.length≤100
 ok:∀x∈p,FieldOk x.1
 asc:(p.map (·.1)).Pairwise JP
def WV(p:List PP)(f:Str):Option Int:=(p.find? (λx=>decide (x.1=f))).map (·.2)
def Xi(p:List PP)(x:WP):Bool:=match WV p x.1 with
 | none=>false
 | some n=>Pj x.2.1 x.2.2 n
def Tn(w:List WP)(p:List PP):Bool:=w.all (Xi p)
theorem az:("abcdefghijklmnopqrstuvwxyz":Str).cps.toList=(AJ 26).map (· +97):=by decide+kernel
theorem Sf{r:Int}(h0:0≤r)(h1:r<26):∃c,Jp ("abcdefghijklmnopqrstuvwxyz":Str).cps.toList r=some c∧LW c=true:=by
 rw[az];obtain⟨k,rfl⟩:∃k:Nat,r=k:=⟨r.toNat,by omega⟩;have hk:k<26:=by omega
 refine⟨k+97,?_,?_⟩
 · refine JN ?_;rw[Aj,Gj hk];rfl
 · unfold LW;rw[AM];exact⟨decide_eq_true (by omega),decide_eq_true (by omega)⟩
theorem Vy:∀(cs:List Nat),(Txt.join ("":Str) (cs.map λc=>(⟨#[c]⟩:Str))).cps.toList=cs
 | []=>rfl
 | [c]=>rfl
 | c::d::r=>by
  have ih:=Vy (d::r);have e:∀(ts:List Str),Txt.join ("":Str) ts=Str.join ("":Str) ts:=λts=>StrLaws.glued_eq_join _ _;rw[e] at ih ⊢;show((⟨#[c]⟩:Str)++("":Str)++Str.join ("":Str) ((d::r).map λc=>(⟨#[c]⟩:Str))).cps.toList=_;have:((⟨#[c]⟩:Str)++("":Str)++Str.join ("":Str) ((d::r).map λc=>(⟨#[c]⟩:Str))).cps.toList=c::(Str.join ("":Str) ((d::r).map λc=>(⟨#[c]⟩:Str))).cps.toList:=by show(#[c]++#[]++_:Array Nat).toList=_;simp
  rw[this,ih]
theorem Yt(cs:List Nat)(h:cs.length≤1000):JoinOk ("":Str) (cs.map λc=>(⟨#[c]⟩:Str))=true:=by
 unfold JoinOk;rw[BA];refine StrLaws.joinFits (B:=1) (λy hy=>?_) ?_
 · obtain⟨c,_,rfl⟩:=Az.mp hy;exact Af 1
 · rw[Ab];show cs.length*1+cs.length*0≤_;omega
theorem ziY{cs:List Nat}(h1:1≤cs.length)(h8:cs.length≤8)(ok:∀c∈cs,LW c=true):FieldOk (Txt.join ("":Str) (cs.map λc=>(⟨#[c]⟩:Str))):=by
 have e:=Vy cs;have hl:(Txt.join ("":Str) (cs.map λc=>(⟨#[c]⟩:Str))).length=cs.length:=by show Array.size _=_;rw[←A6,e]
 exact⟨by rw[hl];exact h1,by rw[hl];exact h8,by rw[e];exact ok⟩
theorem SameB.off{g p:Addr}{H':Hp}{o:HO}(s:SameB b g H H')(hp:H p=none):SameB b g H (upd H' p o):=λa x h n1 n2=>by
 have:a≠p:=λe=>by rw[e,hp] at h;cases h
 rw[Iy this];exact s a x h n1 n2
open PySem PySem.Spec PyProof.Rows PySem.W
theorem Qz{α:Type}{f:α→Addr}:∀{ps:List α}{us:List Value},Vals (ps.map λp=>V.ref (f p)) us→us=ps.map λp=>Value.ref (f p)
 | [],_,h=>by cases h;rfl
 | p::ps,_,h=>by
  rw[Ax] at h;cases h with
  | cons r h=> obtain rfl:_=Value.ref (f p):=r;rw[Qz h];rfl
theorem Y6{α:Type}(d:α){ps:List α}{p:Array Nat}(h:KS.Ok ps.length p):(p.toList.map λi=>ps.getD i d).Perm ps:=by
 have e:(AJ ps.length).map (λi=>ps.getD i d)=ps:=by
  apply List.ext_getElem
  · simp
  · intro i h1 h2;simp[h2]
 have:=h.perm.map (λi=>ps.getD i d);rw[e] at this;exact this
theorem Za{α β:Type}(f:α→β)(d:α)(e:β)(ps:List α)(h:i<ps.length):(ps.map f).getD i e=f (ps.getD i d):=by simp[h]
open PySem.AutoSeq1 (wpAny_loadPart')
open PySem.MeetsSeq PySem.MeetsSeq2 PySem.MeetsSeq3 PySem.SeqRoads2
def LtAt(A:BC)(s:Shared)(y x:Value)(b:Bool):Prop:=
 ∀(prog:AY)(w:World)(E:Value→Shared→Prop)(Q:Value→Shared→Prop),Q (.bool b) s→wpAny (model prog w) A (richCompare .Lt y x) Q E s
structure FirstAt(A:BC)(s:Shared)(items items2:Array Value)(b:Bool)(j:Nat):Prop where
 le1:j≤items.size
 le2:j≤items2.size
 same:∀i(h1:i<items.size)(h2:i<items2.size),i<j→Eo A s items[i] items2[i] true
 fin:((items.size≤j∨items2.size≤j)∧b=decide (items.size<items2.size))∨∃(h1:j<items.size)(h2:j<items2.size),Eo A s items[j] items2[j] false∧LtAt A s items[j] items2[j] b
theorem zhw(l b:Addr)(items items2:Array Value)(n n2:Nat)(dd dd2:Option Addr)(sl sl2:Array (Option Value))(c:Bool)(j k:Nat):
 ∀i:Nat,j - i=k→i≤j→∀(A:BC)(R:Result→Shared→Prop)(s:Shared),s.heap.get? l=some {cls:= .type "list",dict:=dd,data:= .seq items n,slots:=sl}→s.heap.get? b=some {cls:= .type "list",dict:=dd2,data:= .seq items2 n2,slots:=sl2}→
  FirstAt A.in1 s items items2 c j→R (.ok (.ret (.bool c))) s→
  wpAny (model P w) A.in1 (Builtin.«list.__eq__.loop» ⟨[.ref l,.ref b,rawInt i,rawInt 0],[]⟩) (λfin s'=>match fin with | .done f=>R (.ok f) s' | .again c'=>c'.quiet=true∧codeAny (model P w) A c' R s') (λe s'=>R (.error e) s') s:=by
 induction k with
 | zero=>
  intro i hk hij A R s hl hb F h;obtain rfl:i=j:=by omega
  obtain⟨hp,g,d,tk,os⟩:=s;rcases F.fin with⟨hs,hc⟩ | ⟨h1,h2,he,hlt⟩
  · wp_walk using A5 hl,A5 hb
    by_cases c1:i<items.size
    · have o1:items[((i:Nat):Int).toNat]?=some items[i]:=by simp[c1]
      have o2:items2[((i:Nat):Int).toNat]?=none:=by simp;omega
      rw[o1,o2]
      wp_walk using A5 hl,A5 hb
      show R (.ok (.ret (.bool (decide (items.size<items2.size))))) _;rw[←hc];exact h
    · have o1:items[((i:Nat):Int).toNat]?=none:=by simp;omega
      rw[o1]
      wp_walk using A5 hl,A5 hb
      show R (.ok (.ret (.bool (decide (items.size<items2.size))))) _;rw[←hc];exact h
  · wp_walk using A5 hl,A5 hb
    have o1:items[((i:Nat):Int).toNat]?=some items[i]:=by simp[h1]
    have o2:items2[((i:Nat):Int).toNat]?=some items2[i]:=by simp[h2]
    rw[o1,o2];refine Aa (he _ _ _ _ ?_)
    wp_walk using A5 hl,A5 hb
    rw[o1,o2];refine Aa (hlt _ _ _ _ ?_)
    wp_walk
    exact h
 | succ k ih=>
  intro i hk hij A R s hl hb F h;obtain⟨hp,g,d,tk,os⟩:=s
  wp_walk using A5 hl,A5 hb
  have f1:=F.le1;have f2:=F.le2;have lt1:i<items.size:=by omega
  have KN:i<items2.size:=by omega
  have o1:items[((i:Nat):Int).toNat]?=some items[i]:=by simp[lt1]
  have o2:items2[((i:Nat):Int).toNat]?=some items2[i]:=by simp[KN]
  have hc:((i:Int)+1)=((i+1:Nat):Int):=by push_cast;rfl
  rw[o1,o2];refine Aa (F.same i lt1 KN (by omega) _ _ _ _ ?_)
  wp_walk
  rw[hc];exact⟨CQ plain_eq_loop _,BY entry_eq_loop (by rw[BE plain_eq_loop _];exact ih (i+1) (by omega) (by omega) A R _ hl hb F h)⟩
theorem Z_(l b:Addr)(items items2:Array Value)(n n2:Nat)(dd dd2:Option Addr)(sl sl2:Array (Option Value)){c:Bool}{j:Nat}(A:BC)(R:Result→Shared→Prop)(s:Shared)
 (hl:s.heap.get? l=some {cls:= .type "list",dict:=dd,data:= .seq items n,slots:=sl}) (hb:s.heap.get? b=some {cls:= .type "list",dict:=dd2,data:= .seq items2 n2,slots:=sl2})
 (F:FirstAt A.in1 s items items2 c j) (h:R (.ok (.ret (.bool c))) s):
 wpAny (model P w) A.in1 (Builtin.«list.__lt__» ⟨[.ref l,.ref b],[]⟩) (λfin s'=>match fin with | .done f=>R (.ok f) s' | .again c'=>c'.quiet=true∧codeAny (model P w) A c' R s') (λe s'=>R (.error e) s') s:=by
 obtain⟨hp,g,d,tk,os⟩:=s;have f3:=Ed
 wp_walk using A5 hl,A5 hb
 exact⟨CQ plain_eq_loop _,BY entry_eq_loop (by rw[BE plain_eq_loop _];exact zhw l b items items2 n n2 dd dd2 sl sl2 c j _ 0 rfl (AI _) A R _ hl hb F h)⟩
theorem VZ{l:Addr}{items items2:Array Value}{c:Bool}{j:Nat}{E:Value→Shared→Prop}{Q:Value→Shared→Prop}(hl:s.heap.IsList l items)(hb:s.heap.IsList b items2)(FA:FirstAt A.in1 s items items2 c j)(h:Q (.bool c) s):
 wpAny (model P w) A (call (.builtin "list.__lt__") [.ref l,.ref b]) Q E s:=by
 obtain⟨⟨c1,dd,data,sl⟩,ho,hc,n,hd⟩:=id hl;obtain⟨⟨c2,dd2,data2,sl2⟩,ho2,hc2,n2,hd2⟩:=id hb;simp only at hc hd hc2 hd2;subst hc hd hc2 hd2;refine E_ (Dy F.slot_list_lt.plain F.entry_list_lt (F.slot_list_lt.check _ _ _ _ _ _ _ _ ⟨_,ho,rfl⟩ (F.args_list_lt_2 _ _) ?_));exact Z_ l b items items2 n n2 dd dd2 sl sl2 A (wants Q E) s ho ho2 FA h
theorem LtAt.lists{l:Addr}{items items2:Array Value}{c:Bool}{j:Nat}(hl:s.heap.IsList l items)(hb:s.heap.IsList b items2)(hu:A.units<cLine)(FA:FirstAt A.in1 s items items2 c j):LtAt A s (.ref l) (.ref b) c:=by intro P w E Q h;obtain⟨o,ho,hc,_⟩:=id hl;obtain⟨o2,ho2,hc2,_⟩:=id hb;exact Cn (op:= .Lt) ⟨_,ho,hc⟩ ⟨_,ho2,hc2⟩ F.slot_list_lt (VZ hl hb FA ⟨(λx=>nomatch x),h⟩) hu
theorem LtAt.tuples{l:Addr}{items items2:Array Value}{c:Bool}{j:Nat}(hl:s.heap.IsTuple l items)(hb:s.heap.IsTuple b items2)(hu:A.units<cLine)(FA:FirstAt A.in1 s items items2 c j):LtAt A s (.ref l) (.ref b) c:=by
 intro P w E Q h;obtain⟨⟨c1,dd,data,sl⟩,ho,hc,n,hd⟩:=id hl;obtain⟨⟨c2,dd2,data2,sl2⟩,ho2,hc2,n2,hd2⟩:=id hb;simp only at hc hd hc2 hd2;subst hc hd hc2 hd2;refine Cn (op:= .Lt) ⟨_,ho,rfl⟩ ⟨_,ho2,rfl⟩ F.slot_tuple_lt (Bb F.slot_tuple_lt ⟨_,ho,rfl⟩ F.entry_tuple_lt ?_ (F.args_tuple_lt_2 _ _)) hu;obtain⟨hp,g,d,tk,os⟩:=s;have f2:=AutoSeq1.sub_tuple_tuple;have hZ:(items.toList.zip items2.toList).length=min items.size items2.size:=by simp
 have f1:=FA.le1;have f2':=FA.le2
 wp_walk using A5 ho,A5 ho2,BR _ (λIo b s'=>s'=⟨hp,g,d,tk,os⟩∧((b.1=none∧∃i,i≤j∧Io=(items.toList.zip items2.toList).drop i)∨(b.1=some (PySem.Fin.done (.ret (.bool c)))∧Io=[]))) _
 case turn=>
  rintro⟨y,x⟩ Io b' s' ⟨rfl,⟨hb',i,hij,hz⟩ | ⟨_,hz⟩⟩
  · have lt0:i<(items.toList.zip items2.toList).length:=by
     rcases DK i (items.toList.zip items2.toList).length with h' | h'
     · exact h'
     · rw[FH h'] at hz;cases hz
    have h1:i<items.size:=by omega
    have h2:i<items2.size:=by omega
    rw[C5 lt0] at hz;injection hz with hyx hrest
    have hy:y=items[i]:=by have:=congrArg Prod.fst hyx;simpa using this
    have hx:x=items2[i]:=by have:=congrArg Prod.snd hyx;simpa using this
    subst hy hx;rcases DK i j with h3 | h3
    · refine Aa (FA.same i h1 h2 h3 _ _ _ _ ?_)
      wp_walk
      exact⟨rfl,.inl ⟨rfl,i+1,h3,hrest⟩⟩
    · obtain rfl:i=j:=by omega
      rcases FA.fin with⟨hs,hc⟩ | ⟨_,_,he,hlt⟩
      · omega
      · refine Aa (he _ _ _ _ ?_);simp only[Bool.not_false,if_true];refine Aa (Cg ?_);refine Aa (hlt _ _ _ _ ?_)
        wp_walk
        exact⟨_,rfl,(λx=>nomatch x),h⟩
  · cases hz
 case fin=>
  rintro⟨b1,b2⟩ s' ⟨rfl,⟨hb',i,hij,hz⟩ | ⟨hb',_⟩⟩
  · simp only at hb';subst hb'
    wp_walk
    refine⟨_,rfl,?_⟩;have hlen:(items.toList.zip items2.toList).length≤i:=by
     rcases DK i (items.toList.zip items2.toList).length with h' | h'
     · rw[C5 h'] at hz;cases hz
     · exact h'
    rcases FA.fin with⟨hs,hc⟩ | ⟨h1,h2,_,_⟩
    · have e:Builtin.Tuple.tupleCompareSizes .Lt items.size items2.size=Value.bool c:=by rw[hc];rfl
      rw[e];exact⟨(λx=>nomatch x),h⟩
    · omega
  · simp only at hb';subst hb'
    wp_walk
    exact⟨_,rfl,(λx=>nomatch x),h⟩
 case h=>exact⟨rfl,.inl ⟨rfl,0,AI _,rfl⟩⟩
theorem LtAt.ints(a b:Int)(t u:Tok):LtAt A s (.int a t) (.int b u) (decide (a<b)):=λP w E Q h=>by exact(wpAny_lt_int (prog:=P) (w:=w) (A:=A) (E:=E) (t:=t) (u:=u) h)
theorem LtAt.bools(a b:Bool):LtAt A s (.bool a) (.bool b) (!a && b):=λP w E Q h=>by refine lt_bool (p:=a) (q:=b) (prog:=P) (w:=w) (A:=A) (E:=E) ?_;cases a<;>cases b<;>exact h
theorem LtAt.strs(a b:Str)(t u:Tok):LtAt A s (.str a t) (.str b u) (decide (a.cps.toList<b.cps.toList)):=λP w E Q h=>by exact lt_str (x:=a) (y:=b) (t:=t) (u:=u) (prog:=P) (w:=w) (A:=A) (E:=E) h
mutual
def IM:PD→PD→Bool
 | .bl a,.bl b=>!a && b
 | .int a,.int b=>decide (a<b)
 | .str a,.str b=>decide (a.cps.toList<b.cps.toList)
 | .lst xs,.lst ys=>JR xs ys
 | .tup xs,.tup ys=>JR xs ys
 | _,_=>false
def JR:List PD→List PD→Bool
 | [],[]=>false
 | [],_::_=>true
 | _::_,[]=>false
 | x::xs,y::ys=>if Ir x y=true then JR xs ys else IM x y
end
mutual
def IA:PD→PD→Bool
 | .bl _,.bl _=>true
 | .int _,.int _=>true
 | .str _,.str _=>true
 | .lst xs,.lst ys=>Ko xs ys
 | .tup xs,.tup ys=>Ko xs ys
 | _,_=>false
def Ko:List PD→List PD→Bool
 | x::xs,y::ys=>if Ir x y=true then Ko xs ys else IA x y
 | _,_=>true
end
mutual
theorem Zk(I:Inv X pins σ H s):∀(A:BC)(d e:PD)(v w:V)(u y:Value),Rep X.K H d v→Rep X.K H e w→RelV v u→RelV w y→A.units+Jk d<cLine→IA d e=true→LtAt A s u y (IM d e)
 | A,.bl c,.bl b,v,w,u,y,h,h',r,r',z,ok=>by rw[Rep] at h h';subst h h';cases r;cases r';rw[IM];exact LtAt.bools c b
 | A,.int c,.int b,v,w,u,y,h,h',r,r',z,ok=>by rw[Rep] at h h';subst h h';obtain⟨t,rfl⟩:=r;obtain⟨t',rfl⟩:=r';rw[IM];exact LtAt.ints c b t t'
 | A,.str c,.str b,v,w,u,y,h,h',r,r',z,ok=>by rw[Rep] at h h';subst h h';obtain⟨t,rfl⟩:=r;obtain⟨t',rfl⟩:=r';rw[IM];exact LtAt.strs c b t t'
 | A,.lst ds,.lst es,v,w,u,y,h,h',r,r',z,ok=>by rw[Rep] at h h';obtain⟨a,xs,rfl,q,qs⟩:=h;obtain⟨b,ys,rfl,q',qs'⟩:=h';cases r;cases r';obtain⟨its,rv,p,_⟩:=I.list q;obtain⟨its',rv',p',_⟩:=I.list q';rw[Jk] at z;rw[IM];rw[IA] at ok;obtain⟨j,F⟩:=ND I A.in1 ds es xs ys its its' qs qs' rv rv' (by rw[Ce];omega) ok;exact LtAt.lists p.isList p'.isList (by omega) F
 | A,.tup ds,.tup es,v,w,u,y,h,h',r,r',z,ok=>by rw[Rep] at h h';obtain⟨a,xs,rfl,q,qs⟩:=h;obtain⟨b,ys,rfl,q',qs'⟩:=h';cases r;cases r';obtain⟨its,rv,p,_⟩:=I.tuple q;obtain⟨its',rv',p',_⟩:=I.tuple q';rw[Jk] at z;rw[IM];rw[IA] at ok;obtain⟨j,F⟩:=ND I A.in1 ds es xs ys its its' qs qs' rv rv' (by rw[Ce];omega) ok;exact LtAt.tuples p p' (by omega) F
 | A,.non,e,v,w,u,y,h,h',r,r',z,ok=>by cases e<;>simp[IA] at ok
 | A,.bl _,.non,v,w,u,y,h,h',r,r',z,ok=>by simp[IA] at ok
 | A,.bl _,.int _,v,w,u,y,h,h',r,r',z,ok=>by simp[IA] at ok
 | A,.bl _,.str _,v,w,u,y,h,h',r,r',z,ok=>by simp[IA] at ok
 | A,.bl _,.lst _,v,w,u,y,h,h',r,r',z,ok=>by simp[IA] at ok
 | A,.bl _,.tup _,v,w,u,y,h,h',r,r',z,ok=>by simp[IA] at ok
 | A,.int _,.non,v,w,u,y,h,h',r,r',z,ok=>by simp[IA] at ok
 | A,.int _,.bl _,v,w,u,y,h,h',r,r',z,ok=>by simp[IA] at ok
 | A,.int _,.str _,v,w,u,y,h,h',r,r',z,ok=>by simp[IA] at ok
 | A,.int _,.lst _,v,w,u,y,h,h',r,r',z,ok=>by simp[IA] at ok
 | A,.int _,.tup _,v,w,u,y,h,h',r,r',z,ok=>by simp[IA] at ok
 | A,.str _,.non,v,w,u,y,h,h',r,r',z,ok=>by simp[IA] at ok
 | A,.str _,.bl _,v,w,u,y,h,h',r,r',z,ok=>by simp[IA] at ok
 | A,.str _,.int _,v,w,u,y,h,h',r,r',z,ok=>by simp[IA] at ok
 | A,.str _,.lst _,v,w,u,y,h,h',r,r',z,ok=>by simp[IA] at ok
 | A,.str _,.tup _,v,w,u,y,h,h',r,r',z,ok=>by simp[IA] at ok
 | A,.lst _,.non,v,w,u,y,h,h',r,r',z,ok=>by simp[IA] at ok
 | A,.lst _,.bl _,v,w,u,y,h,h',r,r',z,ok=>by simp[IA] at ok
 | A,.lst _,.int _,v,w,u,y,h,h',r,r',z,ok=>by simp[IA] at ok
 | A,.lst _,.str _,v,w,u,y,h,h',r,r',z,ok=>by simp[IA] at ok
 | A,.lst _,.tup _,v,w,u,y,h,h',r,r',z,ok=>by simp[IA] at ok
 | A,.tup _,.non,v,w,u,y,h,h',r,r',z,ok=>by simp[IA] at ok
 | A,.tup _,.bl _,v,w,u,y,h,h',r,r',z,ok=>by simp[IA] at ok
 | A,.tup _,.int _,v,w,u,y,h,h',r,r',z,ok=>by simp[IA] at ok
 | A,.tup _,.str _,v,w,u,y,h,h',r,r',z,ok=>by simp[IA] at ok
 | A,.tup _,.lst _,v,w,u,y,h,h',r,r',z,ok=>by simp[IA] at ok
theorem ND(I:Inv X pins σ H s):∀(A:BC)(ds es:List PD)(vs ws:List V)(us ys:List Value),Reps X.K H ds vs→Reps X.K H es ws→Vals vs us→Vals ws ys→A.units+JC ds<cLine→Ko ds es=true→
 ∃j,FirstAt A s us.toArray ys.toArray (JR ds es) j
 | A,[],es,vs,ws,us,ys,h,h',r,r',z,ok=>by
  rw[Reps] at h;subst h;cases r;have l1:=h'.length;have l2:=r'.length;refine⟨0,AI _,AI _,λi h1 h2 h3=>absurd h3 (CO _),.inl ⟨.inl (by simp),?_⟩⟩;cases es with
  | nil=> rw[JR];rw[Reps] at h';subst h';cases r';rfl
  | cons e es=>rw[JR];simp at l1 l2;simp;omega
 | A,d::ds,[],vs,ws,us,ys,h,h',r,r',z,ok=>by rw[Reps] at h';subst h';cases r';refine⟨0,AI _,AI _,λi h1 h2 h3=>absurd h3 (CO _),.inl ⟨.inr (by simp),?_⟩⟩;rw[JR];simp
 | A,d::ds,e::es,vs,ws,us,ys,h,h',r,r',z,ok=>by
  rw[Reps] at h h';obtain⟨x,vr,rfl,g1,g2⟩:=h;obtain⟨x',vr',rfl,g1',g2'⟩:=h';cases r with
  | @cons _ u1 _ ur ra rb=>
   cases r' with
   | @cons _ y1 _ yr ra' rb'=>
    rw[JC] at z;rw[Ko] at ok;have he:=OP I A d e x x' _ _ g1 g1' ra ra' (by omega);rw[JR];by_cases hq:Ir d e=true
    · rw[if_pos hq] at ok ⊢;rw[hq] at he;obtain⟨j,F⟩:=ND I A ds es vr vr' _ _ g2 g2' rb rb' (by omega) ok;have f1:=F.le1;have f2:=F.le2;have f3:=F.same;have f4:=F.fin;simp only[As] at f1 f2 f3 f4;refine⟨j+1,by simpa using f1,by simpa using f2,λi h1 h2 h3=>?_,?_⟩
      · cases i with
        | zero=>exact he
        | succ i=>simpa using f3 i (by simpa using h1) (by simpa using h2) (by omega)
      · rcases f4 with⟨hs,hc⟩ | ⟨h1,h2,k1,k2⟩
        · refine .inl ⟨by simpa using hs,?_⟩;rw[hc];simp
        · exact .inr ⟨by simpa using h1,by simpa using h2,by simpa using k1,by simpa using k2⟩
    · rw[if_neg hq] at ok ⊢;rw[Cv] at hq;rw[hq] at he;have zz:A.units+Jk d<cLine:=by omega
      exact⟨0,AI _,AI _,λi h1 h2 h3=>absurd h3 (CO _),.inr ⟨by simp,by simp,he,Zk I A d e x x' _ _ g1 g1' ra ra' zz ok⟩⟩
end
open PySem PySem.Spec PyProof.Rows PySem.W
section
variable{o:HO}
theorem Inv.track7(I:Inv X pins σ H s)(hn:Ix X pins H a)(h0:X.s₀.heap.get? a=none)(new:ObjOk X.prog X.w (upd H a o) s.heap a o):Inv X pins σ (upd H a o) s:=by
 obtain⟨hn,hl,_,_,hc,hp⟩:=hn;refine⟨I.ok,I.os,I.bare,⟨I.base.keep,I.base.slot,λb ob q n hx=>?_,I.base.there,λb xs q=>?_,λb ob u q=>?_,λb ps q=>?_⟩,I.loc,I.cell,?_,λx c e=>?_,λp hp'=>?_,λb u q=>?_,I.len⟩
 · have:b≠a:=λz=>by rw[z,h0] at q;cases q
   rw[Iy this];exact I.base.free b ob q n hx
 · have:=I.base.tups b xs q;rw[Iy (J2 this hn)];exact this
 · have:=I.base.frzs b ob u q;rw[Iy (J2 this hn)];exact this
 · obtain⟨m,this⟩:=I.base.tbls b ps q;exact⟨m,by rw[Iy (J2 this hn)];exact this⟩
 · rw[Iy hl.symm];exact I.free
 · rw[Iy (hc x c e)];exact I.freeC x c e
 · obtain⟨e,n,r⟩:=I.pin p hp';exact⟨e,by rw[Iy (hp p hp')];exact n,r⟩
 · by_cases hb:b=a
   · subst hb;rw[Ij] at q;cases q;exact new
   · rw[Iy hb] at q;exact(I.hok b u q).stay (λc v _ r=>r) (λc r=>by rw[Iy (J2 r hn)];exact r) λc xs r=>by rw[Iy (J2 r hn)];exact r
mutual
theorem Rep.same{K:Ad}{H':Hp}(h:Same H H'):∀(d:PD)(v:V),Rep K H d v→Rep K H' d v
 | .non,v,q=>by rw[Rep] at q ⊢;exact q
 | .bl _,v,q=>by rw[Rep] at q ⊢;exact q
 | .int _,v,q=>by rw[Rep] at q ⊢;exact q
 | .str _,v,q=>by rw[Rep] at q ⊢;exact q
 | .lst ds,v,q=>by rw[Rep] at q ⊢;obtain⟨a,xs,rfl,q1,q2⟩:=q;exact⟨a,xs,rfl,h.seq q1,Reps.same h ds xs q2⟩
 | .tup ds,v,q=>by rw[Rep] at q ⊢;obtain⟨a,xs,rfl,q1,q2⟩:=q;exact⟨a,xs,rfl,h.seqT q1,Reps.same h ds xs q2⟩
theorem Reps.same{K:Ad}{H':Hp}(h:Same H H'):∀(ds:List PD)(vs:List V),Reps K H ds vs→Reps K H' ds vs
 | [],vs,q=>by rw[Reps] at q ⊢;exact q
 | d::ds,vs,q=>by rw[Reps] at q ⊢;obtain⟨x,r,e,q1,q2⟩:=q;exact⟨x,r,e,Rep.same h d x q1,Reps.same h ds r q2⟩
end
theorem ziO{prog:AY}{w:World}{E:Value→Shared→Prop}{l:Addr}{items items2:Array Value}{c:Bool}{j:Nat}{Q:Bool→Shared→Prop}(hl:s.heap.IsList l items)(hb:s.heap.IsList b items2)(hu:A.units<cLine)(FA:FirstAt A.in1 s items items2 c j)(h:Q c s):
 wpAny (model prog w) A (keyLt' oneType' (.ref l) (.ref b)) Q E s:=by
 obtain⟨o,ho,hc,_⟩:=id hl;rw[keyLt'_oneType,oneLt'_eq];simp only[if_true];refine Aa (wpAny_cRoomFor hu ?_);refine Aa (wpAny_callSpecialIfBound?_slot ⟨o,ho,hc⟩ F.slot_list_lt (VZ hl hb FA ?_));exact Bp h
theorem ziW{M:Model}{l:Addr}{items:Array Value}(hl:h.IsList l items):Looks M h (typeOf (.ref l)) (.type "list"):=by obtain⟨o,ho,hc,_⟩:=hl;rw[←hc];exact(Looks.ld ho).andThen .now
end
open PySem PySem.Spec PyProof.Rows PySem.W
abbrev Cx.in2(X:Cx):Cx:={X with A:=X.A.in1.in1,xe:=λ_ _=>False}
theorem Cx.Ok.in2(ok:X.Ok):X.in2.Ok:=⟨ok.mod,ok.kind,ok.glob,ok.blt,ok.above,ok.inj,ok.has,ok.cab,ok.hd,ok.frames,ok.stk,ok.exf,ok.bs,ok.bsz,ok.noex,ok.exfs,ok.funs,ok.frf⟩
theorem Inv.in2(I:Inv X pins σ H s):Inv X.in2 pins σ H s:=⟨I.ok.in2,I.os,I.bare,I.base,I.loc,I.cell,I.free,I.freeC,I.pin,I.hok,I.len⟩
theorem Inv.out2(ok:X.Ok)(I:Inv X.in2 pins σ H s):Inv X pins σ H s:=⟨ok,I.os,I.bare,I.base,I.loc,I.cell,I.free,I.freeC,I.pin,I.hok,I.len⟩
def Mg(ps:List (Addr×PD))(d:PD):Value→Bool
 | .ref a=>(ps.find? λp=>decide (p.1=a)).any λp=>Ir p.2 d
 | _=>false
section
variable{o:Obj}{kvs:List (IT×V)}
end
section
variable{tg:Expr}
end
section
variable{p:Addr}{g:TG}{tc:TT}{te:TE}{Q:VK}{o:Obj}{kvs:List (IT×V)}{fs:List Str}
end
end L2
set_option maxHeartbeats 2000000
namespace L2
open PySem PySem.Spec PyProof.Rows PySem.W
section
variable{κ:Type}[DecidableEq κ]{knd:PySem.KeyKind prog w κ}
end
theorem U4{tg:Expr}(K:Ad)(h:X.K=K){l:Expr}{tl:TE}(hl:PE X l tl)(hc:X.calm=true:=by rfl):PI X tg l (Si K tl):=by subst h;exact Jx hl
theorem YT(o:Option Int):Jk (dE o)=0:=by cases o<;>rfl
abbrev LO:=Option Int×Option Int
def RF:Option LO→Option LO→Option LO
 | none,o=>o
 | some s,none=>some s
 | some s,some t=>some (Wi s.1 t.1,Wj s.2 t.2)
structure IsMet(w1 w2 m:List WP):Prop where
 len:m.length≤w1.length+w2.length
 asc:(m.map (·.1)).Pairwise JP
 sp:∀f,Jt m f=RF (Jt w1 f) (Jt w2 f)
def Wu(w1:List WP)(p:WP):Bool:=match Jt w1 p.1 with
 | none=>false
 | some s=>Oq (Wi s.1 p.2.1) (Wj s.2 p.2.2)
def Wv(w1 w2:List WP):Bool:=w2.any (Wu w1)
def KQ(p:WP):PD:= .tup [.str p.1,dE p.2.1,dE p.2.2]
def dW(w:List WP):PD:= .tup (w.map KQ)
theorem SV{K:Ad}:∀ps:List (Addr×WP),(∀p∈ps,H p.1=some (.tup [.str p.2.1,eV p.2.2.1,eV p.2.2.2]))→Reps K H ((ps.map (·.2)).map KQ) (ps.map λp=>V.ref p.1)
 | [],_=>by show Reps K H [] [];rw[Reps]
 | p::ps,h=>by show Reps K H (KQ p.2::_) (V.ref p.1::_);rw[Reps];refine⟨_,_,rfl,?_,SV ps λq hq=>h q (Ag _ hq)⟩;unfold KQ;rw[Rep];refine⟨p.1,_,rfl,SqT.of (h p Ai),?_⟩;rw[Reps];refine⟨_,_,rfl,by rw[Rep],?_⟩;rw[Reps];refine⟨_,_,rfl,SU _,?_⟩;rw[Reps];exact⟨_,_,rfl,SU _,by rw[Reps]⟩
theorem Kz{K:Ad}{w:List WP}(h:WishAt H a w):Rep K H (dW w) (.ref a):=by obtain⟨ps,rfl,h1,h2⟩:=h;unfold dW;rw[Rep];exact⟨a,_,rfl,SqT.of h1,SV ps h2⟩
theorem YS(p:WP):Jk (KQ p)=1:=by unfold KQ;simp[Jk,JC,YT]
theorem Uu:∀w:List WP,JC (w.map KQ)≤1
 | []=>by show JC []≤1;rw[JC];omega
 | p::w=>by rw[Ax,JC,YS];have:=Uu w;omega
theorem M0(w:List WP):Jk (dW w)≤2:=by unfold dW;rw[Jk];have:=Uu w;omega
theorem Uf(a b:Option Int):Ir (dE a) (dE b)=decide (a=b):=by cases a<;>cases b<;>simp only[dE,Ir]<;>rw[Bi]<;>simp
theorem X_(p q:WP):Ir (KQ p) (KQ q)=decide (p=q):=by obtain⟨f,a,b⟩:=p;obtain⟨g,c,d⟩:=q;unfold KQ;rw[Ir,Jr,Jr,Jr,Jr,Uf,Uf,Ir,Bi];simp
theorem Ug:∀w w':List WP,Jr (w.map KQ) (w'.map KQ)=decide (w=w')
 | [],[]=>by rw[Cb,Jr];rfl
 | [],y::r=>by rw[Cb,Ax,Jr];rfl;all_goals simp
 | x::r,[]=>by rw[Cb,Ax,Jr];rfl;all_goals simp
 | x::r,y::r'=>by rw[Ax,Ax,Jr,X_,Ug r r',Bi];simp
theorem Ms(w w':List WP):Ir (dW w) (dW w')=decide (w=w'):=by unfold dW;rw[Ir,Ug]
structure STo{α:Type}(l:α→α→Bool):Prop where
 ir:∀a,l a a=false
 tr:∀a b c,l a b=true→l b c=true→l a c=true
 tot:∀a b,a≠b→l a b=true∨l b a=true
theorem STo.as{α:Type}{l:α→α→Bool}(h:STo l){a b:α}(q:l a b=true):l b a=false:=by
 cases e:l b a with
 | false=>rfl
 | true=>have:=h.tr a b a q e;rw[h.ir] at this;cases this
theorem STo.ntr{α:Type}[DecidableEq α]{l:α→α→Bool}(h:STo l){a b c:α}(h1:l b a=false)(h2:l c b=false):l c a=false:=by
 cases e:l c a with
 | false=>rfl
 | true=>
  by_cases hab:a=b
  · subst hab;rw[e] at h2;cases h2
  · rcases h.tot a b hab with z | z
    · have:=h.tr c a b e z;rw[h2] at this;cases this
    · rw[h1] at z;cases z
theorem STo.ord{α:Type}[DecidableEq α]{l:α→α→Bool}(h:STo l)(k:Nat→α):KS.Ord λi j=>l (k i) (k j):=
 ⟨λa b q=>h.as q,λa b c h1 h2=>h.ntr h1 h2⟩
def M6(a b:Int):Bool:=decide (a<b)
theorem sto_int:STo M6:=⟨λa=>by simp[M6],λa b c h1 h2=>by simp[M6] at*;omega,λa b h=>by simp[M6];omega⟩
def RG(a b:Str):Bool:=decide (a.cps.toList<b.cps.toList)
theorem sto_str:STo RG:=⟨λa=>decide_eq_false (Ds _),λa b c h1 h2=>decide_eq_true (List.lt_trans (of_decide_eq_true h1) (of_decide_eq_true h2)),λa b h=>by
 by_cases q:JP a b
 · exact .inl (decide_eq_true q)
 · exact .inr (decide_eq_true (T4 q h))⟩
def JV{α β:Type}[DecidableEq α](l:α→α→Bool)(m:β→β→Bool)(x y:α×β):Bool:=if x.1=y.1 then m x.2 y.2 else l x.1 y.1
theorem STo.pair{α β:Type}[DecidableEq α]{l:α→α→Bool}{m:β→β→Bool}(h:STo l)(k:STo m):STo (JV l m) where
 ir:=λa=>by simp[JV,k.ir]
 tr:=λ⟨a,a'⟩ ⟨b,b'⟩ ⟨c,c'⟩ h1 h2=>by
  simp only[JV] at*;by_cases e1:a=b
  · subst e1;rw[if_pos rfl] at h1;by_cases e2:a=c
    · subst e2;rw[if_pos rfl] at h2 ⊢;exact k.tr _ _ _ h1 h2
    · rw[if_neg e2] at h2 ⊢;exact h2
  · rw[if_neg e1] at h1;by_cases e2:b=c
    · subst e2;rw[if_neg e1];exact h1
    · rw[if_neg e2] at h2;have:=h.tr _ _ _ h1 h2;by_cases e3:a=c
      · subst e3;rw[h.ir] at this;cases this
      · rw[if_neg e3];exact this
 tot:=λ⟨a,a'⟩ ⟨b,b'⟩ hn=>by
  simp only[JV];by_cases e:a=b
  · subst e;rw[if_pos rfl,if_pos rfl];exact k.tot _ _ λz=>hn (by rw[z])
  · rw[if_neg e,if_neg (CL e)];exact h.tot _ _ e
def Jy{α:Type}[DecidableEq α](l:α→α→Bool):List α→List α→Bool
 | [],[]=>false
 | [],_::_=>true
 | _::_,[]=>false
 | x::xs,y::ys=>if x=y then Jy l xs ys else l x y
theorem STo.list{α:Type}[DecidableEq α]{l:α→α→Bool}(h:STo l):STo (Jy l) where
 ir:=λa=>by
  induction a with
  | nil=>rfl
  | cons x xs ih=>simp[Jy,ih]
 tr:=λa=>by
  induction a with
  | nil=>
   intro b c h1 h2;cases b with
   | nil=>simp[Jy] at h1
   | cons y ys=>
    cases c with
    | nil=>simp[Jy] at h2
    | cons z zs=>rfl
  | cons x xs ih=>
   intro b c h1 h2;cases b with
   | nil=>simp[Jy] at h1
   | cons y ys=>
    cases c with
    | nil=>simp[Jy] at h2
    | cons z zs=>
     simp only[Jy] at*;by_cases e1:x=y
     · subst e1;rw[if_pos rfl] at h1;by_cases e2:x=z
       · subst e2;rw[if_pos rfl] at h2 ⊢;exact ih _ _ h1 h2
       · rw[if_neg e2] at h2 ⊢;exact h2
     · rw[if_neg e1] at h1;by_cases e2:y=z
       · subst e2;rw[if_neg e1];exact h1
       · rw[if_neg e2] at h2;have:=h.tr _ _ _ h1 h2;by_cases e3:x=z
         · subst e3;rw[h.ir] at this;cases this
         · rw[if_neg e3];exact this
 tot:=λa=>by
  induction a with
  | nil=>
   intro b hn;cases b with
   | nil=>exact absurd rfl hn
   | cons y ys=>exact .inl rfl
  | cons x xs ih=>
   intro b hn;cases b with
   | nil=>exact .inr rfl
   | cons y ys=>
    simp only[Jy];by_cases e:x=y
    · subst e;rw[if_pos rfl,if_pos rfl];exact ih _ λz=>hn (by rw[z])
    · rw[if_neg e,if_neg (CL e)];exact h.tot _ _ e
def RH:Option Int→Int×Int
 | none=>(0,0)
 | some l=>(1,l)
def RP:Option Int→Int×Int
 | none=>(1,0)
 | some h=>(0,h)
def d2(p:Int×Int):PD:= .tup [.int p.1,.int p.2]
abbrev RX:=Str×(Int×Int)×(Int×Int)
def ky(p:WP):RX:=(p.1,RH p.2.1,RP p.2.2)
def KN:Int×Int→Int×Int→Bool:=JV M6 M6
def Li:RX→RX→Bool:=JV RG (JV KN KN)
theorem sto_ky:STo (Jy Li):=(sto_str.pair ((sto_int.pair sto_int).pair (sto_int.pair sto_int))).list
end L2
set_option maxHeartbeats 1000000
namespace L2
open PySem PySem.Spec PyProof.Rows PySem.W
def WZ:R2:=λx y H Q=>∃a b xs ys,x= .ref a∧y= .ref b∧H a=some (.tup xs)∧H b=some (.tup ys)∧xs.length+ys.length≤A1∧∀p H',Same H H'→H' p=some (.tup (xs++ys))→Q (.ref p) H'
theorem Yz:IY X (binaryOp .Add) WZ:=by
 intro pins s σ H x y v u Q I rx ry h;obtain⟨a,b,xs,ys,rfl,rfl,ha,hb,hz,q⟩:=h;cases rx;cases ry;obtain⟨its,r1,p1,_⟩:=I.tuple (SqT.of ha);obtain⟨its2,r2,p2,_⟩:=I.tuple (SqT.of hb);by_cases hx:xs=[]
 · subst hx;cases r1;obtain⟨⟨cls,dd,data,sl⟩,ho,hc,n,hd⟩:=id p1;obtain⟨⟨cls2,dd2,data2,sl2⟩,ho2,hc2,n2,hd2⟩:=id p2;simp only at hc hd hc2 hd2;subst hc hd hc2 hd2;exact concat_meets ⟨_,ho,rfl⟩ ⟨_,ho2,rfl⟩ noFill_tuple_add seq_tuple_add Eb DR (DH _ _)
    (tuple_addW0 a b _ _ n n2 dd dd2 sl sl2 rfl) ⟨ho,ho2,⟨.ref b,H,I,rfl,q b H (Same.refl _) hb⟩⟩
 · refine HT.cat_tup p1 p2 (λz=>hx (r1.nil_iff.mp z)) (λz=>⟨.ref a,H,I,rfl,q a H (Same.refl _) (by rw[r2.nil_iff.mp z,Cm];exact ha)⟩) (λz=>?_) (by rw[←r1.length,←r2.length];exact hz);have hn:=I.hok.fresh (Af _);refine⟨.ref s.heap.objs.size,_,I.laid (t':=s.toks) (o:= .tup (xs++ys)) (λb ob q=>Ae _ q) (Af _) ?_,rfl,q _ _ (Iq hn _) Ij⟩;exact⟨by rw[Aw];exact hz,_,r1.append r2,IsTupP.new _ _⟩
def Rz:V→Option Int→Option Int→Hp→VK→Prop:=λx lo hi H Q=>∃a xs,x= .ref a∧H a=some (.tup xs)∧∀p H',Same H H'→H' p=some (.tup (Jd xs lo hi))→Q (.ref p) H'
theorem zi3{lo hi:Option Int}(h:HT.sIx xs.length 0 lo=0∧HT.sIx xs.length xs.length hi=xs.length):Jd xs lo hi=xs:=by unfold Jd;rw[h.1,h.2,FR,Nat.sub_zero];exact AX (Af _)
theorem Ul:Nh X Rz:=by intro pins s σ H x v vl vu lo hi sl Q I rx hs pl pu h;obtain⟨a,xs,rfl,ha,q⟩:=h;exact Um pins s σ H (.ref a) v vl vu lo hi sl Q I rx hs pl pu ⟨a,xs,rfl,SqT.of ha,λhw=>q a H (Same.refl _) (by rw[zi3 hw];exact ha),λ_ p hp=>q p _ (Iq hp _) Ij⟩
theorem Q2{k:Int}(e:k=(n:Int)):Jd xs none (some k)=xs.take n:=by
 subst e;unfold Jd;rw[HT.sIx_none,HT.sIx_nat,FR,Nat.sub_zero];by_cases h:n≤xs.length
 · rw[Nat.min_eq_left h]
 · rw[Nat.min_eq_right (by omega),AX (Af _),AX (by omega)]
theorem Vq{k:Int}(e:k=(n:Int)):Jd xs (some k) none=xs.drop n:=by
 subst e;unfold Jd;rw[HT.sIx_none,HT.sIx_nat];by_cases h:n≤xs.length
 · rw[Nat.min_eq_left h];exact AX (by simp)
 · rw[Nat.min_eq_right (by omega),Nat.sub_self,List.take_zero,List.drop_eq_nil_of_le (by omega)]
open PySem PySem.Spec PyProof.Rows PySem.W
theorem Zv{xs ys:Array Value}{b:Bool}{j:Nat}{Q:Bool→Shared→Prop}(F:FirstAt A s xs ys b j)(h:Q b s):∀k i,j - i=k→i≤j→KatLex prog w A false (decide (xs.size<ys.size)) Q ((xs.toList.zip ys.toList).drop i) i s:=by
 intro k
 induction k with
 | zero=>
  intro i hk hij;obtain rfl:i=j:=by omega
  rcases F.fin with⟨hs,hc⟩ | ⟨h1,h2,he,hlt⟩
  · rw[FH (by simp;omega)];exact kat_nil (hc ▸ h)
  · rw[C5 (by simp;omega)];simp only[List.getElem_zip,Dz];refine kat_cons (he _ _ _ _ (kat_no ?_));rw[Bool.false_and];exact kat_one _ _ (hlt _ _ _ _ h)
 | succ k ih=> intro i hk hij;have f1:=F.le1;have f2:=F.le2;rw[C5 (by simp;omega)];simp only[List.getElem_zip,Dz];exact kat_cons (F.same i (by omega) (by omega) (by omega) _ _ _ _ (kat_yes (ih (i+1) (by omega) (by omega))))
theorem Ud{M:Model}:∀ks:List Value,(∀k∈ks,∃a o xs n f,k= .ref a∧h.get? a=some o∧o.cls= .type "tuple"∧o.data= .seq xs n∧xs[0]?=some f∧Looks M h (typeOf f) (.type "tuple"))→∃fs,KatTups h ks fs∧fs.length=ks.length∧∀v∈fs,Looks M h (typeOf v) (.type "tuple")
 | [],_=>⟨[],.nil,rfl,λv hv=>by simp at hv⟩
 | k::ks,hp=>by
  obtain⟨fs,h1,h2,h3⟩:=Ud ks λq hq=>hp q (Ag _ hq);obtain⟨a,o,xs,n,f,rfl,e,c,d,g,l⟩:=hp k Ai;refine⟨f::fs,.cons e c d g h1,by rw[AB,h2,AB],λv hv=>?_⟩;rcases An.mp hv with z | z
  · rw[z];exact l
  · exact h3 v z
def O5(n:Nat):Prop:=∀(prog:AY)(w:World)(A:BC)(E:Value→Shared→Prop)(s:Shared)(κ:SortKind)(lt:Nat→Nat→Bool)(ks us:List Value),ks.length=n→us.length=n→2≤n→KS.Ord lt→
 (∀i j i' j',i<n→j<n→i'<n→j'<n→us[i]?=us[i']?→us[j]?=us[j']?→lt i j=lt i' j')→
 (∀i j,i<n→j<n→∀C:Bool→Shared→Prop,C (lt i j) s→wpAny (model prog w) A (keyLt' κ (ks.getD i Value.none) (ks.getD j Value.none)) C (λ_ _=>False) s)→
 wpAny (model prog w) A (sortRuns'.run (SortSt.mk' κ (ks.toArray.zip us.toArray) #[] 7 none)) (λr s'=>s'=s∧∃p:Array Nat,arrOf r.2=p.map (kas_item (ks.toArray.zip us.toArray))∧failedOf r.2=none∧KS.Ok n p∧KS.Srt lt p n) E s
theorem Yi(h:n<64):O5 n:=by
 intro prog w A E s κ lt ks us hk hu h2 O _ hc;subst hu;have tree:(kas_sort us.length).kasWp (kas_ask prog w A κ ks) (λp s2=>s2=s∧KS.Ok us.length p∧KS.Srt lt p us.length) s:=
  KS.sat_wp (λi j C hi hj hC=>hc i j hi hj C hC) (λp hp=>⟨rfl,hp⟩) _ (KS.sort_ok O (by omega))
 exact A0 (kat_run (Q:=λst' s2=>∃p:Array Nat,p.size=us.length∧arrOf st'=p.map (kas_item (ks.toArray.zip us.toArray))∧failedOf st'=none∧s2=s∧KS.Ok us.length p∧KS.Srt lt p us.length)
  hk h2 h (λp' st' s2 a1 a2 a3 a4=>⟨p',a1,a2,a3,a4⟩) tree) (λr s2 ⟨p,_,a2,a3,a4,a5,a6⟩=>⟨a4,p,a2,a3,a5,a6⟩) λ_ _ e=>e
def PM(n:Nat)(kd:Nat→PD):Prop:=n<2∨(∀i,∃ds,kd i= .lst ds)∨(∀i,i<n→∃d ds,kd i= .tup (.tup d::ds))∨∀i,i<n→∃x,kd i= .str x
section
variable{o:HO}
theorem Zs{kS:Addr}{f:Value}{vs:List V}{us:List Value}{kd:Nat→PD}{e1:Nat}{P:PySem.Fin→Shared→Prop}{E:Value→Shared→Prop}
 (I:Inv X ((a,Bd "list" #[] e1)::(kS,Bd "list" #[] 0)::pins) σ H s) (Fa:Ix X pins H a) (Fk:Ix X pins H kS) (ha0:X.s₀.heap.get? a=none) (hak:kS≠a) (rv:Vals vs us) (h64:us.length≤1000) (S:O5 us.length) (hcons:∀i j:Nat,i<us.length→j<us.length→us[i]?=us[j]?→kd i=kd j)
 (turn:∀i v u,vs[i]?=some v→us[i]?=some u→∀pins' s' H',Inv X pins' σ H' s'→Same H H'→wpAny (model X.prog X.w) X.A (call f [u]) (EP X pins' σ λkv H''=>Same H' H''∧Rep X.K H'' (kd i) kv) (λ_ _=>False) s')
 (hl:PM us.length kd) (hd:∀i,X.A.units+2+Jk (kd i)<cLine)
 (hok:∀i j,i<us.length→j<us.length→IA (kd i) (kd j)=true) (O:KS.Ord λi j=>IM (kd i) (kd j))
 (h:∀(p:Array Nat)s' H',KS.Ok us.length p→KS.Srt (λi j=>IM (kd i) (kd j)) p us.length→Same H H'→H' a=none→Inv X pins σ (upd H' a (.lst (p.toList.map λi=>vs.getD i .non))) s'→P (.done (.ret .none)) s'):
 wpAny (model X.prog X.w) X.A (ksk_rest a f false us.toArray e1 (.ref kS)) P E s:=by
 have lv:=rv.length;unfold ksk_rest;refine Aa (Cg ?_);rw[List.forIn_toArray];refine Aa (ksk_fold (λi s'=>∃H' kvs kA e,Inv X ((a,Bd "list" #[] e1)::(kS,Bd "list" kA e)::pins) σ H' s'∧Same H H'∧Vals kvs kA.toList∧kvs.length=i∧∀j kv,kvs[j]?=some kv→Rep X.K H' (kd j) kv) us 0 s
  ⟨H,[],#[],0,I,Same.refl _,.nil,rfl,λj kv e=>by simp at e⟩ ?step ?done)
 case step=>
  rintro j x s' hx ⟨H1,kvs,kA,e,I1,S1,rk,lk,rp⟩;simp only[DL] at lk ⊢;have hj:j<us.length:=(Al.mp hx).1;obtain⟨v,hv⟩:∃v,vs[j]?=some v:=⟨_,Au (by omega)⟩;refine Aa (Ej (A0 (turn j v x hv hx _ s' H1 I1 S1) (λu s2 he=>?_) λ_ _ hF=>hF.elim));obtain⟨kv,H2,I2,r2,S2,R2⟩:=he;dsimp only;obtain⟨nk,nk1,nk2,nk3,nk4⟩:=I2.pin (kS,Bd "list" kA e) (Ah _ (.tail _ (.head _)));obtain⟨na,na1,na2,na3,na4⟩:=I2.pin (a,Bd "list" #[] e1) (Ah _ (.head _));have hz:kA.size=j:=by
   have h1:kvs.length=kA.size:=by have:=rk.length;simpa using this
   rw[←h1,lk]
  have s1:=BH s2.heap kS (AN (·.push u));obtain⟨c2,hc2⟩:∃c2,(s2.heap.update kS (AN (·.push u))).get? kS=some (Bd "list" (kA.push u) c2):=⟨_,get?_update_seq nk (·.push u)⟩;refine Aa (listUpdate_at nk rfl ?_ (by rw[sizeLine_eq];omega) (A4 (Nat.le_of_eq (F6 ..)) (by rw[sizeLine_eq];omega)));have I3:Inv X pins σ H2 s2:=I2.pins_of λp hp=>I2.pin p (Ah _ (.tail _ (.tail _ hp)));have I4:Inv X pins σ H2 {s2 with heap:=s2.heap.update kS (AN (·.push u)),toks:=s2.toks}:=I3.turned (it:=kS) (λb o hb q=>(s1.2 b hb).trans q) nk1 nk2 Fk.2.2.2.1 Fk.2.2.2.2.1 Fk.2.2.2.2.2
  refine Ac ⟨rfl,H2,kvs++[kv],kA.push u,c2,I4.pins_of λp hp=>?_,S1.trans S2,?_,by rw[Aw];simp[lk],λi kv' e'=>?_⟩
  · rcases An.mp hp with rfl | hp
    · exact⟨(s1.2 a hak.symm).trans na,na1,na2,na3,na4⟩
    · rcases An.mp hp with rfl | hp
      · exact⟨hc2,nk1,nk2,nk3,λv z=>by cases z⟩
      · exact I4.pin p (Ah _ hp)
  · rw[EW];exact rk.append (.cons r2 .nil)
  · rcases DK i kvs.length with h1 | h1
    · rw[C4 h1] at e';exact Rep.same S2 _ _ (rp i kv' e')
    · rw[Cr h1] at e';have:i=kvs.length:=by
       rcases DK (i - kvs.length) 1 with h2 | h2
       · omega
       · rw[Dt (by simpa using h2)] at e';cases e'
      subst this;simp at e';subst e';rw[lk];exact R2
 case done=>
  rintro s' ⟨H1,kvs,kA,e,I1,S1,rk,lk,rp⟩;rw[DL] at lk;obtain⟨nk,nk1,nk2,nk3,nk4⟩:=I1.pin (kS,Bd "list" kA e) (Ah _ (.tail _ (.head _)));obtain⟨na,na1,na2,na3,na4⟩:=I1.pin (a,Bd "list" #[] e1) (Ah _ (.head _));refine Aa (listItems_at nk rfl ?_);obtain⟨ks,rfl⟩:∃ks:List Value,kA=ks.toArray:=⟨kA.toList,by simp⟩;simp only[CD] at rk;have lks:ks.length=us.length:=by have:=rk.length;omega
  have key:(∀i,i<us.length→∀kv,Rep X.K H1 (kd i) kv→∃l,kv=V.ref l)→∀i,i<us.length→∃(l:Addr)(kv:V),ks.getD i Value.none= .ref l∧kvs[i]?=some kv∧RelV kv (.ref l)∧Rep X.K H1 (kd i) kv:=λhrf i hi=>by obtain⟨kv,hkv⟩:∃kv,kvs[i]?=some kv:=⟨_,Au (by omega)⟩;obtain⟨u,h1,h2⟩:=Vals.get rk hkv;have h3:=rp i kv hkv;obtain⟨l,rfl⟩:=hrf i hi kv h3;cases h2;exact⟨l,_,by rw[A2,h1];rfl,hkv,rfl,h3⟩
  have tail:∀(st':SortSt)(p:Array Nat),arrOf st'=p.map (kas_item (ks.toArray.zip us.toArray))→failedOf st'=none→KS.Ok us.length p→KS.Srt (λi j=>IM (kd i) (kd j)) p us.length→wpAny (model X.prog X.w) X.A (ksk_tail a false e1 (.ref kS) st') P E s':=by
   intro st' p har hf ok srt;have hout:=kat_snds lks har;have hp:=ok.size;have s1:=BH s'.heap kS (AN λ_=>(#[]:Array Value));have na':(s'.heap.update kS (AN λ_=>(#[]:Array Value))).get? a=some (Bd "list" #[] e1):=(s1.2 a hak.symm).trans na;have s2:=BH (s'.heap.update kS (AN λ_=>(#[]:Array Value))) a (AN λ_=>(arrOf st').map (·.2));obtain⟨c2,hc2⟩:∃c2,((s'.heap.update kS (AN λ_=>(#[]:Array Value))).update a (AN λ_=>(arrOf st').map (·.2))).get? a=some (Bd "list" ((arrOf st').map (·.2)) c2):=
    ⟨_,get?_update_seq na' λ_=>(arrOf st').map (·.2)⟩
   unfold ksk_tail;dsimp only;refine Aa (listUpdate_at nk rfl ?_ (by rw[As,sizeLine_eq];omega) (AI _));refine Aa (ED ?_);refine Aa (seqEpoch_at na' rfl ?_);refine Aa (listUpdate_at na' rfl ?_ (AI _) (by simp only[A8,if_false];rw[hout];show(p.toList.map λi=>us.getD i Value.none).length≤_;rw[Ab,A6,hp,sizeLine_eq];omega));rw[hf];simp only[bne_self_eq_false,A8,if_false];have I3:Inv X pins σ H1 s':=I1.pins_of λp hp=>I1.pin p (Ah _ (.tail _ (.tail _ hp)));have I4:Inv X pins σ H1 {s' with heap:=s'.heap.update kS (AN λ_=>(#[]:Array Value)),toks:=s'.toks}:=I3.turned (it:=kS) (λb o hb q=>(s1.2 b hb).trans q) nk1 nk2 Fk.2.2.2.1 Fk.2.2.2.2.1 Fk.2.2.2.2.2
   have I5:Inv X pins σ H1 {s' with heap:=(s'.heap.update kS (AN λ_=>(#[]:Array Value))).update a (AN λ_=>(arrOf st').map (·.2)),toks:=s'.toks}:=Inv.turned (s:={s' with heap:=s'.heap.update kS (AN λ_=>(#[]:Array Value)),toks:=s'.toks}) (t':=s'.toks) (it:=a) I4 (λb o hb q=>(s2.2 b hb).trans q) na1 na2 Fa.2.2.2.1 Fa.2.2.2.2.1 Fa.2.2.2.2.2
   refine Ac (h p _ H1 ok srt S1 na1 (I5.track7 ⟨na1,Fa.2⟩ ha0 ?_));refine⟨by rw[Ab,A6,hp,sizeLine_eq];omega,p.toList.map λi=>us.getD i Value.none,c2,?_,?_⟩
   · have:∀l:List Nat,Vals (l.map λi=>vs.getD i .non) (l.map λi=>us.getD i Value.none):=λl=>by
      induction l with
      | nil=>exact .nil
      | cons i l ih=>
       refine .cons ?_ ih;show RelV (vs.getD i .non) (us.getD i Value.none);rcases DK i vs.length with h1 | h1
       · obtain⟨u,g1,g2⟩:=Vals.get rv (Au h1);rw[A2,A2,g1,Au h1];exact g2
       · rw[A2,A2,Dt h1,Dt (by omega)];rfl
     exact this _
   · rw[hout] at hc2 ⊢;exact hc2
  unfold ksk_end;dsimp only;simp only[A8,if_false];have hsz:us.toArray.size=us.length:=by simp
  by_cases h2:us.toArray.size<2
  · rw[if_pos h2,if_pos h2];refine Aa (Ac ?_);rw[StateT.run_pure];refine Aa (Ac ?_);have e1:=kas_range (ks.toArray.zip us.toArray);have e2:(ks.toArray.zip us.toArray).size=us.length:=by simp[lks]
    rw[e2] at e1;exact tail _ (AJ us.length).toArray e1.symm rfl ⟨by simp⟩ (λi j hij hj=>absurd hj (by rw[hsz] at h2;omega))
  · rw[if_neg h2,if_neg h2];rw[hsz] at h2;obtain⟨κ,hkind,hgo⟩:∃κ,(∀Q:SortKind→Shared→Prop,Q κ s'→wpAny (model X.prog X.w) X.A (keyKind' ks.toArray) Q E s')∧∀i j,i<us.length→j<us.length→∀C:Bool→Shared→Prop,C (IM (kd i) (kd j)) s'→wpAny (model X.prog X.w) X.A (keyLt' κ (ks.getD i Value.none) (ks.getD j Value.none)) C (λ_ _=>False) s':=by
     rcases hl with z | hl | hl | hl
     · omega
     · have key:=key λi _ kv r=>by
        obtain⟨ds,e⟩:=hl i;rw[e,Rep] at r;obtain⟨l,xs,z,_⟩:=r;exact⟨l,z⟩
       refine⟨oneType',λQ q=>kas_kind (T:= .type "list") (by omega) (λv hv=>?_) (by rfl) (by rfl) q,λi j hi hj C hC=>?_⟩
       · obtain⟨i,hi,rfl⟩:=E5 hv;obtain⟨l,kv,g1,g2,g3,g4⟩:=key i (by omega);rw[A2,Au hi] at g1;obtain⟨ds,hds⟩:=hl i;rw[hds,Rep] at g4;obtain⟨l',xs,rfl,g5,_⟩:=g4;cases g3;obtain⟨its,_,pl,_⟩:=I1.list g5;rw[show ks[i]= .ref _ from g1];exact ziW pl.isList
       · obtain⟨l1,kv1,a1,a2,a3,a4⟩:=key i hi;obtain⟨l2,kv2,b1,b2,b3,b4⟩:=key j hj;rw[a1,b1];have k1:=hok i j hi hj;have hdi:=hd i;obtain⟨ds,hds⟩:=hl i;obtain⟨es,hes⟩:=hl j;rw[hds,hes] at k1 hC;rw[hds] at a4 hdi;rw[hes] at b4;rw[Rep] at a4 b4;obtain⟨m1,xs,rfl,q1,q2⟩:=a4;obtain⟨m2,ys,rfl,q3,q4⟩:=b4;cases a3;cases b3;obtain⟨its,r1,p1,_⟩:=I1.list q1;obtain⟨its',r2,p2,_⟩:=I1.list q3;rw[Jk] at hdi;rw[IA] at k1;rw[IM] at hC;obtain⟨n,FA⟩:=ND I1 X.A.in1 ds es xs ys its its' q2 q4 r1 r2 (by rw[Ce];omega) k1;exact ziO p1.isList p2.isList (by omega) FA hC
     · have key:=key λi hi kv r=>by
        obtain⟨d,ds,e⟩:=hl i hi;rw[e,Rep] at r;obtain⟨l,xs,z,_⟩:=r;exact⟨l,z⟩
       refine⟨tuples' false,λQ q=>?_,λi j hi hj C hC=>?_⟩
       · obtain⟨fs,f1,f2,f3⟩:=Ud (M:=model X.prog X.w) (h:=s'.heap) ks λv hv=>by
          obtain⟨i,hi,rfl⟩:=E5 hv;obtain⟨l,kv,g1,g2,g3,g4⟩:=key i (by omega);rw[A2,Au hi] at g1;obtain⟨d,ds,hds⟩:=hl i (by omega);rw[hds,Rep] at g4;obtain⟨l',xs,rfl,g5,g6⟩:=g4;cases g3;obtain⟨its,rv,⟨o,e,c,n,hd⟩,_⟩:=I1.tuple g5;rw[Reps] at g6;obtain⟨x,vr,rfl,g7,_⟩:=g6;rw[Rep] at g7;obtain⟨l2,xs2,rfl,g8,_⟩:=g7;cases rv with
          | cons ra rb=> cases ra;obtain⟨its2,_,⟨o2,e2,c2,_⟩,_⟩:=I1.tuple g8;refine⟨_,o,_,n,_,g1,e,c,hd,rfl,?_⟩;rw[←c2];exact(Looks.ld e2).andThen .now
         exact kat_kind (T:= .type "tuple") f1 (by omega) f3 (by rfl) q
       · obtain⟨l1,kv1,a1,a2,a3,a4⟩:=key i hi;obtain⟨l2,kv2,b1,b2,b3,b4⟩:=key j hj;rw[a1,b1];have k1:=hok i j hi hj;have hdi:=hd i;obtain⟨d,ds,hds⟩:=hl i hi;obtain⟨e,es,hes⟩:=hl j hj;rw[hds,hes] at k1 hC;rw[hds] at a4 hdi;rw[hes] at b4;rw[Rep] at a4 b4;obtain⟨m1,xs,rfl,q1,q2⟩:=a4;obtain⟨m2,ys,rfl,q3,q4⟩:=b4;cases a3;cases b3;obtain⟨its,r1,⟨o1,e1,_,n1,d1⟩,_⟩:=I1.tuple q1;obtain⟨its',r2,⟨o2,e2,_,n2,d2⟩,_⟩:=I1.tuple q3;rw[Jk] at hdi;rw[IA] at k1;rw[IM] at hC;obtain⟨n,FA⟩:=ND I1 X.A _ _ xs ys its its' q2 q4 r1 r2 (by omega) k1;exact kat_lt e1 d1 e2 d2 (Zv FA hC _ 0 rfl (AI _))
     · have hs:∀i,i<us.length→∃x t,ks.getD i Value.none= .str x t∧kd i= .str x:=λi hi=>by
        obtain⟨kv,hkv⟩:∃kv,kvs[i]?=some kv:=⟨_,Au (by omega)⟩;obtain⟨u,h1,h2⟩:=Vals.get rk hkv;have h3:=rp i kv hkv;obtain⟨x,ex⟩:=hl i hi;rw[ex,Rep] at h3;subst h3;obtain⟨t,rfl⟩:=h2;exact⟨x,t,by rw[A2,h1];rfl,ex⟩
       refine⟨oneType',λQ q=>kas_kind (T:= .type "str") (by omega) (λv hv=>?_) (by rfl) (by rfl) q,λi j hi hj C hC=>?_⟩
       · obtain⟨i,hi,rfl⟩:=E5 hv;obtain⟨x,t,g1,_⟩:=hs i (by omega);rw[A2,Au hi] at g1;rw[show ks[i]= .str x t from g1];exact .now
       · obtain⟨x,t,a1,a2⟩:=hs i hi;obtain⟨y,t',b1,b2⟩:=hs j hj;rw[a1,b1];rw[a2,b2,IM] at hC;rw[keyLt'_oneType];exact oneLt_str hC
    refine Aa (hkind _ ?_);refine Aa (A0 (S _ _ _ E s' κ (λi j=>IM (kd i) (kd j)) ks us lks rfl (by omega) O (λi j i' j' h1 h2 h3 h4 e1 e2=>?_) hgo) ?_ λ_ _ e=>e)
    · show IM (kd i) (kd j)=IM (kd i') (kd j');rw[hcons i i' h1 h3 e1,hcons j j' h2 h4 e2]
    · rintro⟨⟨⟩,st'⟩ s2 ⟨rfl,p,har,hf,ok,srt⟩;exact tail st' p har hf ok srt
end
open PySem PySem.Spec PyProof.Rows PySem.W
def MN(M:Nat)(K:Ad)(sp:Sp):List V→Hp→VK→Prop:=λxs H Q=>∃(l:Addr)(vs:List V)(kd:Nat→PD),xs=[.ref l]∧SqL K H l vs∧vs.length≤M∧(∀v∈vs,∃a,v= .ref a)∧(∀i j:Nat,i<vs.length→j<vs.length→vs[i]?=vs[j]?→kd i=kd j)∧
 (∀i v,vs[i]?=some v→∀H1,Same H H1→∀Q1:VK,(∀kv H2,Same H1 H2→Rep K H2 (kd i) kv→Q1 kv H2)→sp [v] H1 Q1 E0)∧
 PM vs.length kd∧(∀i,Jk (kd i)≤20)∧(∀i j,i<vs.length→j<vs.length→IA (kd i) (kd j)=true)∧KS.Ord (λi j=>IM (kd i) (kd j))∧
 ∀(r:Addr)(p:Array Nat)(H':Hp),KS.Ok vs.length p→KS.Srt (λi j=>IM (kd i) (kd j)) p vs.length→Same H H'→H r=none→H' r=some (.lst (p.toList.map λi=>vs.getD i .non))→Q (.ref r) H'
def Ub(M:Nat)(K:Ad)(sp:Sp)(t:TA):TE:=λσ H Q=>t σ H λvs H1=>MN M K sp vs H1 Q
theorem zfT{k M:Nat}(hM:M≤1000)(S:∀n,n≤M→O5 n){f:Addr}{fd:Bw}{sp:Sp}(F:FnOk X.prog X.w X.K X.mg X.base IC k f fd [x] sp)(hb:Binds X.K fd [x] [])(hr:Room (k+2) X.A):Tc X (.builtin "sorted") [Ca "key"] (λxs zs H Q=>zs=[.ref f]∧MN M X.K sp xs H Q):=by
 intro pins s σ H xs zs us ws Q I r1 r2 h;obtain⟨rfl,l,vs,kd,rfl,hq,h64,hrf,hco,turn,hl,hd,hok,O,q⟩:=h;obtain⟨u,rfl,ru⟩:=KG r1;obtain⟨z,rfl,rz⟩:=KG r2;cases ru;cases rz;obtain⟨its,rv,pl,hz⟩:=I.list hq;have lv:=rv.length;show wpAny _ _ (call (.builtin "sorted") [.ref l] [(Ca "key",.ref f)]) _ _ _;refine call_function_entry_kw kind_sorted plain_sorted entry_sorted (ksk_s1 _ _) ?_;unfold Builtin.«sorted»;refine Aa (m:=checkCount "sorted" 1 1 _) (Ac ?_);refine Aa (collect_list pl.isList ?_ (by omega));refine Aa (wpAny_newList ?_ (by omega));have hsz:((s.heap.push (Bd "list" #[] 0)).update s.heap.objs.size (AN (· ++its.toArray))).objs.size=s.heap.objs.size+1:=by rw[Heap.size_update,size_push']
 have hoL:(((s.heap.push (Bd "list" #[] 0)).update s.heap.objs.size (AN (· ++its.toArray))).push (Bd "list" its.toArray 0)).get? (s.heap.objs.size+1)=some (Bd "list" its.toArray 0):=by rw[←hsz];exact Ay _ rfl
 have keep:∀b o,s.heap.get? b=some o→(((s.heap.push (Bd "list" #[] 0)).update s.heap.objs.size (AN (· ++its.toArray))).push (Bd "list" its.toArray 0)).get? b=some o:=λb o q=>by have hlt:b<s.heap.objs.size:=Aq q;rw[Heap.get?_push_ne _ _ _ (by rw[hsz];exact A3 (DZ hlt)),Gk _ _ _ _ (A3 hlt),Heap.get?_push_ne _ _ _ (A3 hlt)];exact q
 show wpAny _ _ _ _ _ {s with heap:=((s.heap.push (Bd "list" #[] 0)).update s.heap.objs.size (AN (· ++its.toArray))).push (Bd "list" its.toArray 0)}
 rw[hsz];generalize hg:((s.heap.push (Bd "list" #[] 0)).update s.heap.objs.size (AN (· ++its.toArray))).push (Bd "list" its.toArray 0)=g at hoL keep ⊢;refine Aa (AZ (wpAny_call_entry_kw slot_list_sort ⟨_,hoL,rfl⟩ entry_list_sort ?body (ksk_l1 _ _)))
 case body=>
  show wpAny (model X.prog X.w) X.A.in1.in1 (Builtin.«list.sort» ⟨[.ref (s.heap.objs.size+1)],[(Ca "key",.ref f)]⟩) _ _ _;rw[ksk_t1];unfold ksk_tree;have ha:s.heap.objs.size+1<g.objs.size:=Aq hoL;refine Aa (listItems_at hoL rfl ?_);refine Aa (listUpdate_at hoL rfl ?_ (by rw[As,sizeLine_eq];omega) (AI _));obtain⟨e1,ho1⟩:∃e1,(g.update (s.heap.objs.size+1) (AN λ_=>#[])).get? (s.heap.objs.size+1)=some (Bd "list" #[] e1):=⟨_,get?_update_seq hoL (λ_=>#[])⟩;refine Aa (seqEpoch_at ho1 rfl ?_);refine Aa (wpAny_newTuple ?_ (by show its.length≤_;rw[sizeLine_eq];omega));refine Aa (wpAny_newList ?_ (AI _));refine AZ ?_;have ho6:(((g.update (s.heap.objs.size+1) (AN λ_=>#[])).push (Bd "tuple" its.toArray 0)).push (Bd "list" #[] 0)).get? (s.heap.objs.size+1)=some (Bd "list" #[] e1):=
   Ae _ (Ae _ ho1)
  have hkS:((g.update (s.heap.objs.size+1) (AN λ_=>#[])).push (Bd "tuple" its.toArray 0)).objs.size=g.objs.size+1:=by rw[size_push',Heap.size_update]
  have hok6:(((g.update (s.heap.objs.size+1) (AN λ_=>#[])).push (Bd "tuple" its.toArray 0)).push (Bd "list" #[] 0)).get? (g.objs.size+1)=some (Bd "list" #[] 0):=by rw[←hkS];exact Ay _ rfl
  have kept:∀b o,s.heap.get? b=some o→(((g.update (s.heap.objs.size+1) (AN λ_=>#[])).push (Bd "tuple" its.toArray 0)).push (Bd "list" #[] 0)).get? b=some o:=λb o q=>by refine Ae _ (Ae _ ?_);rw[Gk _ _ _ _ (A3 (DZ (Aq q)))];exact keep b o q
  show wpAny _ _ (ksk_rest _ _ _ _ _ (.ref ((g.update (s.heap.objs.size+1) (AN λ_=>#[])).push (Bd "tuple" its.toArray 0)).objs.size)) _ _ {s with heap:=((g.update (s.heap.objs.size+1) (AN λ_=>#[])).push (Bd "tuple" its.toArray 0)).push (Bd "list" #[] 0)}
  rw[hkS];generalize((g.update (s.heap.objs.size+1) (AN λ_=>#[])).push (Bd "tuple" its.toArray 0)).push (Bd "list" #[] 0)=g6 at ho6 hok6 kept ⊢;have Fa:Ix X.in2 pins H (s.heap.objs.size+1):=I.in2.fpOk (D6 _) (I.hok.fresh (D6 _));have hle:s.heap.objs.size≤g.objs.size+1:=by omega
  have hne:g.objs.size+1≠s.heap.objs.size+1:=by omega
  have h64':its.length≤1000:=by omega
  have hcons:∀i j:Nat,i<its.length→j<its.length→its[i]?=its[j]?→kd i=kd j:=λi j hi hj e=>by refine hco i j (by omega) (by omega) ?_;obtain⟨v1,hv1⟩:∃v,vs[i]?=some v:=⟨_,Au (by omega)⟩;obtain⟨v2,hv2⟩:∃v,vs[j]?=some v:=⟨_,Au (by omega)⟩;obtain⟨u1,g1,g2⟩:=Vals.get rv hv1;obtain⟨u2,g3,g4⟩:=Vals.get rv hv2;obtain⟨a1,rfl⟩:=hrf v1 (Ak hv1);obtain⟨a2,rfl⟩:=hrf v2 (Ak hv2);rw[g1,g3] at e;cases g2;cases g4;cases e;rw[hv1,hv2]
  have Fk:Ix X.in2 pins H (g.objs.size+1):=I.in2.fpOk hle (I.hok.fresh hle);have I6:Inv X.in2 pins σ H {s with heap:=g6}:=Inv.kept (t':=s.toks) I.in2 kept
  refine Zs (X:=X.in2) (pins:=pins) (σ:=σ) (H:=H) (vs:=vs) (kd:=kd) (I6.pins_of λp hp=>?_) Fa Fk (FW (Nat.le_succ_of_le I.sz)) hne rv h64' (S _ (by omega)) hcons (λi v u hv hu pins' s' H' I' S'=>?_) (by rw[←lv];exact hl) (λi=>?_) (by rw[←lv];exact hok) O λp s' H' ok srt S' hn I'=>?_
  · rcases An.mp hp with rfl | hp
    · exact⟨ho6,Fa.1,Fa.2.1,Fa.2.2.1,λv z=>by cases z⟩
    · rcases An.mp hp with rfl | hp
      · exact⟨hok6,Fk.1,Fk.2.1,Fk.2.2.1,λv z=>by cases z⟩
      · exact I6.pin p (Ah _ hp)
  · obtain⟨u',h1,h2⟩:=Vals.get rv hv;rw[hu] at h1;cases h1;exact SW (X:=X.in2) F (Room.in1 (Room.in1 hr)) hb .nil Sr I' (.cons h2 .nil) (turn i v hv H' S' _ λkv H2 s2 r2=>⟨s2,r2⟩)
  · have:=hd i;have:=hr.un;show X.A.units+1+1+2+Jk (kd i)<cLine;omega
  · refine⟨_,rfl,?_⟩;refine Ac ⟨_,rfl,?_⟩;rw[←lv] at ok srt;exact⟨.ref _,_,I'.out2 I.ok,rfl,q _ p _ ok srt (J7 S' Fa.1) Fa.1 Ij⟩
theorem ZL{k M:Nat}(hM:M≤1000)(S:∀n,n≤M→O5 n){px:Str}{sp:Sp}{t:TA}{p1 p2 p3 pos:Pos}(G:IH X.prog X.w X.K X.mg X.base k x [px] sp)(hr:Room (k+2) X.A)(hg:Gl X "sorted")(hm:X.mg "sorted"=none)(hx:Gl X x)(ha:PA X [e] t)(hks:(x==("__debug__":Str))=false:=by decide)
 (he:backTo pos (A7 [e] X.env)=(false,eval e X.env)::backTo pos (A7 [] X.env):=by rfl) (hpl:(backTo pos (A7 [e] X.env)).any (·.1)=false:=by rfl):
 PE X (.Call (.Name "sorted" p1) [e] [⟨some "key",.Name x p2,p3⟩] pos) (Ub M X.K sp t):=by
 obtain⟨f,fd,h1,h2,h3,h4⟩:=G;have:=zj0 (p:=p1) (pos:=pos) (zfT hM S h1 h2 hr) hg hm Vn ha (XZ (nm:=some "key") (kpos:=p3) (MS (v:= .ref f) (pos:=p2) hx h4 rfl hks) XD) rfl (by decide) (by decide) he hpl rfl rfl;intro pins s σ H Q I h;refine this pins s σ H Q I ?_;have e0:(λ(vs:List V)(H1:Hp)=>MN M X.K sp vs H1 Q)=(λvs H1=>[V.ref f]=[V.ref f]∧MN M X.K sp vs H1 Q):=by funext vs H1;simp
 have h':t σ H (λvs H1=>MN M X.K sp vs H1 Q):=h;rw[e0] at h';exact h'
theorem ziL{k:Nat}{px:Str}{sp:Sp}{t:TA}{p1 p2 p3 pos:Pos}(G:IH X.prog X.w X.K X.mg X.base k x [px] sp)(hr:Room (k+2) X.A)(hg:Gl X "sorted")(hm:X.mg "sorted"=none)(hx:Gl X x)(ha:PA X [e] t)(hks:(x==("__debug__":Str))=false:=by decide)
 (he:backTo pos (A7 [e] X.env)=(false,eval e X.env)::backTo pos (A7 [] X.env):=by rfl) (hpl:(backTo pos (A7 [e] X.env)).any (·.1)=false:=by rfl):
 PE X (.Call (.Name "sorted" p1) [e] [⟨some "key",.Name x p2,p3⟩] pos) (Ub 63 X.K sp t):=ZL (by decide) (λn h=>Yi (by omega)) G hr hg hm hx ha hks he hpl
section
variable{base:Heap}{l:List Env}{H':Hp}{s0 s':Shared}{C t:Addr}{B h':Heap}
end
section
variable{H':Hp}{s':Shared}{C:Addr}
end
def del(H:Hp)(a:Addr):Hp:=λb=>if b=a then none else H b
section
variable{e C:Addr}
end
section
variable{g:Array GenState}{d:Drawn}{t:Nat}{os:OsState}{nm q:Str}{C N:Addr}{bs bm bmB:List Value}{hdct:Bool}{sn:List Str}{sub:List Value}
variable{ab:Bool}{col:Option Bool}{dd:Option Addr}{k0 k1 k2 k3 k5:Option Value}{B newId initId:String}{Io:List Value}
end
section
variable{g:Array GenState}{d:Drawn}{t:Nat}{os:OsState}{nm q:Str}{C N:Addr}{bs bm bmB:List Value}{hdct:Bool}{sn:List Str}{sub:List Value}
variable{ab:Bool}{col:Option Bool}{dd:Option Addr}{k0 k1 k2 k3 k5:Option Value}{B newId initId:String}{Io:List Value}
end
section
variable{K:Ad}{mg:Str→Option Value}{base:Heap}{N:List Str}{qual:Str}{f:Addr}{cd:Value}{outer:List Env}{E:XK}
end
section
variable{K:Ad}{mg:Str→Option Value}{base:Heap}{N:List Str}{qual:Str}{f:Addr}{cd:Value}{outer:List Env}{E:XK}
end
section
variable{E:XK}{C fI:Addr}{fd:Bw}{k:Nat}{e1:Expr}{t:TA}{np cpos:Pos}
end
section
variable{o:HO}
end
section
variable{pins':List (Addr×Obj)}{RR:St→Value→Hp→Prop}
end
section
variable{base:Heap}{l:List Env}{H':Hp}{s0 s':Shared}{C t:Addr}{B:Heap}
end
section
variable{M:Model}{g:Array GenState}{d:Drawn}{t:Nat}{os:OsState}{nm q nm0 q0:Str}{C N C0 N0 e:Addr}{bs bm bs0 bm0:List Value}{hdct hdct0:Bool}{sn sn0:List Str}{sub sub0:List Value}
variable{ab ab0:Bool}{col col0:Option Bool}{dd dd0:Option Addr}{k0 k1 k2 k3 k5 j0 j1 j2 j3 j5:Option Value}{newId newId0:String}{oe:Obj}
end
section
variable{C0:Addr}{n:Str}{body suite:List Stmt}{b₀:Stmt}{np hpos:Pos}{tb:(St→Value→Hp→Prop)→TS}{ts:TS}
end
open PySem.W (Looks looks_findIn looks_mroIn looks_typeIn)
section
variable{K:Ad}{g:Array GenState}{d:Drawn}{t:Nat}{os:OsState}{C:Addr}
end
def LN:V→Value
 | .ref D=> .ref D
 | .ty n=> .type n
 | _=> .none
def Pu:V→Bool
 | .ref _=>true
 | .ty _=>true
 | _=>false
theorem Zl{c:V}(h:Pu c=true)(r:RelV c u):u=LN c:=by
 cases c with
 | ref D=>exact r
 | ty n=>exact r
 | _=>cases h
theorem Vo:∀{cs:List V}{us:List Value},cs.all Pu=true→Vals cs us→us=cs.map LN
 | [],_,_,.nil=>rfl
 | c::cs,_,h,.cons r rs=>by rw[C9,AM] at h;rw[Zl h.1 r,Vo h.2 rs];rfl
end L2
namespace WB
structure Path(W:List Int)(l:List Int)(p q:Int):Prop where
 first:l.head?=some p
 last:l.getLast?=some q
 nd:l.Nodup
 posts:∀x∈l,Post W x
 adj:Adjs W l
theorem way_path{W:List Int}(w:Web W){p q:Int}(hp:Post W p)(hq:Post W q):Path W (wayB W p q) p q:=by have h:=Xl w hp hq;exact⟨by rw[List.head?_eq_getElem?];exact h.first,by rw[List.getLast?_eq_getElem?];exact h.last,h.nd,h.posts,h.adj⟩
theorem adj_cases{W:List Int}(w:Web W){p x:Int}(hp:Post W p)(hx:Post W x)(h:Adj W p x):(x=par W p∧0<p)∨(p=par W x∧0<x):=by
 obtain⟨h0,h1⟩:=h;by_cases hle:x≤p
 · left
   rw[Fz hle,Int.min_eq_right hle] at h1;rw[Fz hle] at h0;rw[par_at hp h0] at h1;exact⟨(AD h1).symm,h0⟩
 · right
   rw[Int.max_eq_right (by omega),Int.min_eq_left (by omega)] at h1;rw[Int.max_eq_right (by omega)] at h0;rw[par_at hx h0] at h1;exact⟨(AD h1).symm,h0⟩
theorem VO{W:List Int}(w:Web W){q:Int}:∀(Io:List Int)(p:Int),Adjs W (p::Io)→(p::Io).Nodup→(∀x∈p::Io,Post W x)→(p::Io).getLast?=some q→
 ∃c a b,Split W p q c a b∧p::Io=a++c::b.reverse
 | [],p,_,_,hx,hl=>by
  have:p=q:=by simpa using hl
  subst this;exact⟨p,[],[],⟨hx p (Ai ..),rfl,rfl,λx h=>by simp at h,λx h=>by simp at h⟩,rfl⟩
 | p2::Io,p,ha,hn,hx,hl=>by
  have hn2:=Bv.mp hn;have hp:=hx p (Ai ..);have hp2:=hx p2 (Ag _ (Ai ..));obtain⟨c,a,b,s,e⟩:=VO w Io p2 ha.2 hn2.2 (λx h=>hx x (Ag _ h)) (by simpa using hl);have hq:q∈p::p2::Io:=Ga hl;have nq:=ON w (hx q hq);rcases adj_cases w hp hp2 ha.1 with⟨e1,h0⟩ | ⟨e1,h0⟩
  · have eb:=bk_pos w hp h0;rw[←e1] at eb;have hlt:=par_lt w hp h0;rw[←e1] at hlt;refine⟨c,p::a,b,⟨s.pc,by rw[eb,s.ea];rfl,s.eb,λx hxm=>?_,λx hxm hx2=>?_⟩,by rw[e];rfl⟩
    · rcases An.mp hxm with rfl | hxm
      · intro z;rw[s.eb] at z;rcases A9.mp z with z | z
        · exact hn2.1 (by rw[e];exact Ah _ (Ag _ (by simpa using z)))
        · have z2:x∈bk W p2:=by rw[s.ea];exact Ah _ z
          have:=(Mt w p2 hp2 x z2).2.1;omega
      · exact s.na x hxm
    · rw[eb] at hx2;rcases An.mp hx2 with rfl | hx2
      · exact hn2.1 (by rw[e];exact Ah _ (Ag _ (by simpa using hxm)))
      · exact s.nb x hxm hx2
  · have eb:=bk_pos w hp2 h0;rw[←e1] at eb;have ea:=s.ea;obtain⟨tc,ec⟩:=bk_cons w s.pc;cases a with
    | nil=>
     have hc:p2=c:=by rw[ec,eb] at ea;injection ea
     subst hc;have eq:=s.eb;rw[eb] at eq;have eq':bk W q=(b++[p2])++bk W p:=by rw[eq];simp
     refine⟨p,[],b++[p2],⟨hp,rfl,eq',λx h=>by simp at h,λx h h2=>?_⟩,by rw[e];simp⟩;rw[eq',BJ] at nq;exact nq.2.2 x h x h2 rfl
    | cons y a=>
     exfalso;rw[eb,Fi] at ea;injection ea with ey er
     have:p∈p2::Io:=by
      rw[e,Fi];refine Ag _ ?_;have hm:p∈a++bk W c:=by rw[←er];obtain⟨t,et⟩:=bk_cons w hp;rw[et];exact Ai ..
      rw[ec] at er;obtain⟨t,et⟩:=bk_cons w hp;rw[et] at er;cases a with
      | nil=>injection er with er _;rw[er];exact Ah _ (Ai ..)
      | cons z a=>injection er with er _;rw[er];exact AH _ (Ai ..)
     exact hn2.1 this
theorem MR{W l:List Int}{p q:Int}(w:Web W)(h:Path W l p q):l=wayB W p q:=by
 cases l with
 | nil=>have:=h.first;simp at this
 | cons x Io=>
  have:x=p:=by have:=h.first;simpa using this
  subst this;obtain⟨c,a,b,s,e⟩:=VO w Io x h.adj h.nd h.posts h.last;rw[s.way w];exact e
theorem Path.pre{W l a b:List Int}{p q x:Int}(h:Path W l p q)(e:l=a++x::b):Path W (a++[x]) p x:=by
 subst e;have nd:=h.nd;have f:=h.first
 refine⟨?_,by simp,?_,λy hy=>h.posts y ?_,h.adj.left a⟩
 · cases a with
   | nil=>simpa using f
   | cons y a=>simpa using f
 · rw[BJ] at nd ⊢;refine⟨nd.1,by simp,λy hy z hz=>?_⟩;rw[Am] at hz;subst hz;exact nd.2.2 y hy z (Ai ..)
 · rcases A9.mp hy with z | z
   · exact AH _ z
   · rw[Am.mp z];exact Ah _ (Ai ..)
def has(l:List Int)(x:Int):Bool:=l.any (λy=>y==x)
theorem has_iff{l:List Int}{x:Int}:has l x=true↔x∈l:=by
 unfold has;rw[Cf];constructor
 · rintro⟨y,hy,e⟩;rw[←eq_of_beq e];exact hy
 · intro h;exact⟨x,h,by simp⟩
theorem zgV{W:List Int}(w:Web W){p q x:Int}(hp:Post W p)(hq:Post W q):x∈wayB W q p↔x∈wayB W p q:=by rw[U5 w hp hq];simp
theorem ZC{W:List Int}(w:Web W){p:Int}(hp:Post W p):wayB W p p=[p]:=
 (MR w (l:=[p]) ⟨rfl,rfl,by simp,λx hx=>by rw[Am.mp hx];exact hp,trivial⟩).symm
theorem Pz{W:List Int}(w:Web W){p x:Int}(hp:Post W p)(hx:Post W x)(h:Adj W p x):x≠p:=by
 rcases adj_cases w hp hx h with⟨e,h0⟩ | ⟨e,h0⟩
 · have:=par_lt w hp h0;omega
 · have:=par_lt w hx h0;omega
theorem Qa{W:List Int}(w:Web W){p x:Int}(hp:Post W p)(hx:Post W x)(h:Adj W p x):wayB W p x=[p,x]:=by
 refine(MR w (l:=[p,x]) ⟨rfl,rfl,?_,λy hy=>?_,⟨h,trivial⟩⟩).symm
 · have:=Pz w hp hx h;simp;exact λz=>this z.symm
 · simp at hy;rcases hy with rfl | rfl
   · exact hp
   · exact hx
theorem step_iff{W:List Int}(w:Web W){p q x:Int}(hp:Post W p)(hq:Post W q)(hx:Post W x)(h:Adj W p x):x∈wayB W q p↔(p≠q∧(wayB W p q).take 2=[p,x]):=by
 rw[zgV w hp hq];have ne:=Pz w hp hx h;constructor
 · intro hm;refine⟨λz=>?_,?_⟩
   · subst z;rw[ZC w hp] at hm;exact ne (Am.mp hm)
   · obtain⟨a,b,e⟩:=EI hm;have:=MR w ((way_path w hp hq).pre e);rw[Qa w hp hx h] at this;have e2:wayB W p q=[p,x]++b:=by rw[e,←this];simp
     rw[e2];rfl
 · rintro⟨_,hm⟩;have:x∈(wayB W p q).take 2:=by rw[hm];simp
   exact Da this
def kids(W:List Int)(p:Int):List Int:=((AJ W.length).filter (λi=>W.getD i 0==p)).map (λ(i:Nat)=>(i:Int)+1)
def roads(W:List Int)(p:Int):List Int:=(if 0<p then [par W p] else [])++kids W p
theorem roads_adj{W:List Int}(w:Web W){p x:Int}(hp:Post W p)(hx:x∈roads W p):Post W x∧Adj W p x:=by
 unfold roads at hx;rcases A9.mp hx with z | z
 · by_cases h0:0<p
   · rw[if_pos h0,Am] at z;subst z;exact⟨par_post w hp h0,adj_par w hp h0⟩
   · rw[if_neg h0] at z;simp at z
 · unfold kids at z;rw[Az] at z;obtain⟨i,hi,rfl⟩:=z;rw[Av,AQ] at hi;obtain⟨i1,i2⟩:=hi;have e:W.getD i 0=p:=eq_of_beq i2;have hx:Post W ((i:Int)+1):=⟨by omega,by omega⟩;have hpar:par W ((i:Int)+1)=p:=by
    unfold par;rw[show((i:Int)+1 - 1).toNat=i by omega];exact e
   have:=adj_par w hx (by omega);rw[hpar] at this;exact⟨hx,this.symm⟩
theorem adj_roads{W:List Int}(w:Web W){p x:Int}(hp:Post W p)(hx:Post W x)(h:Adj W p x):x∈roads W p:=by
 unfold roads;rcases adj_cases w hp hx h with⟨e,h0⟩ | ⟨e,h0⟩
 · rw[if_pos h0];exact AH _ (by rw[e];simp)
 · refine Ah _ ?_;unfold kids;rw[Az];obtain⟨k,hk⟩:=Cj (show 0≤x - 1 by omega);refine⟨k,?_,by omega⟩;rw[Av,AQ];refine⟨by have:=hx.2;omega,?_⟩;rw[e];unfold par;rw[hk];simp
theorem kids_len(W:List Int)(p:Int):(kids W p).length≤W.length:=by unfold kids;rw[Ab];exact A4 (AC _ _) (by simp)
def sideL(W:List Int)(p q:Int):List Int:=((AJ (W.length+1)).map (λ(i:Nat)=>(i:Int))).filter (λx=>has (wayB W x p) q)
theorem side_mem{W:List Int}{p q x:Int}:x∈sideL W p q↔Post W x∧q∈wayB W x p:=by
 unfold sideL;rw[Av,has_iff,Az];constructor
 · rintro⟨⟨i,hi,rfl⟩,h⟩;rw[AQ] at hi;exact⟨⟨by omega,by omega⟩,h⟩
 · rintro⟨hx,h⟩;exact⟨⟨x.toNat,AQ.mpr (by have:=hx.1;have:=hx.2;omega),by have:=hx.1;omega⟩,h⟩
end WB
namespace WB
end WB
namespace L2
def TR:Sp:=λvs H Q _=>∃(a:Addr)(W:List Int)(p:Int),vs=[.ref a,.int p]∧WebAt H a W∧WB.Post W p∧∀l H',Same H H'→H l=none→H' l=some (.lst ((WB.roads W p).map V.int))→Q (.ref l) H'
section
variable{te:TE}{p2 p3 p4:Pos}
def ziB(te:TE):TE:=λσ H Q=>te σ H λx H1=>∃j:Nat,[x]=[V.int j]∧j≤10000∧∀l,H1 l=none→Q (.ref l) (upd H1 l (.lst (((AJ j).map (λ(i:Nat)=>(i:Int))).map V.int)))
theorem zgv(hc:X.calm=true)(he:PE X e te)(hg:Gl X "list")(hm:X.mg "list"=none)(hg2:Gl X "range")(hm2:X.mg "range"=none)
 (h1:A7 [e] X.env=(false,eval e X.env)::A7 [] X.env:=by rfl)
 (h2:A7 [.Call (.Name "range" p2) [e] [] p3] X.env=(false,eval (.Call (.Name "range" p2) [e] [] p3) X.env)::A7 [] X.env:=by rfl)
 (h3:(backTo p3 (A7 [] X.env)).any (·.1)=false:=by rfl) (h4:(backTo pos (A7 [] X.env)).any (·.1)=false:=by rfl):
 PE X (.Call (.Name "list" p4) [.Call (.Name "range" p2) [e] [] p3] [] pos) (ziB te):=by
 intro pins s σ H Q I h;refine Bt (KH I hg hm K6 ?_ (by decide) (by decide));refine By ?_ h2 h4;rw[h2];show wpAny _ _ (spliced ((false,eval (.Call (.Name "range" p2) [e] [] p3) X.env)::backTo pos (A7 [] X.env))) _ _ s;refine DG ?_;refine Bt (KH I hg2 hm2 boot_range ?_ (by decide) (by decide));refine By (Il (Ic he Ie h1 p3 pins s σ H (λvs H1=>∃j:Nat,vs=[V.int j]∧j≤10000∧∀l,H1 l=none→Q (.ref l) (upd H1 l (.lst (((AJ j).map (λ(i:Nat)=>(i:Int))).map V.int)))) I h) λus s1 ⟨vs,H1,I1,r1,j,hv,hj,q⟩=>?_) h1 h3;subst hv;obtain⟨u1,rfl,v1⟩:=KG r1;obtain⟨t,rfl⟩:=v1;refine call_range_1 ?_;refine DV ?_;generalize hh:(s1.heap.push {cls:= .type "range",data:= .fields #[.int 0 s1.toks,.int (j:Int) t,.int 1 (s1.toks+1)]})=h2;have I2:Inv X pins σ H1 {s1 with heap:=h2,toks:=s1.toks+1+1}:=I1.kept λb o e=>by rw[←hh];exact Ae _ e
 have hr:IsRange h2 s1.heap.objs.size 0 j 1 s1.toks t (s1.toks+1):=by rw[←hh];exact IsRange.new ..
 have hsz:Fq 0 j 1=((j:Nat):Int):=by rw[rangeSize_one];split<;>omega
 refine call_list_range (s:={s1 with heap:=h2,toks:=s1.toks+1+1}) (I2.ok.hd hc) hr (small_one (by decide) (by decide) (by omega) (by omega)) hsz (by omega) λh' tk acc' c' hk hS' hacc=>?_
 have hn:H1 h2.objs.size=none:=I2.hok.fresh (Af _);refine⟨.ref h2.objs.size,upd H1 h2.objs.size (.lst (((AJ j).map (λ(i:Nat)=>(i:Int))).map V.int)),I2.laid (t':=tk) hk (Af _) ?_,rfl,q _ hn⟩;refine⟨by rw[Ab,Ab,CW,sizeLine_eq];omega,acc'.toList,c',?_,by simpa using hS'⟩;have aux:∀(us:List Value)(k:Nat),(∀(i:Nat)(v:Value),us[i]?=some v→∃t,v= .int ((k+i:Nat):Int) t)→Vals (((List.range' k us.length).map (λ(i:Nat)=>(i:Int))).map V.int) us:=by
  intro us
  induction us with
  | nil=>intro k _;exact .nil
  | cons v us ih=> intro k hv;rw[AB,List.range'_succ,Ax,Ax];obtain⟨t,e⟩:=hv 0 v rfl;refine .cons ⟨t,by rw[e];rfl⟩ (ih (k+1) λi w hw=>?_);obtain⟨t,e⟩:=hv (i+1) w (by simpa using hw);exact⟨t,by rw[e];congr 1;omega⟩
 have:=aux acc'.toList 0 (λi v hv=>by obtain⟨t,e⟩:=hacc.2 i v (by simpa using hv);exact⟨t,by rw[e];congr 1;omega⟩);rw[A6,hacc.1] at this;rw[List.range_eq_range'];exact this
end
end L2
namespace WB
theorem rise_nodup{l:List Int}(h:l.Pairwise (· < ·)):l.Nodup:=h.imp (λh=>by omega)
theorem cast_range_rise(n:Nat):((AJ n).map (λ(i:Nat)=>(i:Int))).Pairwise (· < ·):=by refine List.Pairwise.map (R:=(· < ·)) _ (λa b h=>?_) Ef;have:a<b:=h;show(a:Int)<(b:Int);omega
theorem nodup_len:∀(n:Nat)(l:List Int),l.Nodup→(∀x∈l,0≤x∧x<(n:Int))→l.length≤n
 | 0,l,_,h=>by
  cases l with
  | nil=>simp
  | cons x l=>have:=h x (Ai ..);omega
 | n+1,l,hn,h=>by
  by_cases hm:(n:Int)∈l
  · have h1:=nodup_len n (l.erase (n:Int)) (hn.erase _) (λx hx=>by
     rw[hn.mem_erase_iff] at hx;have:=h x hx.2;have h3:x≠(n:Int):=hx.1;omega)
    rw[Fn hm] at h1;omega
  · have:=nodup_len n l hn (λx hx=>by
     have h2:=h x hx;have:x≠(n:Int):=λz=>hm (z ▸ hx);omega)
    omega
theorem Path.cons{W l:List Int}{p q y:Int}(h:Path W l p q)(hy:Post W y)(ha:Adj W y p)(hm:y ∉ l):Path W (y::l) y q:=by
 cases l with
 | nil=>have:=h.first;simp at this
 | cons x l=>
  have:x=p:=by have:=h.first;simpa using this
  subst this;refine⟨rfl,?_,List.nodup_cons.mpr ⟨hm,h.nd⟩,λz hz=>?_,⟨ha,h.adj⟩⟩
  · rw[Fu];exact h.last
  · rcases An.mp hz with rfl | hz
    · exact hy
    · exact h.posts z hz
theorem Path.tail{W l:List Int}{p q y:Int}(h:Path W (p::y::l) p q):Path W (y::l) y q:=by refine⟨rfl,?_,(Bv.mp h.nd).2,λz hz=>h.posts z (Ag _ hz),h.adj.2⟩;have:=h.last;rw[Fu] at this;exact this
theorem ZD{W:List Int}(w:Web W){x y p:Int}(hx:Post W x)(hy:Post W y)(hp:Post W p)(ha:Adj W x y):
 (y∈wayB W x p∧wayB W x p=x::wayB W y p)∨(y ∉ wayB W x p∧wayB W y p=y::wayB W x p):=by
 have P:=way_path w hx hp;by_cases hm:y∈wayB W x p
 · left
   refine⟨hm,?_⟩;obtain⟨a,b,e⟩:=EI hm;have h1:=MR w (P.pre e);rw[Qa w hx hy ha] at h1;have e2:wayB W x p=x::y::b:=by
    have:a++y::b=(a++[y])++b:=by simp
    rw[e,this,h1];rfl
   rw[e2] at P ⊢;rw[MR w P.tail]
 · right
   exact⟨hm,(MR w (P.cons hy ha.symm hm)).symm⟩
theorem side_closed{W:List Int}(w:Web W){p q x y:Int}(hp:Post W p)(hq:Post W q)(hpq:Adj W p q)(hx:x∈sideL W p q)(hy:y∈roads W x)(hyp:y≠p):y∈sideL W p q:=by
 obtain⟨px,mx⟩:=side_mem.mp hx;obtain⟨py,ay⟩:=roads_adj w px hy;refine side_mem.mpr ⟨py,?_⟩;rcases ZD w px py hp ay with⟨m,e⟩ | ⟨m,e⟩
 · rw[e] at mx;rcases An.mp mx with h | h
   · subst h;rw[Qa w hq hp hpq.symm] at m;simp at m;rcases m with m | m
     · exact absurd m (Pz w px py ay)
     · exact absurd m hyp
   · exact h
 · rw[e];exact Ag _ mx
theorem side_self{W:List Int}(w:Web W){p q:Int}(hp:Post W p)(hq:Post W q)(hpq:Adj W p q):q∈sideL W p q:=by refine side_mem.mpr ⟨hq,?_⟩;obtain⟨t,e⟩:=way_first w hq hp;rw[e];exact Ai ..
theorem side_all{W:List Int}(w:Web W){p q:Int}(hp:Post W p)(hq:Post W q)(hpq:Adj W p q){F:List Int}(h0:q∈F)(hF:∀x∈F,∀y∈roads W x,y=p∨y∈F):∀x∈sideL W p q,x∈F:=by
 intro x hx;obtain⟨px,mx⟩:=side_mem.mp hx;have st:=(step_iff w hp px hq hpq).mp mx;have P:=way_path w hp px;obtain⟨b,e⟩:∃b,wayB W p x=p::q::b:=by
  have:=st.2
  match hh:wayB W p x,this with
  | [],h=>simp at h
  | [a],h=>simp at h
  | a::c::b,h=>simp at h;exact⟨b,by rw[h.1,h.2]⟩
 rw[e] at P;have PT:=P.tail;have np:∀z∈q::b,z≠p:=λz hz h=>(Bv.mp P.nd).1 (h ▸ hz);have all:∀(l:List Int)(q:Int),q∈F→Adjs W (q::l)→(∀z∈q::l,Post W z)→(∀z∈q::l,z≠p)→∀z∈q::l,z∈F:=by
  intro l
  induction l with
  | nil=>intro q hq _ _ _ z hz;rw[Am.mp hz];exact hq
  | cons y l ih=>
   intro q hq ha hposts hnp z hz;have hy:y∈F:=by
    have hyr:=adj_roads w (hposts q (Ai ..)) (hposts y (Ag _ (Ai ..))) ha.1;rcases hF q hq y hyr with h | h
    · exact absurd h (hnp y (Ag _ (Ai ..)))
    · exact h
   rcases An.mp hz with rfl | hz
   · exact hq
   · exact ih y hy ha.2 (λz hz=>hposts z (Ag _ hz)) (λz hz=>hnp z (Ag _ hz)) z hz
 have hl:=PT.last;exact all b q h0 PT.adj PT.posts np x (Ga hl)
end WB
namespace L2
open PySem.AutoSeq1 (wpAny_loadPart')
open PySem.MeetsSeq PySem.MeetsSeq2 PySem.MeetsSeq3 PySem.SeqRoads2
def KD(P:AY)(w:World)(A:BC)(s:Shared)(y x:Value):Prop:=∀(E:Value→Shared→Prop)(Q:Bool→Shared→Prop),Q true s→wpAny (model P w) A (eqBool y x) Q E s
theorem zhA(l b:Addr)(items items2:Array Value)(n n2:Nat)(dd dd2:Option Addr)(sl sl2:Array (Option Value))(hsz:items.size=items2.size)(k:Nat):
 ∀i:Nat,items.size - i=k→∀(A:BC)(R:Result→Shared→Prop)(s:Shared),s.heap.get? l=some {cls:= .type "list",dict:=dd,data:= .seq items n,slots:=sl}→s.heap.get? b=some {cls:= .type "list",dict:=dd2,data:= .seq items2 n2,slots:=sl2}→
  (∀j(h1:j<items.size)(h2:j<items2.size),KD P w A.in1 s items[j] items2[j])→R (.ok (.ret (.bool true))) s→
  wpAny (model P w) A.in1 (Builtin.«list.__eq__.loop» ⟨[.ref l,.ref b,rawInt i,rawInt 2],[]⟩) (λfin s'=>match fin with | .done f=>R (.ok f) s' | .again c'=>c'.quiet=true∧codeAny (model P w) A c' R s') (λe s'=>R (.error e) s') s:=by
 induction k with
 | zero=>
  intro i hk A R s hl hb he h;obtain⟨hp,g,d,tk,os⟩:=s
  wp_walk using A5 hl,A5 hb
  have o1:items[((i:Nat):Int).toNat]?=none:=by simp;omega
  have o2:items2[((i:Nat):Int).toNat]?=none:=by simp;omega
  rw[o1,o2]
  wp_walk using A5 hl,A5 hb
  show R (.ok (.ret (.bool (items.size==items2.size)))) _;rw[hsz];simpa using h
 | succ k ih=>
  intro i hk A R s hl hb he h;obtain⟨hp,g,d,tk,os⟩:=s
  wp_walk using A5 hl,A5 hb
  have lt1:i<items.size:=by omega
  have KN:i<items2.size:=by omega
  have o1:items[((i:Nat):Int).toNat]?=some items[i]:=by simp[lt1]
  have o2:items2[((i:Nat):Int).toNat]?=some items2[i]:=by simp[KN]
  have hc:((i:Int)+1)=((i+1:Nat):Int):=by push_cast;rfl
  rw[o1,o2];refine Aa (he i lt1 KN _ _ ?_)
  wp_walk
  rw[hc];exact⟨CQ plain_eq_loop _,BY entry_eq_loop (by rw[BE plain_eq_loop _];exact ih (i+1) (by omega) A R _ hl hb he h)⟩
theorem WE(l b:Addr)(items items2:Array Value)(n n2:Nat)(dd dd2:Option Addr)(sl sl2:Array (Option Value))(hsz:items.size=items2.size)(A:BC)(R:Result→Shared→Prop)(s:Shared)
 (hl:s.heap.get? l=some {cls:= .type "list",dict:=dd,data:= .seq items n,slots:=sl}) (hb:s.heap.get? b=some {cls:= .type "list",dict:=dd2,data:= .seq items2 n2,slots:=sl2})
 (he:∀j(h1:j<items.size)(h2:j<items2.size),KD P w A.in1 s items[j] items2[j]) (h:R (.ok (.ret (.bool true))) s):
 wpAny (model P w) A.in1 (Builtin.«list.__eq__» ⟨[.ref l,.ref b],[]⟩) (λfin s'=>match fin with | .done f=>R (.ok f) s' | .again c'=>c'.quiet=true∧codeAny (model P w) A c' R s') (λe s'=>R (.error e) s') s:=by
 obtain⟨hp,g,d,tk,os⟩:=s;have f3:=Ed;have hne:¬(items.size !=items2.size)=true:=by simp[hsz]
 wp_walk using A5 hl,A5 hb
 exact⟨CQ plain_eq_loop _,BY entry_eq_loop (by rw[BE plain_eq_loop _];exact zhA l b items items2 n n2 dd dd2 sl sl2 hsz _ 0 rfl A R _ hl hb he h)⟩
theorem Yc{l:Addr}{items items2:Array Value}{E:Value→Shared→Prop}{Q:Value→Shared→Prop}(hl:s.heap.IsList l items)(hb:s.heap.IsList b items2)(hsz:items.size=items2.size)(hu:A.units<cLine)
 (he:∀j(h1:j<items.size)(h2:j<items2.size),KD P w A.in1 s items[j] items2[j]) (h:Q (.bool true) s):wpAny (model P w) A (richCompare .Eq (.ref l) (.ref b)) Q E s:=by
 obtain⟨⟨c1,dd,data,sl⟩,ho,hc,n,hd⟩:=id hl;obtain⟨⟨c2,dd2,data2,sl2⟩,ho2,hc2,n2,hd2⟩:=id hb;simp only at hc hd hc2 hd2;subst hc hd hc2 hd2;refine Cn (op:= .Eq) ⟨_,ho,rfl⟩ ⟨_,ho2,rfl⟩ F.slot_list_eq ?_ hu;refine E_ (Dy F.slot_list_eq.plain F.entry_list_eq (F.slot_list_eq.check _ _ _ _ _ _ _ _ ⟨_,ho,rfl⟩ (F.args_list_eq_2 _ _) ?_));exact WE l b items items2 n n2 dd dd2 sl sl2 hsz A (wants (λv s'=>v≠ .notImplemented∧Q v s') E) s ho ho2 he (show Value.bool true≠Value.notImplemented∧Q (.bool true) s from⟨(λx=>nomatch x),h⟩)
open PySem PySem.Spec PyProof.Rows PySem.Calls
section
variable{κ:Type}[DecidableEq κ]{knd:KeyKind P w κ}
end
inductive DY where
 | non
 | bl (b:Bool)
 | int (i:Int)
 | str (x:Str)
 | lst (ds:List DY)
 | tup (ds:List DY)
 | dic
 | da (d:DY)
mutual
def RepY(H:Hp):DY→V→Prop
 | .non,v=>v= .non
 | .bl b,v=>v= .bl b
 | .int i,v=>v= .int i
 | .str x,v=>v= .str x∧x.length≤900
 | .lst ds,v=>∃a xs,v= .ref a∧H a=some (.lst xs)∧ds.length≤900∧RepYs H ds xs
 | .tup ds,v=>∃a xs,v= .ref a∧H a=some (.tup xs)∧ds.length≤900∧RepYs H ds xs
 | .dic,v=>∃a,v= .ref a∧H a=some (.dK [])
 | .da d,v=>∃a u,v= .ref a∧H a=some (.dK [(.inr "a",u)])∧RepY H d u
def RepYs(H:Hp):List DY→List V→Prop
 | [],xs=>xs=[]
 | d::ds,xs=>∃x r,xs=x::r∧RepY H d x∧RepYs H ds r
end
mutual
theorem RepY.same{H':Hp}(s:Same H H'):∀(d:DY){v:V},RepY H d v→RepY H' d v
 | .non,v,h=>by rw[RepY] at*;exact h
 | .bl b,v,h=>by rw[RepY] at*;exact h
 | .int i,v,h=>by rw[RepY] at*;exact h
 | .str x,v,h=>by rw[RepY] at*;exact h
 | .lst ds,v,h=>by rw[RepY] at*;obtain⟨a,xs,e,h1,h0,h2⟩:=h;exact⟨a,xs,e,s _ _ h1,h0,RepYs.same s ds h2⟩
 | .tup ds,v,h=>by rw[RepY] at*;obtain⟨a,xs,e,h1,h0,h2⟩:=h;exact⟨a,xs,e,s _ _ h1,h0,RepYs.same s ds h2⟩
 | .dic,v,h=>by rw[RepY] at*;obtain⟨a,e,h1⟩:=h;exact⟨a,e,s _ _ h1⟩
 | .da d,v,h=>by rw[RepY] at*;obtain⟨a,u,e,h1,h2⟩:=h;exact⟨a,u,e,s _ _ h1,RepY.same s d h2⟩
theorem RepYs.same{H':Hp}(s:Same H H'):∀(ds:List DY){xs:List V},RepYs H ds xs→RepYs H' ds xs
 | [],xs,h=>by rw[RepYs] at*;exact h
 | d::ds,xs,h=>by rw[RepYs] at*;obtain⟨x,r,e,h1,h2⟩:=h;exact⟨x,r,e,RepY.same s d h1,RepYs.same s ds h2⟩
end
theorem RepYs.length:∀{ds:List DY}{xs:List V},RepYs H ds xs→xs.length=ds.length
 | [],xs,h=>by rw[RepYs] at h;rw[h];rfl
 | d::ds,xs,h=>by rw[RepYs] at h;obtain⟨x,r,rfl,_,h⟩:=h;rw[AB,AB,RepYs.length h]
theorem RepYs.get:∀{ds:List DY}{xs:List V}{i:Nat}{x:V},RepYs H ds xs→xs[i]?=some x→∃d,ds[i]?=some d∧RepY H d x
 | [],xs,i,x,h,e=>by rw[RepYs] at h;subst h;simp at e
 | d::ds,xs,0,x,h,e=>by rw[RepYs] at h;obtain⟨y,r,rfl,h1,h2⟩:=h;simp at e;subst e;exact⟨d,rfl,h1⟩
 | d::ds,xs,i+1,x,h,e=>by rw[RepYs] at h;obtain⟨y,r,rfl,h1,h2⟩:=h;simp at e;obtain⟨d',e1,e2⟩:=RepYs.get h2 e;exact⟨d',by simpa using e1,e2⟩
mutual
def Jf:DY→Nat
 | .lst ds=>Kd ds+1
 | .tup ds=>Kd ds+1
 | .da d=>Jf d+1
 | _=>0
def Kd:List DY→Nat
 | []=>0
 | d::ds=>max (Jf d) (Kd ds)
end
theorem VX:Kp X (.builtin "isinstance") (λxs H Q=>∃x t tp cs b,xs=[x,.ref tp]∧TyOf X.K H x (.type t)∧H tp=some (.tup cs)∧cs.all Pu=true∧PySem.W.kitAny X.K (.type t) (cs.map LN)=some b∧Q (.bl b) H):=by
 intro pins s σ H xs us Q I r h;obtain⟨x,t,tp,cs,b,rfl,ty,ht,hc,e,q⟩:=h;obtain⟨u,w',rfl,ru,rw'⟩:=Ni r;cases(show w'=Value.ref tp from rw');obtain⟨_,its,rv,o,h1,h2,h3,n,h4⟩:=(show ObjOk X.prog X.w H s.heap tp (.tup cs) from I.hok tp _ ht);obtain⟨oc,od,oda,osl⟩:=o;dsimp only at h2 h3 h4;subst h2 h3 h4;have hi:its=cs.map LN:=Vo hc rv;subst hi;have fin:∀tk,EP X pins σ Q (.bool b) {s with toks:=tk}:=λtk=>⟨.bl b,H,I.tok tk,rfl,q⟩
 generalize ht':(Value.type t)=T at ty e;cases ty with
 | non=>cases(show u=Value.none from ru);exact BZ PySem.W.kitx_none I.kIn True.intro h1 e (λz=>nomatch z) fin
 | bl y=>cases(show u=Value.bool y from ru);exact BZ PySem.W.kitx_bool I.kIn True.intro h1 e (λz=>nomatch z) fin
 | int i=>obtain⟨t,q⟩:=(show ∃t,u=Value.int i t from ru);cases q;exact BZ PySem.W.kitx_int I.kIn True.intro h1 e (λz=>nomatch z) fin
 | str y=>obtain⟨t,q⟩:=(show ∃t,u=Value.str y t from ru);cases q;exact BZ PySem.W.kitx_str I.kIn True.intro h1 e (λz=>nomatch z) fin
 | flt y=>obtain⟨t,q⟩:=(show ∃t,u=Value.float y t from ru);cases q;exact BZ PySem.W.kitx_float I.kIn True.intro h1 e (λz=>nomatch z) fin
 | @lst a xs ea=> cases(show u=Value.ref a from ru);obtain⟨_,_,n,_,g1⟩:=(show ObjOk X.prog X.w H s.heap a (.lst xs) from I.hok a _ ea);exact BZ DT I.kIn ⟨_,g1,rfl⟩ h1 e (λz=>nomatch z) fin
 | @tup a xs ea=> cases(show u=Value.ref a from ru);obtain⟨_,_,_,o,g1,g2,_⟩:=(show ObjOk X.prog X.w H s.heap a (.tup xs) from I.hok a _ ea);exact BZ PySem.W.kitx_tuple I.kIn ⟨o,g1,g2⟩ h1 e (λz=>nomatch z) fin
 | @dK a kvs ea=> cases(show u=Value.ref a from ru);obtain⟨_,_,vs,_,p⟩:=(show ObjOk X.prog X.w H s.heap a (.dK kvs) from I.hok a _ ea);obtain⟨o,es,ep,g1,g2,_⟩:=p;exact BZ DU I.kIn ⟨o,g1,g2.1⟩ h1 e (λz=>nomatch z) fin
 | @frz a ob xs ea=> cases(show u=Value.ref a from ru);obtain⟨_,_,_,n,_,g1⟩:=(show ObjOk X.prog X.w H s.heap a (.frz ob (.lst xs)) from I.hok a _ ea);exact BZ DT I.kIn ⟨_,g1,rfl⟩ h1 e (λz=>nomatch z) fin
 | @dT a kvs ea=> cases(show u=Value.ref a from ru);obtain⟨_,_,xs,_,o,es,ep,g1,g2,_⟩:=(show ObjOk X.prog X.w H s.heap a (.dT kvs) from I.hok a _ ea);exact BZ DU I.kIn ⟨o,g1,g2.1⟩ h1 e (λz=>nomatch z) fin
 | ins=>cases ht'
def nw(H H':Hp):Hp:=λa=>match H a with | none=>H' a | some _=>none
def P9(D:Nat)(sp:Nat→Sp):Sp:=λvs H Q E=>∃n,n≤D∧sp n vs H Q E
section
variable{K:Ad}{mg:Str→Option Value}{base:Heap}
def Xb:Sp:=λ_ _ _ _=>False
theorem SS{st:Stmt}{f:Addr}{fd:Bw}{N ps:List Str}(F:Fun K x x st f fd)(S:FnScope N ps (Iu st))(b:Binds K fd ps [])(M:mg x=some (.ref f))(L:Nat)(sp:Nat→Sp)
 (step:∀n sp0,(∀m,n=m+1→sp0=sp m)→IH P w K mg base (L+1+n) x ps sp0→FnOk P w K mg base IC (L+1+n+1) f fd ps (sp n)):∀n,FnOk P w K mg base IC (L+1+n+1) f fd ps (sp n)
 | 0=>step 0 Xb (λm z=>by cases z) ⟨f,fd,F.ok (k:=L) S (λ_ _ _ _ h=>h.elim) (λ_ _ _ _ _ _ _ _ _ h=>h.elim),b,F.kp,M⟩
 | n+1=>step (n+1) (sp n) (λm z=>by cases z;rfl) ⟨f,fd,SS F S b M L sp step n,b,F.kp,M⟩
theorem Yn{f:Addr}{fd:Bw}{ps:List Str}{L D:Nat}{sp:Nat→Sp}(h:∀n,FnOk P w K mg base IC (L+1+n+1) f fd ps (sp n)):FnOk P w K mg base IC (L+D+2) f fd ps (P9 D sp):=
 ⟨λvs H Q E ⟨n,_,q⟩=>(h n).len vs H Q E q,λA outer s H args us vs Q E hr he hb hv ⟨n,hn,q⟩=>(h n).run A outer s H args us vs Q E (hr.mono (by omega)) he hb hv q⟩
end
def NX(K:Ad):R2:=λx y H Q=>∃p xs i v,x= .ref p∧y= .int i∧(SqL K H p xs∨SqT K H p xs)∧Jp xs i=some v∧Q v H
theorem WF:Mj X (NX X.K):=by
 intro value slice pins s σ H x y v u Q I rx ry h hs;obtain⟨p,xs,i,z,rfl,rfl,hq,he,q⟩:=h;rcases hq with hq | hq
 · exact IV value slice pins s σ H _ _ v u Q I rx ry ⟨p,xs,i,z,rfl,rfl,hq,he,q⟩ hs
 · exact Kk value slice pins s σ H _ _ v u Q I rx ry ⟨p,xs,i,z,rfl,rfl,hq,he,q⟩ hs
theorem Tv(K:Ad)(h:X.K=K):Mj X (NX K):=by subst h;exact WF
def eD:Option Int→DY
 | none=> .non
 | some i=> .int i
theorem Uj(H:Hp)(o:Option Int):RepY H (eD o) (eV o):=by
 cases o with
 | none=>show RepY H .non .non;rw[RepY]
 | some i=>show RepY H (.int i) (.int i);rw[RepY]
theorem YU(o:Option Int):Jf (eD o)=0:=by cases o<;>rfl
theorem RepYs.nil:RepYs H [] []:=by rw[RepYs]
theorem RepYs.cons{d:DY}{ds:List DY}{x:V}(h:RepY H d x)(hs:RepYs H ds xs):RepYs H (d::ds) (x::xs):=by rw[RepYs];exact⟨x,xs,rfl,h,hs⟩
theorem Qc{ds:List DY}(h:H a=some (.lst xs))(hs:RepYs H ds xs)(hl:xs.length≤900):RepY H (.lst ds) (.ref a):=by rw[RepY];exact⟨a,xs,rfl,h,by rw[←hs.length];exact hl,hs⟩
theorem M2{ds:List DY}(h:H a=some (.tup xs))(hs:RepYs H ds xs)(hl:xs.length≤900):RepY H (.tup ds) (.ref a):=by rw[RepY];exact⟨a,xs,rfl,h,by rw[←hs.length];exact hl,hs⟩
theorem LA:∀{ds:List DY}{m:Nat},(∀d∈ds,Jf d≤m)→Kd ds≤m
 | [],m,_=>by rw[Kd];exact AI _
 | d::ds,m,h=>by rw[Kd];have h1:=h d (Ai ..);have h2:=LA λe he=>h e (Ag _ he);omega
theorem QK:∀{ds:List DY}{d:DY},d∈ds→Jf d≤Kd ds
 | [],d,h=>nomatch h
 | e::ds,d,h=>by
  rw[Kd];rcases An.mp h with rfl | h
  · omega
  · have:=QK h;omega
theorem SF{a b:Option Int}(h:eV a=eV b):a=b:=by cases a<;>cases b<;>simp[eV] at h ⊢;exact h
theorem UW:∀ps qs:List (Addr×WP),(∀p∈ps,H p.1=some (.tup [.str p.2.1,eV p.2.2.1,eV p.2.2.2]))→(∀p∈qs,H p.1=some (.tup [.str p.2.1,eV p.2.2.1,eV p.2.2.2]))→(ps.map λp=>V.ref p.1)=(qs.map λp=>V.ref p.1)→ps.map (·.2)=qs.map (·.2)
 | [],[],_,_,_=>rfl
 | [],_::_,_,_,h=>by simp at h
 | _::_,[],_,_,h=>by simp at h
 | p::ps,q::qs,h1,h2,h=>by
  rw[Ax,Ax,DA] at h;have e1:p.1=q.1:=by injection h.1
  have a1:=h1 p Ai;have a2:=h2 q Ai;rw[e1,a2] at a1;have e2:p.2=q.2:=by obtain⟨_,f,lo,hi⟩:=p;obtain⟨_,f',lo',hi'⟩:=q;simp only[Option.some.injEq,HO.tup.injEq,DA,V.str.injEq,and_true] at a1;obtain⟨z1,z2,z3⟩:=a1;rw[z1,SF z2,SF z3]
  rw[Ax,Ax,e2,UW ps qs (λx hx=>h1 x (Ag _ hx)) (λx hx=>h2 x (Ag _ hx)) h.2]
theorem WishAt.inj{w w':List WP}(h:WishAt H a w)(h':WishAt H a w'):w=w':=by obtain⟨ps,rfl,e,f⟩:=h;obtain⟨qs,rfl,e',f'⟩:=h';rw[e] at e';simp only[Option.some.injEq,HO.tup.injEq] at e';exact UW ps qs f f' e'
theorem Lw{t u:TS}{D:Ends}(M:St→Hp→Prop)(h1:∀Z:St→Hp→Prop,(∀σ' H',M σ' H'→Z σ' H')→t {D with nx:=Z} σ H)(h2:∀σ' H',M σ' H'→u D σ' H'):K7 t u D σ H:=h1 (u D) h2
theorem WishAt.tyN{w:List WP}(h:WishAt H a w):∃xs,H a=some (.tup xs)∧xs.length=w.length:=by obtain⟨ps,rfl,e,_⟩:=h;exact⟨_,e,by simp⟩
structure WsAt(H:Hp)(l:Addr)(ws:List (Addr×List WP)):Prop where
 at':H l=some (.lst (ws.map λx=>V.ref x.1))
 ok:∀x∈ws,WishAt H x.1 x.2∧WOk x.2
 len:ws.length≤800
theorem WsAt.same{H':Hp}{l:Addr}{ws:List (Addr×List WP)}(h:WsAt H l ws)(s:Same H H'):WsAt H' l ws:=⟨s _ _ h.at',λx hx=>⟨(h.ok x hx).1.same s,(h.ok x hx).2⟩,h.len⟩
def TK:Sp:=λvs H Q _=>∃(l:Addr)(ws:List (Addr×List WP)),vs=[.ref l]∧WsAt H l ws∧∀H',Same H H'→Q (.bl true) H'
def O6(w w':List WP):Bool:=Jy Li (w.map ky) (w'.map ky)
def Ll(p:WP):DY:= .tup [.str p.1,eD p.2.1,eD p.2.2]
def KP(w:List WP):DY:= .tup (w.map Ll)
theorem VQ:∀ps:List (Addr×WP),(∀p∈ps,H p.1=some (.tup [.str p.2.1,eV p.2.2.1,eV p.2.2.2]))→(∀p∈ps,p.2.1.length≤8)→RepYs H ((ps.map (·.2)).map Ll) (ps.map λp=>V.ref p.1)
 | [],_,_=>RepYs.nil
 | p::ps,h,hl=>by refine RepYs.cons ?_ (VQ ps (λx hx=>h x (Ag _ hx)) λx hx=>hl x (Ag _ hx));refine M2 (h p Ai) (RepYs.cons ?_ (RepYs.cons (Uj H _) (RepYs.cons (Uj H _) RepYs.nil))) (by simp);rw[RepY];exact⟨rfl,A4 (hl p Ai) (by decide)⟩
theorem ZS{w:List WP}(h:WishAt H a w)(ok:WOk w):RepY H (KP w) (.ref a):=by obtain⟨ps,rfl,e,f⟩:=h;refine M2 e (VQ ps f λp hp=>?_) (by have:=ok.len;rw[Ab] at*;omega);exact(ok.ok p.2 (AF hp)).1.eight
theorem Wb:∀ws:List (Addr×List WP),(∀x∈ws,WishAt H x.1 x.2∧WOk x.2)→RepYs H ((ws.map (·.2)).map KP) (ws.map λp=>V.ref p.1)
 | [],_=>RepYs.nil
 | x::ws,h=>RepYs.cons (ZS (h x Ai).1 (h x Ai).2) (Wb ws λy hy=>h y (Ag _ hy))
theorem WsAt.repY{l:Addr}{ws:List (Addr×List WP)}(h:WsAt H l ws):RepY H (.lst ((ws.map (·.2)).map KP)) (.ref l):=
 Qc h.at' (Wb ws h.ok) (by have:=h.len;rw[Ab];omega)
theorem Z4(w:List WP):Jf (KP w)≤2:=by
 unfold KP;rw[Jf];have:Kd (w.map Ll)≤1:=LA λd hd=>by obtain⟨p,_,rfl⟩:=Az.mp hd;unfold Ll;simp only[Jf,Kd,YU];omega
 omega
theorem zi2(ws:List (List WP)):Jf (.lst (ws.map KP))≤3:=by
 rw[Jf];have:Kd (ws.map KP)≤2:=LA λd hd=>by obtain⟨p,_,rfl⟩:=Az.mp hd;exact Z4 p
 omega
open PySem.AutoSeq1 (wpAny_loadPart')
open PySem.MeetsSeq PySem.MeetsSeq2 PySem.MeetsSeq3 PySem.SeqRoads2 PySem.Calls
theorem zhs(l b:Addr)(items items2:Array Value)(n n2:Nat)(dd dd2:Option Addr)(sl sl2:Array (Option Value))(hsz:items.size=items2.size)(k:Nat):
 ∀i:Nat,items.size - i=k→∀(A:BC)(R:Result→Shared→Prop)(s:Shared),s.heap.get? l=some {cls:= .type "list",dict:=dd,data:= .seq items n,slots:=sl}→s.heap.get? b=some {cls:= .type "list",dict:=dd2,data:= .seq items2 n2,slots:=sl2}→
  (∀j(h1:j<items.size)(h2:j<items2.size),KD P w A.in1 s items[j] items2[j])→R (.ok (.ret (.bool false))) s→
  wpAny (model P w) A.in1 (Builtin.«list.__eq__.loop» ⟨[.ref l,.ref b,rawInt i,rawInt 3],[]⟩) (λfin s'=>match fin with | .done f=>R (.ok f) s' | .again c'=>c'.quiet=true∧codeAny (model P w) A c' R s') (λe s'=>R (.error e) s') s:=by
 induction k with
 | zero=>
  intro i hk A R s hl hb he h;obtain⟨hp,g,d,tk,os⟩:=s
  wp_walk using A5 hl,A5 hb
  have o1:items[((i:Nat):Int).toNat]?=none:=by simp;omega
  have o2:items2[((i:Nat):Int).toNat]?=none:=by simp;omega
  rw[o1,o2]
  wp_walk using A5 hl,A5 hb
  show R (.ok (.ret (.bool (items.size !=items2.size)))) _;rw[hsz];simpa using h
 | succ k ih=>
  intro i hk A R s hl hb he h;obtain⟨hp,g,d,tk,os⟩:=s
  wp_walk using A5 hl,A5 hb
  have lt1:i<items.size:=by omega
  have KN:i<items2.size:=by omega
  have o1:items[((i:Nat):Int).toNat]?=some items[i]:=by simp[lt1]
  have o2:items2[((i:Nat):Int).toNat]?=some items2[i]:=by simp[KN]
  have hc:((i:Int)+1)=((i+1:Nat):Int):=by push_cast;rfl
  rw[o1,o2];refine Aa (he i lt1 KN _ _ ?_)
  wp_walk
  rw[hc];exact⟨CQ plain_eq_loop _,BY entry_eq_loop (by rw[BE plain_eq_loop _];exact ih (i+1) (by omega) A R _ hl hb he h)⟩
theorem XV(l b:Addr)(items items2:Array Value)(n n2:Nat)(dd dd2:Option Addr)(sl sl2:Array (Option Value))(hsz:items.size=items2.size)(A:BC)(R:Result→Shared→Prop)(s:Shared)
 (hl:s.heap.get? l=some {cls:= .type "list",dict:=dd,data:= .seq items n,slots:=sl}) (hb:s.heap.get? b=some {cls:= .type "list",dict:=dd2,data:= .seq items2 n2,slots:=sl2})
 (he:∀j(h1:j<items.size)(h2:j<items2.size),KD P w A.in1 s items[j] items2[j]) (h:R (.ok (.ret (.bool false))) s):
 wpAny (model P w) A.in1 (Builtin.«list.__ne__» ⟨[.ref l,.ref b],[]⟩) (λfin s'=>match fin with | .done f=>R (.ok f) s' | .again c'=>c'.quiet=true∧codeAny (model P w) A c' R s') (λe s'=>R (.error e) s') s:=by
 obtain⟨hp,g,d,tk,os⟩:=s;have f3:=Ed;have hne:¬(items.size !=items2.size)=true:=by simp[hsz]
 wp_walk using A5 hl,A5 hb
 exact⟨CQ plain_eq_loop _,BY entry_eq_loop (by rw[BE plain_eq_loop _];exact zhs l b items items2 n n2 dd dd2 sl sl2 hsz _ 0 rfl A R _ hl hb he h)⟩
theorem Yf{l:Addr}{items items2:Array Value}{E:Value→Shared→Prop}{Q:Value→Shared→Prop}(hl:s.heap.IsList l items)(hb:s.heap.IsList b items2)(hsz:items.size=items2.size)(hu:A.units<cLine)
 (he:∀j(h1:j<items.size)(h2:j<items2.size),KD P w A.in1 s items[j] items2[j]) (h:Q (.bool false) s):wpAny (model P w) A (richCompare .NotEq (.ref l) (.ref b)) Q E s:=by
 obtain⟨⟨c1,dd,data,sl⟩,ho,hc,n,hd⟩:=id hl;obtain⟨⟨c2,dd2,data2,sl2⟩,ho2,hc2,n2,hd2⟩:=id hb;simp only at hc hd hc2 hd2;subst hc hd hc2 hd2;refine Cn (op:= .NotEq) ⟨_,ho,rfl⟩ ⟨_,ho2,rfl⟩ F.slot_list_ne ?_ hu;refine E_ (Dy F.slot_list_ne.plain F.entry_list_ne (F.slot_list_ne.check _ _ _ _ _ _ _ _ ⟨_,ho,rfl⟩ (F.args_list_ne_2 _ _) ?_));exact XV l b items items2 n n2 dd dd2 sl sl2 hsz A (wants (λv s'=>v≠ .notImplemented∧Q v s') E) s ho ho2 he (show Value.bool false≠Value.notImplemented∧Q (.bool false) s from⟨(λx=>nomatch x),h⟩)
section
variable{κ:Type}[DecidableEq κ]{knd:KeyKind P w κ}
end
def R5:R2:=λx y H Q=>∃a b xs,x= .ref a∧y= .ref b∧H a=some (.lst xs)∧H b=some (.lst [])∧Q (.bl xs.isEmpty) H
def R3:R2:=λx y H Q=>∃a b xs,x= .ref a∧y= .ref b∧H a=some (.lst xs)∧H b=some (.lst [])∧Q (.bl (!xs.isEmpty)) H
theorem X3(hr:Ke X):IY X (A_ .Eq) R5:=by
 intro pins s σ H x y v u Q I rx ry h;obtain⟨a,b,xs,rfl,rfl,ha,hb,q⟩:=h;cases(show v=Value.ref a from rx);cases(show u=Value.ref b from ry);unfold Ke at hr;obtain⟨_,its,n,rv,hg⟩:=(show ObjOk X.prog X.w H s.heap a (.lst xs) from I.hok a _ ha);obtain⟨_,its',n',rv',hg'⟩:=(show ObjOk X.prog X.w H s.heap b (.lst []) from I.hok b _ hb);cases rv';cases xs with
 | nil=> cases rv;exact Yc ⟨_,hg,rfl,_,rfl⟩ ⟨_,hg',rfl,_,rfl⟩ rfl (by omega) (λj k1 k2=>absurd k1 (by simp)) ⟨.bl true,H,I,rfl,q⟩
 | cons x xs=> have l:=rv.length;exact Fj (l:=a) (b:=b) ⟨_,hg,rfl,_,rfl⟩ ⟨_,hg',rfl,_,rfl⟩ (by simp;intro z;rw[z] at l;simp at l) (by omega) X.prog X.w _ _ ⟨.bl false,H,I,rfl,q⟩
theorem X5(hr:Ke X):IY X (A_ .NotEq) R3:=by
 intro pins s σ H x y v u Q I rx ry h;obtain⟨a,b,xs,rfl,rfl,ha,hb,q⟩:=h;cases(show v=Value.ref a from rx);cases(show u=Value.ref b from ry);unfold Ke at hr;obtain⟨_,its,n,rv,hg⟩:=(show ObjOk X.prog X.w H s.heap a (.lst xs) from I.hok a _ ha);obtain⟨_,its',n',rv',hg'⟩:=(show ObjOk X.prog X.w H s.heap b (.lst []) from I.hok b _ hb);cases rv';cases xs with
 | nil=> cases rv;exact Yf ⟨_,hg,rfl,_,rfl⟩ ⟨_,hg',rfl,_,rfl⟩ rfl (by omega) (λj k1 k2=>absurd k1 (by simp)) ⟨.bl false,H,I,rfl,q⟩
 | cons x xs=> have l:=rv.length;exact EN (l:=a) (b:=b) ⟨_,hg,rfl,_,rfl⟩ ⟨_,hg',rfl,_,rfl⟩ (by simp;intro z;rw[z] at l;simp at l) (by omega) X.prog X.w _ _ ⟨.bl true,H,I,rfl,q⟩
theorem YK{v:V}{u:TS}{D:Ends}(h:u D (σ.set i (some v)) H):K7 (K8 (tC v) (Kx i)) u D σ H:=h
theorem P3:AW "abs"=some (.builtin "abs"):=by decide+kernel
abbrev wM:Int:=2147483563
structure Well(H:Hp)(b g l:Addr)(n:Int):Prop where
 ex:∃(gs ls:List Int)(sd c:Int),H b=some (.lst [.ref g,.ref l,.int sd,.int c])∧H g=some (.lst (gs.map V.int))∧H l=some (.lst (ls.map V.int))∧
  gs.length≤63∧ls.length≤63∧(∀x∈ls,0≤x∧x<wM)∧0≤sd∧sd<wM∧0≤c∧c≤n
 gl:g≠l
 bg:b≠g
 bl:b≠l
theorem Well.mono{g l:Addr}{n m:Int}(B:Well H b g l n)(h:n≤m):Well H b g l m:=by obtain⟨⟨gs,ls,sd,c,h1,h2,h3,h4,h5,h6,h7,h8,h9,h10⟩,gl,bg,bl⟩:=B;exact⟨⟨gs,ls,sd,c,h1,h2,h3,h4,h5,h6,h7,h8,h9,Int.le_trans h10 h⟩,gl,bg,bl⟩
theorem Well.same{H':Hp}{g l:Addr}{n:Int}(B:Well H b g l n)(h:Same H H'):Well H' b g l n:=by obtain⟨⟨gs,ls,sd,c,h1,h2,h3,h4⟩,gl,bg,bl⟩:=B;exact⟨⟨gs,ls,sd,c,h _ _ h1,h _ _ h2,h _ _ h3,h4⟩,gl,bg,bl⟩
theorem Well.tup{g l:Addr}{n:Int}{H':Hp}(B:Well H b g l n)(s:SameB b g H H')(h:H a=some (.tup xs)):H' a=some (.tup xs):=by obtain⟨gs,ls,c,st,h1,h2,_⟩:=B.ex;exact s a _ h (Nl h h1 (by intro z;cases z)) (Nl h h2 (by intro z;cases z))
theorem Well.free{g l:Addr}{n:Int}(B:Well H b g l n){p:Addr}(h:H p=none):p≠b∧p≠g∧p≠l:=by obtain⟨gs,ls,c,st,h1,h2,h3,_⟩:=B.ex;exact⟨(J2 h1 h).symm,(J2 h2 h).symm,(J2 h3 h).symm⟩
theorem Well.trk{g l:Addr}{n:Int}(B:Well H b g l n):H b≠none∧H g≠none:=by
 obtain⟨gs,ls,c,st,h1,h2,_⟩:=B.ex;refine⟨?_,?_⟩
 · rw[h1];exact Gm _
 · rw[h2];exact Gm _
theorem Well.back{H':Hp}{g l:Addr}{n:Int}(B:Well H' b g l n)(s:SameB b g H H'):∀a,H' a=Option.none→H a=Option.none:=λa h=>by
 cases e:H a with
 | none=>rfl
 | some o=> have h1:a≠b:=λz=>B.trk.1 (z ▸ h);have h2:a≠g:=λz=>B.trk.2 (z ▸ h);rw[s a o e h1 h2] at h;cases h
theorem Well.off{g l p:Addr}{n:Int}{o:HO}(B:Well H b g l n)(pb:p≠b)(pg:p≠g)(pl:p≠l):Well (upd H p o) b g l n:=by obtain⟨gs,ls,c,st,e1,e2,e3,r⟩:=B.ex;exact⟨⟨gs,ls,c,st,by rw[Iy pb.symm];exact e1,by rw[Iy pg.symm];exact e2,by rw[Iy pl.symm];exact e3,r⟩,B.gl,B.bg,B.bl⟩
theorem WishAt.sameW{H':Hp}{g l:Addr}{n:Int}{w:List WP}(h:WishAt H a w)(B:Well H b g l n)(s:SameB b g H H'):WishAt H' a w:=h.keep λ_ _ e=>B.tup s e
theorem WsAt.sameW{H':Hp}{g m:Addr}{n:Int}{l:Addr}{ws:List (Addr×List WP)}(h:WsAt H l ws)(B:Well H b g m n)(lb:l≠b)(lg:l≠g)(s:SameB b g H H'):WsAt H' l ws:=⟨s _ _ h.at' lb lg,λx hx=>⟨(h.ok x hx).1.sameW B s,(h.ok x hx).2⟩,h.len⟩
theorem Ki{m:Int}(h:m≤10^6):m<2^500:=Int.lt_of_le_of_lt h (by decide)
def Ti(K:Ad):Sp:=λvs H Q _=>∃(a:Addr)(ns:List Int),vs=[.ref a]∧SqL K H a (ns.map V.int)∧ns.length≤63∧
 ∀(b g l:Addr)(H':Hp),Well H' b g l 0→Same H H'→H b=none→H g=none→Q (.ref b) H'
def Te:Sp:=λvs H Q _=>∃(b g l:Addr)(n many:Int),vs=[.ref b,.int many]∧Well H b g l n∧n≤2^40∧0<many∧many<2^500∧
 ∀(r:Int)(H':Hp),0≤r→r<many→Well H' b g l (n+1)→SameB b g H H'→Q (.int r) H'
def Ta:Sp:=λvs H Q _=>∃(b g l:Addr)(n most:Int),vs=[.ref b,.int most]∧Well H b g l n∧n≤10^8∧1≤most∧most≤8∧
 ∀(x:Str)(H':Hp),FieldOk x→Well H' b g l (n+12)→SameB b g H H'→Q (.str x) H'
def SX:Sp:=λvs H Q _=>∃(b g l:Addr)(n:Int),vs=[.ref b]∧Well H b g l n∧n≤10^9∧∀(r:Int)(H':Hp), -(10^15)<r→r<10^15→Well H' b g l (n+5)→SameB b g H H'→Q (.int r) H'
def SY:Sp:=λvs H Q _=>∃(b g l:Addr)(n:Int),vs=[.ref b]∧Well H b g l n∧n≤10^8∧
 ∀(t:Addr)(lo sz:Int)(H':Hp),H' t=some (.tup [.int lo,.int sz])→ -(10^15)<lo→lo<10^15→1≤sz→sz≤10^10→Well H' b g l (n+12)→SameB b g H H'→Q (.ref t) H'
def TU:Sp:=λvs H Q _=>∃(b g l t:Addr)(n lo sz wide:Int),vs=[.ref b,.ref t,.int wide]∧Well H b g l n∧n≤10^8∧H t=some (.tup [.int lo,.int sz])∧1≤sz∧sz≤10^10∧1≤wide∧wide≤100∧
 ∀(r:Addr)(a b':Option Int)(H':Hp),H' r=some (.tup [eV a,eV b'])→LJ a b'=true→Well H' b g l (n+3)→SameB b g H H'→Q (.ref r) H'
def Nc(fs:List Str)(w:List WP):Prop:=∀p∈w,p.1∈fs
structure NamesAt(H:Hp)(b g:Addr)(a:Addr)(fs:List Str):Prop where
 at':H a=some (.lst (fs.map V.str))
 nb:a≠b
 ng:a≠g
 len:fs.length≤6
 ok:∀f∈fs,FieldOk f
 asc:fs.Pairwise JP
theorem NamesAt.sameB{H':Hp}{g:Addr}{fs:List Str}(h:NamesAt H b g a fs)(s:SameB b g H H'):NamesAt H' b g a fs:=⟨s _ _ h.at' h.nb h.ng,h.nb,h.ng,h.len,h.ok,h.asc⟩
def TX:Sp:=λvs H Q _=>∃(b g l a t:Addr)(n lo sz wide:Int)(fs:List Str),vs=[.ref b,.ref a,.ref t,.int wide]∧Well H b g l n∧n≤10^7∧NamesAt H b g a fs∧H t=some (.tup [.int lo,.int sz])∧1≤sz∧sz≤10^10∧1≤wide∧wide≤100∧
 ∀(r:Addr)(w:List WP)(H':Hp),WishAt H' r w→WOk w→Nc fs w→w.length≤6→Well H' b g l (n+30)→SameB b g H H'→Q (.ref r) H'
def Yb:V→Option Int→Option Int→Hp→VK→Prop:=λx lo hi H Q=>∃y:Str,x= .str y∧y.length≤100000∧∀z:Str,z.length≤y.length→(∀j,hi=some j→0≤j→(z.length:Int)≤j)→(∀c∈z.cps.toList,c∈y.cps.toList)→(∀j,lo=none→hi=some j→1≤j→1≤y.length→1≤z.length)→Q (.str z) H
theorem ziK(lo hi:Option Int)(n:Nat):(AR lo hi 1 n).length≤n∧(∀j,hi=some j→0≤j→((AR lo hi 1 n).length:Int)≤j)∧(∀j,lo=none→hi=some j→1≤j→1≤n→0∈AR lo hi 1 n):=by
 refine⟨indices_len_le lo hi n,λj e h0=>?_,λj e1 e2 h1 h2=>?_⟩
 · subst e;unfold AR sliceRange;cases lo<;>simp only[show(1:Int)>0 by decide,if_true,Ab,CW]<;>(split<;>(try split)<;>(try split)<;>(try simp only[Int.ediv_one])<;>omega)
 · subst e1 e2;unfold AR sliceRange;simp only[show(1:Int)>0 by decide,if_true];refine List.mem_map.mpr ⟨0,AQ.mpr ?_,?_⟩
   · have:¬j<0:=by omega
     simp only[this,if_false,Int.ediv_one]
     split<;>omega
   · simp
theorem PZ:Nh X Yb:=by
 intro pins s σ H x v vl vu lo hi sl Q I rx hs pl pu h;obtain⟨y,rfl,hl,q⟩:=h;obtain⟨t,rfl⟩:=(show ∃t,v=Value.str y t from rx);obtain⟨l,el,e1⟩:∃l:Option (Int×Tok),vl=partValue l∧l.map (·.1)=lo:=by
  cases pl with
  | none=>exact⟨none,rfl,rfl⟩
  | int i t=>exact⟨some (i,t),rfl,rfl⟩
 obtain⟨u,eu,e2⟩:∃l:Option (Int×Tok),vu=partValue l∧l.map (·.1)=hi:=by
  cases pu with
  | none=>exact⟨none,rfl,rfl⟩
  | int i t=>exact⟨some (i,t),rfl,rfl⟩
 have hS:s.heap.IsSlice sl l u none:=by obtain⟨o,h1,h2,h3⟩:=hs;exact⟨o,h1,h2,by rw[h3,el,eu];rfl⟩
 have pk:slicePicked y l u none=AR lo hi 1 y.length:=by unfold slicePicked;rw[e1,e2];rfl
 obtain⟨p1,p2,p3⟩:=ziK lo hi y.length;have hsz:(100000:Nat)≤A1:=by decide
 refine⟨"str",_,F.slot_str_getitem.lookup,typeIs_str s y t,?_⟩;refine getItem_meets (typeIs_str s y t) (by decide) F.slot_str_getitem F.entry_str_getitem (F.args_str_getitem_2 _ _) (meets_str_getitem_slice y t sl l u none rfl) ⟨hS,?_⟩;unfold sliceMade;rw[pk]
 split
 · rename_i hc;have hc:(AR lo hi 1 y.length).length=y.length:=by simpa using hc
   exact⟨.str y,H,I,⟨t,rfl⟩,q y (Af _) (λj e h0=>by have:=p2 j e h0;omega) (λc hc=>hc) λ_ _ _ _ z=>z⟩
 · have hz:(⟨((AR lo hi 1 y.length).filterMap (y.cps[·]?)).toArray⟩:Str).length≤(AR lo hi 1 y.length).length:=by
    show(List.filterMap _ _).toArray.size≤_;rw[As];exact List.length_filterMap_le _ _
   refine⟨by omega,⟨.str _,H,I.tok _,⟨_,rfl⟩,q _ (by omega) (λj e h0=>by have:=p2 j e h0;omega) (λc hc=>?_) λj f1 f2 f3 f4=>?_⟩⟩
   · have hc:c∈(AR lo hi 1 y.length).filterMap (y.cps[·]?):=by simpa using hc
     obtain⟨i,_,hi'⟩:=Dg.mp hc;exact Dv.mpr (Array.mem_of_getElem? hi')
   · have m0:=p3 j f1 f2 f3 f4;show 1≤(List.filterMap _ _).toArray.size;rw[As];have h0:0<y.cps.size:=f4;have:y.cps[0]'h0∈(AR lo hi 1 y.length).filterMap (y.cps[·]?):=Dg.mpr ⟨0,m0,by simp[h0]⟩;exact FI this
theorem zfP(elt t0 i0 t1 i1:Expr)(f0 f1:List Expr)(scope:Scope)(pos:Pos)(it acc:Value)(env:Env):
 compTurn (.ListComp elt [⟨t0,i0,f0,0⟩,⟨t1,i1,f1,0⟩] scope pos) 0 it acc env=(do
  standAt i0.pos
  match ←pyNext it with
  | none=>pure (.done .next)
  | some v=>
   BM t0 it v
   assign t0 env v
   let mut ok:=true
   for c in f0 do
    if ok then ok ←isTrue c env (eval c env)
   if ok then
    let x ←eval i1 env
    standAt i1.pos
    let x ←Bq i1 env x
    let _ ←runOwn (.compStart (.ListComp elt [⟨t0,i0,f0,0⟩,⟨t1,i1,f1,0⟩] scope pos) 1 (←holding [x] (pyIter x)) acc env) env
   again (.compLoop (.ListComp elt [⟨t0,i0,f0,0⟩,⟨t1,i1,f1,0⟩] scope pos) 0 it acc env)):=by rfl
theorem zfO(elt t0 i0 t1 i1:Expr)(f0 f1:List Expr)(scope:Scope)(pos:Pos)(it acc:Value)(env:Env):
 compTurn (.ListComp elt [⟨t0,i0,f0,0⟩,⟨t1,i1,f1,0⟩] scope pos) 1 it acc env=(do
  standAt i1.pos
  match ←pyNext it with
  | none=>pure (.done .next)
  | some v=>
   BM t1 it v
   assign t1 env v
   let mut ok:=true
   for c in f1 do
    if ok then ok ←isTrue c env (eval c env)
   if ok then
    (do let _ ←call (.builtin "list.append") [acc,←eval elt env])
   again (.compLoop (.ListComp elt [⟨t0,i0,f0,0⟩,⟨t1,i1,f1,0⟩] scope pos) 1 it acc env)):=by rfl
section
variable{R:Result→Shared→Prop}
variable{elt t0 i0 t1 i1:Expr}{f0 f1:List Expr}{it acc:Value}{env:Env}
theorem zfR(I:Nat→Shared→Prop)
 (turn:∀n s,I n s→wpAny (model prog w) A (pyNext it) (λr s₁=>match r with
  | none=>R (.ok .next) s₁
  | some v=>wpAny (model prog w) A (BM t1 it v) (λ_ s₁'=>wpAny (model prog w) A (assign t1 env v) (λ_ s₂=>
   wpAny (model prog w) A (forIn f1 true λc r=>if r=true then do let ok ←isTrue c env (eval c env);pure (ForInStep.yield ok) else pure (ForInStep.yield r)) (λok s₃=>
    if ok=true then wpAny (model prog w) A (eval elt env) (λx s₄=> wpAny (model prog w) A (call (.builtin "list.append") [acc,x]) (λ_ s₅=>∃m,m<n∧I m s₅) (λ_ _=>False) s₄) (λ_ _=>False) s₃
    else ∃m,m<n∧I m s₃) (λ_ _=>False) s₂) (λ_ _=>False) s₁') (λ_ _=>False) s₁) (λ_ _=>False) s)
 (n:Nat) (h:I n s):
 codeAny (model prog w) A (.compLoop (.ListComp elt [⟨t0,i0,f0,0⟩,⟨t1,i1,f1,0⟩] scope pos) 1 it acc env) R s:=by
 refine Es rfl I (λn s hI=>?_) n h;show wpAny _ A ((compTurn (.ListComp elt [⟨t0,i0,f0,0⟩,⟨t1,i1,f1,0⟩] scope pos) 1 it acc env).onRaise (λx=>do noteFrame x env;theTreesLotGoes x)) _ _ s
 refine EE ?_;rw[zfO];refine Aa (Bm (Aa (A0 (turn n s hI) (λr s₁ h₁=>?_) λ_ _ h'=>h'.elim)));cases r with
 | none=>exact Ac h₁
 | some v=>
  refine Aa (A0 h₁ (λ_ s₁' h₁'=>?_) λ_ _ h'=>h'.elim);refine Aa (A0 h₁' (λ_ s₂ h₂=>Aa (A0 h₂ (λok s₃ h₃=>?_) λ_ _ h'=>h'.elim)) λ_ _ h'=>h'.elim);cases ok with
  | false=>exact Ac ⟨rfl,h₃⟩
  | true=> exact Aa (Aa (A0 h₃ (λx s₄ h₄=>Aa (A0 h₄ (λ_ s₅ h₅=>Ac (Ac ⟨rfl,h₅⟩)) λ_ _ h'=>h'.elim)) λ_ _ h'=>h'.elim))
theorem zfS(hs:∀x,Bq i1 env x=pure x)(I:Nat→Shared→Prop)
 (turn:∀n s,I n s→wpAny (model prog w) A (pyNext it) (λr s₁=>match r with
  | none=>R (.ok .next) s₁
  | some v=>wpAny (model prog w) A (BM t0 it v) (λ_ s₁'=>wpAny (model prog w) A (assign t0 env v) (λ_ s₂=>
   wpAny (model prog w) A (forIn f0 true λc r=>if r=true then do let ok ←isTrue c env (eval c env);pure (ForInStep.yield ok) else pure (ForInStep.yield r)) (λok s₃=>
    if ok=true then wpAny (model prog w) A (eval i1 env) (λx s₄=>wpAny (model prog w) A (pyIter x) (λj s₅=> codeAny (model prog w) A (.compStart (.ListComp elt [⟨t0,i0,f0,0⟩,⟨t1,i1,f1,0⟩] scope pos) 1 j acc env) (λr s₆=>r= .ok .next∧∃m,m<n∧I m s₆) s₅) (λ_ _=>False) s₄) (λ_ _=>False) s₃
    else ∃m,m<n∧I m s₃) (λ_ _=>False) s₂) (λ_ _=>False) s₁') (λ_ _=>False) s₁) (λ_ _=>False) s)
 (n:Nat) (h:I n s):
 codeAny (model prog w) A (.compLoop (.ListComp elt [⟨t0,i0,f0,0⟩,⟨t1,i1,f1,0⟩] scope pos) 0 it acc env) R s:=by
 refine Es rfl I (λn s hI=>?_) n h;show wpAny _ A ((compTurn (.ListComp elt [⟨t0,i0,f0,0⟩,⟨t1,i1,f1,0⟩] scope pos) 0 it acc env).onRaise (λx=>do noteFrame x env;theTreesLotGoes x)) _ _ s
 refine EE ?_;rw[zfP];refine Aa (Bm (Aa (A0 (turn n s hI) (λr s₁ h₁=>?_) λ_ _ h'=>h'.elim)));cases r with
 | none=>exact Ac h₁
 | some v=>
  refine Aa (A0 h₁ (λ_ s₁' h₁'=>?_) λ_ _ h'=>h'.elim);refine Aa (A0 h₁' (λ_ s₂ h₂=>Aa (A0 h₂ (λok s₃ h₃=>?_) λ_ _ h'=>h'.elim)) λ_ _ h'=>h'.elim);cases ok with
  | false=>exact Ac ⟨rfl,h₃⟩
  | true=> refine Aa (A0 h₃ (λx s₄ h₄=>?_) λ_ _ h'=>h'.elim);refine Aa (Bm ?_);rw[hs];refine Aa (Ac ?_);refine Aa (AZ (A0 h₄ (λj s₅ h₅=>?_) λ_ _ h'=>h'.elim));refine Aa (wpAny_runOwn (BU h₅ λr s₆ h₆=>?_));obtain⟨rfl,h₆⟩:=h₆;exact Ac ⟨rfl,h₆⟩
theorem zeY(h0:codeAny (model prog w) A (.compLoop (.ListComp elt [⟨t0,i0,f0,0⟩,⟨t1,i1,f1,0⟩] scope pos) 1 it acc env) R s)
 (h:wpAny (model prog w) A (pyIter it) (λit' s'=>codeAny (model prog w) A (.compLoop (.ListComp elt [⟨t0,i0,f0,0⟩,⟨t1,i1,f1,0⟩] scope pos) 1 it' acc env) R s')
  (notedBy (model prog w) A env λx s'=>R (.error x) s') s):
 codeAny (model prog w) A (.compStart (.ListComp elt [⟨t0,i0,f0,0⟩,⟨t1,i1,f1,0⟩] scope pos) 1 it acc env) R s:=by
 refine Eu ?_;show wpAny _ _ ((Cy (.ListComp elt [⟨t0,i0,f0,0⟩,⟨t1,i1,f1,0⟩] scope pos) 1 it acc env).onRaise (λx=>do noteFrame x env;standAt theWindowsPlace)) _ _ s
 refine wpAny_notedAt ?_;unfold Cy;show wpAny _ _ (ask>>=_) _ _ s;refine Aa (Fm (wpAny_ite ?_))
 split
 · first
    | exact Aa (Ac (Ac (And.intro rfl h0)))
    | exact Ac (And.intro rfl h0)
 · first
    | exact Aa (Cg (Aa (Bm (Aa (A0 h (λit' s' h'=>Ac (And.intro rfl h')) λ_ _ x=>x)))))
    | (refine Aa (Cg ?_);show wpAny _ _ (standAt i1.pos>>=_) _ _ s;exact Aa (Bm (Aa (A0 h (λit' s' h'=>Ac (And.intro rfl h')) λ_ _ x=>x))))
end
def Td(J:It)(p:Addr)(g:TG)(tc:TT)(te:TE)(σ:St)(ys:List V)(H:Hp)(M:St→List V→Hp→Prop):Prop:=
 ∃W:Nat→Nat→St→List V→Hp→Prop,(∃m,W 0 m σ ys H)∧∀i m σ' zs H,W i m σ' zs H→H p=some (.lst zs)∧
  ((J.stop i H∧M σ' zs H)∨(J.go i H∧zs.length<A1∧∀x H',J.yld i H x H'→g x σ' H' λσ2 H2=>tc σ2 H2 λb H3=>
    if b=true then te σ2 H3 λy H4=>H4 p=some (.lst zs)∧∃m',m'<m∧W (i+1) m' σ2 (zs++[y]) (upd H4 p (.lst (zs++[y])))
    else ∃m',m'<m∧W (i+1) m' σ2 zs H3))
def PN(J:It)(p:Addr)(js:I_)(g:TG)(tc:TT)(wi1:TI)(g1:TG)(tc1:TT)(te:TE)(σ:St)(H:Hp)(Q:VK):Prop:=
 ∃W:Nat→Nat→St→List V→Hp→Prop,(∃m,W 0 m (J6 js σ) [] (upd H p (.lst [])))∧∀i m σ' ys H,W i m σ' ys H→H p=some (.lst ys)∧
  ((J.stop i H∧Q (.ref p) H)∨(J.go i H∧∀x H',J.yld i H x H'→g x σ' H' λσ2 H2=>tc σ2 H2 λb H3=>
    if b=true then wi1 σ2 H3 λJ1 H4=>Td J1 p g1 tc1 te σ2 ys H4 λσ3 zs H5=>∃m',m'<m∧W (i+1) m' σ3 zs H5
    else ∃m',m'<m∧W (i+1) m' σ2 ys H3))
def Ro(wi:TI)(js:I_)(g:TG)(tc:TT)(wi1:TI)(g1:TG)(tc1:TT)(te:TE):TE:=λσ H Q=>wi σ H λJ H1=>∀p,H1 p=none→PN J p js g tc wi1 g1 tc1 te σ H1 Q
theorem Zc{X:Cx}{elt t0 i0 t1 i1:Expr}{f0 f1:List Expr}{scope:Scope}{pos:Pos}{g1:TG}{tc1:TT}{te:TE}{pins:List (Addr×Obj)}{σ:St}{H:Hp}{s:Shared}{p:Addr}{ys:List V}{J:It}{it:Addr}{fp:List Addr}{tn:Nat→Heap→Prop}{M:St→List V→Hp→Prop}
 (hc:X.calm=true) (hx:X.xe=λ_ _=>False) (hg:PG X t1 g1) (ht:IU X f1 tc1) (he:PE X elt te) (I:Inv X pins σ H s) (T:Turn X.prog X.w X.K t1 J fp it tn) (st:tn 0 s.heap) (hf:∀b∈fp,Ix X pins H b) (hw:Td J p g1 tc1 te σ ys H M):
 codeAny (model X.prog X.w) X.A (.compStart (.ListComp elt [⟨t0,i0,f0,0⟩,⟨t1,i1,f1,0⟩] scope pos) 1 (.ref it) (.ref p) X.env) (λr s'=>r= .ok .next∧∃σ' zs H',Inv X pins σ' H' s'∧M σ' zs H') s:=by
 obtain⟨W,⟨m0,w0⟩,turn⟩:=hw;have stat:∀{H':Hp},(∀b∈fp,H' b=none)→∀b∈fp,Ix X pins H' b:=λhn b hb=>⟨hn b hb,(hf b hb).2⟩;have loop:codeAny (model X.prog X.w) X.A (.compLoop (.ListComp elt [⟨t0,i0,f0,0⟩,⟨t1,i1,f1,0⟩] scope pos) 1 (.ref it) (.ref p) X.env) (λr s'=>r= .ok .next∧∃σ' zs H',Inv X pins σ' H' s'∧M σ' zs H') s:=by
  refine zfR (λn s'=>∃i σ' ys H',Inv X pins σ' H' s'∧tn i s'.heap∧(∀b∈fp,H' b=none)∧W i n σ' ys H') ?_ m0 ⟨0,σ,ys,H,I,st,λb hb=>(hf b hb).1,w0⟩;rintro n s5 ⟨i,σ5,zs,H5,I5,st5,fr5,w5⟩;obtain⟨hp5,tu⟩:=turn i n σ5 zs H5 w5;rcases tu with⟨stop,qn⟩ | ⟨go,hz,step⟩
  · refine Il (T.done X rfl rfl rfl hc i pins s5 σ5 H5 (λ_ _=>False) I5 (stat fr5) st5 stop) λr s6 ⟨hr,I6⟩=>?_;subst hr;exact⟨rfl,σ5,zs,H5,I6,qn⟩
  · refine Il (T.item X rfl rfl rfl hc i pins s5 σ5 H5 (λ_ _=>False) I5 (stat fr5) st5 go) λr s6 ⟨u,hr,h6⟩=>?_;subst hr;refine Il h6 λ_ s7 ⟨x,H7,I7,r7,y7,st7,fr7⟩=>?_;have I7':=I7.pinned (stat fr7) (T.obj _ _ st7);have G:=hg _ s7 σ5 H7 x u _ I7' r7 (step x H7 y7);rw[hx] at G;refine Il G λ_ s8 ⟨σ8,H8,I8,q8⟩=>?_;have Tt:=ht _ s8 σ8 H8 _ I8 q8;rw[hx] at Tt;refine Il Tt λb s9 ⟨H9,I9,q9⟩=>?_;have again:∀{s':Shared}{ys':List V}{H':Hp},Inv X (pins++Ls fp s7.heap) σ8 H' s'→(∃m',m'<n∧W (i+1) m' σ8 ys' H')→
     ∃m,m<n∧∃i σ' ys H',Inv X pins σ' H' s'∧tn i s'.heap∧(∀b∈fp,H' b=none)∧W i m σ' ys H':=λ{s' ys' H'}I' ⟨m',hm,w'⟩=>by
     refine⟨m',hm,i+1,σ8,ys',H',I'.unpinned,T.keep _ _ _ st7 λb hb o e=>(I'.pin (b,o) (Ah _ (Ah _ (K4 hb e)))).1,λb hb=>?_,w'⟩;obtain⟨o,e,d⟩:=T.obj _ _ st7 b hb;exact(I'.pin (b,o) (Ah _ (Ah _ (K4 hb e)))).2.1
    cases b with
    | false=>exact again I9 q9
    | true=> have Ee:=he _ s9 σ8 H9 _ I9 q9;rw[hx] at Ee;show wpAny _ _ _ _ _ _;refine Il Ee λxv s10 ⟨y,H10,I10,r10,hp10,q10⟩=>?_;have Ap:=Ld (X:=X) _ s10 σ8 H10 (.ref p) [y] (.ref p) [xv] (λ_ H'=>H'=upd H10 p (.lst (zs++[y]))) I10 rfl (.cons r10 .nil) ⟨p,zs,y,rfl,rfl,hp10,hz,rfl⟩;rw[hx] at Ap;refine Il Ap λ_ s11 ⟨_,H11,I11,_,e11⟩=>?_;subst e11;exact again I11 q10
 exact zeY loop (T.self _ 0 _ _ _ st loop)
section
variable{tg iter tg1 iter1 elt:Expr}{ifs ifs1:List Expr}{wi wi1:TI}{js:I_}{g g1:TG}{tc tc1:TT}{te:TE}{N':List Str}
theorem Zt{pins:List (Addr×Obj)}{σ:St}{H:Hp}{s:Shared}{E:Value→Shared→Prop}{Q:VK}{J:It}{it:Addr}{fp:List Addr}{tn:Nat→Heap→Prop}{cl:List (Str×Addr)}
 (hc:X.calm=true) (ok:CapOk X N' js scope) (hs1:∀(e:Env)x,Bq iter1 e x=pure x)
 (h2:∀x c,cl.lookup x=some c→X.env.cells.lookup x=some c) (h3:∀p∈scope.names,p.2= .free→(cl.lookup p.1).isSome=true)
 (hg:∀cl C s₀ H₀ ex,PG (IP X N' scope cl C s₀ H₀ ex) tg g) (ht:∀cl C s₀ H₀ ex,IU (IP X N' scope cl C s₀ H₀ ex) ifs tc) (hi1:∀cl C s₀ H₀ ex,PI (IP X N' scope cl C s₀ H₀ ex) tg1 iter1 wi1) (hg1:∀cl C s₀ H₀ ex,PG (IP X N' scope cl C s₀ H₀ ex) tg1 g1) (ht1:∀cl C s₀ H₀ ex,IU (IP X N' scope cl C s₀ H₀ ex) ifs1 tc1) (he:∀cl C s₀ H₀ ex,PE (IP X N' scope cl C s₀ H₀ ex) elt te)
 (I:Inv X pins σ H s) (T:Turn X.prog X.w X.K tg J fp it tn) (st:tn 0 s.heap) (hf:∀b∈fp,Ix X pins H b)
 (hw:∀p,H p=none→PN J p js g tc wi1 g1 tc1 te σ H Q):
 wpAny (model X.prog X.w) X.A (newList []) (λacc s₃=>wpAny (model X.prog X.w) X.A (newFunctionEnv scope X.env.globals cl [] X.env.qual none .none (some X.env)) (λcenv s₄=>
  codeAny (model X.prog X.w) X.A (.compStart (.ListComp elt [⟨tg,iter,ifs,0⟩,⟨tg1,iter1,ifs1,0⟩] scope pos) 0 (.ref it) acc {cenv with scope:=relabel scope X.env})
   (λr s'=>r= .ok .next∧(∃m,s'.heap.Ns cenv.locals m)∧∃v H',RelV v acc∧Inv X pins σ H' s'∧Ix X pins H' cenv.locals∧Q v H') s₄) E s₃) E s:=by
 have objs:=T.obj _ _ st;refine Be ?_ (by show 0≤A1;decide);obtain⟨W,⟨m0,w0⟩,turn⟩:=hw s.heap.objs.size (I.hok.fresh (Af _));generalize hp:s.heap.objs.size=p at*;have kp:∀b u,s.heap.get? b=some u→(s.heap.push {cls:= .type "list",dict:=none,data:= .seq ([]:List Value).toArray}).get? b=some u:=λb u e=>Ae _ e;have I3:Inv X pins σ (upd H p (.lst [])) {s with heap:=s.heap.push {cls:= .type "list",dict:=none,data:= .seq ([]:List Value).toArray}}:=by refine I.laid (t':=s.toks) kp (by rw[hp];exact Af _) ⟨AI _,[],0,.nil,?_⟩;have:=Ay s.heap (o:={cls:= .type "list",dict:=none,data:= .seq ([]:List Value).toArray}) rfl;rw[hp] at this;exact this
 have fne:∀b∈fp,b≠p:=λb hb=>by obtain⟨o,e,_⟩:=objs b hb;have:=Aq e;rw[←hp];exact A3 this
 have hf3:∀b∈fp,Ix X pins (upd H p (.lst [])) b:=λb hb=>⟨by rw[Iy (fne b hb)];exact(hf b hb).1,(hf b hb).2⟩;have st3:tn 0 (s.heap.push {cls:= .type "list",dict:=none,data:= .seq ([]:List Value).toArray}):=T.keep _ _ _ st λb _ o e=>kp b o e;have lt3:∀b∈fp,b<(s.heap.push {cls:= .type "list",dict:=none,data:= .seq ([]:List Value).toArray}).objs.size:=λb hb=>by obtain⟨o,e,_⟩:=objs b hb;exact Aq (kp b o e)
 generalize hs3:({s with heap:=s.heap.push {cls:= .type "list",dict:=none,data:= .seq ([]:List Value).toArray}}:Shared)=s3 at*
 have eh:s.heap.push {cls:= .type "list",dict:=none,data:= .seq ([]:List Value).toArray}=s3.heap:=by rw[←hs3]
 rw[eh] at st3 lt3;refine NL ok.cells λcl h₁ hns₁ k4 oc=>?_;have I4:=NB (cl:=cl) (h₁:=h₁) (t':=s3.toks+([]:List (Str×Value)).length) ok I3 h2 h3 hf3 lt3 k4 hns₁ oc;have st4:tn 0 h₁:=T.keep _ _ _ st3 λb _ o e=>k4 b o e;generalize hX:IP X N' scope cl s3.heap.objs.size s3 (upd H p (.lst [])) fp=X' at I4;have hg':PG X' tg g:=by rw[←hX];exact hg _ _ _ _ _
 have ht':IU X' ifs tc:=by rw[←hX];exact ht _ _ _ _ _
 have he':PE X' elt te:=by rw[←hX];exact he _ _ _ _ _
 have hi1':PI X' tg1 iter1 wi1:=by rw[←hX];exact hi1 _ _ _ _ _
 have hg1':PG X' tg1 g1:=by rw[←hX];exact hg1 _ _ _ _ _
 have ht1':IU X' ifs1 tc1:=by rw[←hX];exact ht1 _ _ _ _ _
 have hs1':∀x,Bq iter1 (compEnvC scope cl s3.heap.objs.size X.env) x=pure x:=hs1 _;have eP:X'.prog=X.prog:=by rw[←hX];rfl
 have ew:X'.w=X.w:=by rw[←hX];rfl
 have eK:X'.K=X.K:=by rw[←hX];rfl
 have ec:X'.calm=true:=by rw[←hX];exact hc
 have eA:X'.A=X.A:=by rw[←hX];rfl
 have ex:X'.xe=λ_ _=>False:=by rw[←hX];rfl
 have eE:X'.env=compEnvC scope cl s3.heap.objs.size X.env:=by rw[←hX];rfl
 have eEx:X'.ex=fp:=by rw[←hX];rfl
 have eN:X'.pn=[]:=by rw[←hX];rfl
 have stat:∀{H':Hp},(∀b∈fp,H' b=none)→∀b∈fp,Ix X' [] H' b:=λ{H'}hn b hb=>by have okc:=I4.ok;refine⟨hn b hb,(okc.exf b (by rw[eEx];exact hb)).1,okc.exfs b (by rw[eEx];exact hb),.inl (by rw[eEx];exact hb),(okc.exf b (by rw[eEx];exact hb)).2,λq hq=>?_⟩;rw[eN] at hq;cases hq
 have loop:∀s₄:Shared,s₄={s3 with heap:=h₁,toks:=s3.toks+([]:List (Str×Value)).length}→
  codeAny (model X.prog X.w) X.A (.compLoop (.ListComp elt [⟨tg,iter,ifs,0⟩,⟨tg1,iter1,ifs1,0⟩] scope pos) 0 (.ref it) (.ref p) (compEnvC scope cl s3.heap.objs.size X.env))
   (λr s'=>r= .ok .next∧(∃m,s'.heap.Ns s3.heap.objs.size m)∧∃v H',RelV v (.ref p)∧Inv X pins σ H' s'∧Ix X pins H' s3.heap.objs.size∧Q v H') s₄:=by
  rintro s₄ rfl;refine zfS hs1' (λn s'=>∃i σ' ys H',Inv X' [] σ' H' s'∧tn i s'.heap∧(∀b∈fp,H' b=none)∧W i n σ' ys H') ?_ m0 ⟨0,_,[],_,I4,st4,λb hb=>(hf3 b hb).1,w0⟩;rintro n s5 ⟨i,σ5,ys,H5,I5,st5,fr5,w5⟩;obtain⟨hp5,tu⟩:=turn i n σ5 ys H5 w5;rcases tu with⟨stop,qn⟩ | ⟨go,step⟩
  · have D:=T.done X' eP ew eK ec i [] s5 σ5 H5 (λ_ _=>False) I5 (stat fr5) st5 stop;rw[eA] at D;refine Il D λr s6 ⟨hr,I6⟩=>?_;subst hr;refine⟨rfl,?_,.ref p,H5,rfl,?_,?_,qn⟩
    · obtain⟨m,hm,_⟩:=I6.loc;rw[eE] at hm;exact⟨m,hm⟩
    · have b6:=I6.base;have ho:=I6.os;have hk:=I6.hok;have hb:=I6.bare;subst hX;exact I3.call' (ch:=fp) ho b6 hk hb λb hb'=>⟨(hf b hb').2.2.2.1,(hf b hb').2.1,(hf b hb').2.2.2.2.1,(hf b hb').2.2.2.2.2⟩
    · have fr:=I6.free;rw[eE] at fr;exact I3.fpOk (Af _) fr
  · have D:=T.item X' eP ew eK ec i [] s5 σ5 H5 (λ_ _=>False) I5 (stat fr5) st5 go;rw[eA] at D;refine Il D λr s6 ⟨u,hr,h6⟩=>?_;subst hr;refine Il h6 λ_ s7 ⟨x,H7,I7,r7,y7,st7,fr7⟩=>?_;have I7':=I7.pinned (stat fr7) (T.obj _ _ st7);have G:=hg' _ s7 σ5 H7 x u _ I7' r7 (step x H7 y7);rw[eP,ew,eA,ex,eE] at G;refine Il G λ_ s8 ⟨σ8,H8,I8,q8⟩=>?_;have Tt:=ht' _ s8 σ8 H8 _ I8 q8;rw[eP,ew,eA,ex,eE] at Tt;refine Il Tt λb s9 ⟨H9,I9,q9⟩=>?_;have again:∀{s':Shared}{σ8:St}{ys':List V}{H':Hp},Inv X' ([]++Ls fp s7.heap) σ8 H' s'→(∃m',m'<n∧W (i+1) m' σ8 ys' H')→
     ∃m,m<n∧∃i σ' ys H',Inv X' [] σ' H' s'∧tn i s'.heap∧(∀b∈fp,H' b=none)∧W i m σ' ys H':=λ{s' σ8 ys' H'}I' ⟨m',hm,w'⟩=>by
     refine⟨m',hm,i+1,σ8,ys',H',I'.unpinned,T.keep _ _ _ st7 λb hb o e=>(I'.pin (b,o) (Ah _ (Ah _ (K4 hb e)))).1,λb hb=>?_,w'⟩;obtain⟨o,e,d⟩:=T.obj _ _ st7 b hb;exact(I'.pin (b,o) (Ah _ (Ah _ (K4 hb e)))).2.1
    cases b with
    | false=>exact again I9 q9
    | true=> have Ei:=hi1' _ s9 σ8 H9 _ I9 q9;rw[eP,ew,eA,ex,eE] at Ei;show wpAny _ _ _ _ _ _;refine Il Ei λxv s10 h10=>Il h10 λitv s11 h11=>?_;obtain⟨it1,fp1,tn1,J1,H11,e11,I11,T1,st11,f11,hw11⟩:=h11;subst e11;have In:=Zc (X:=X') (elt:=elt) (t0:=tg) (i0:=iter) (t1:=tg1) (i1:=iter1) (f0:=ifs) (f1:=ifs1) (scope:=scope) (pos:=pos) ec ex hg1' ht1' he' I11 T1 st11 f11 hw11;rw[eP,ew,eA,eE] at In;refine BU In λr s12 ⟨hr,σ12,zs,H12,I12,m12⟩=>⟨hr,?_⟩;exact again I12 m12
 exact FD (loop _ rfl) (T.self _ 0 _ _ _ st4 (loop _ rfl))
theorem X6(hc:X.calm=true)(ok:CapOk X N' js scope)(hi:PI X tg iter wi)
 (hg:∀cl C s₀ H₀ ex,PG (IP X N' scope cl C s₀ H₀ ex) tg g) (ht:∀cl C s₀ H₀ ex,IU (IP X N' scope cl C s₀ H₀ ex) ifs tc) (hi1:∀cl C s₀ H₀ ex,PI (IP X N' scope cl C s₀ H₀ ex) tg1 iter1 wi1) (hg1:∀cl C s₀ H₀ ex,PG (IP X N' scope cl C s₀ H₀ ex) tg1 g1) (ht1:∀cl C s₀ H₀ ex,IU (IP X N' scope cl C s₀ H₀ ex) ifs1 tc1) (he:∀cl C s₀ H₀ ex,PE (IP X N' scope cl C s₀ H₀ ex) elt te)
 (hs:∀x,Bq iter X.env x=pure x:=by intro _;rfl) (hs1:∀(e:Env)x,Bq iter1 e x=pure x:=by intro _ _;rfl):PE X (.ListComp elt [⟨tg,iter,ifs,0⟩,⟨tg1,iter1,ifs1,0⟩] scope pos) (Ro wi js g tc wi1 g1 tc1 te):=by
 intro pins s σ H Q I h;obtain⟨cl,c1,c2,c3⟩:=MO (scope:=scope) I.ok.has ok.free;rw[eval_ListComp];refine Cd (use:=none) rfl hs c1 ok.kind ok.names (Il (hi pins s σ H _ I h) λv s1 h1=>Il h1 λitv s2 h2=>?_);obtain⟨it,fp,tn,J,H2,e,I2,T,st2,f2,hw⟩:=h2;subst e;refine A0 (Zt (iter:=iter) (pos:=pos) hc ok hs1 c2 c3 hg ht hi1 hg1 ht1 he I2 T st2 f2 hw) (λacc s3 h3=>A0 h3 (λcenv s4 h4=>?_) λ_ _ z=>z) λ_ _ z=>z;refine BU h4 λr s5 h5=>?_;obtain⟨rfl,⟨m,hm⟩,v,H5,rv,I5,f5,q5⟩:=h5;refine⟨m,hm,λh' sb=>?_⟩;obtain⟨f0,f1,_,f3,f4,f6⟩:=f5;exact⟨v,H5,I5.turned (t':=s5.toks) (λb o hb e=>(sb.2 b hb).trans e) f0 f1 f3 f4 f6,rv,q5⟩
end
section
variable{R:Result→Shared→Prop}
variable{elt t0 i0 t1 i1:Expr}{f0 f1:List Expr}{it acc:Value}{env:Env}
end
section
variable{p:Addr}{ks:List Str}
end
section
variable{tg iter tg1 iter1 elt:Expr}{ifs ifs1:List Expr}{wi wi1:TI}{js:I_}{g g1:TG}{tc tc1:TT}{te:TE}{N':List Str}
end
open PySem.AutoSeq1 (wpAny_loadPart')
section
variable{it l e:Addr}{xs:Array Value}{x old:Value}
end
def below(s t:LO):List LO:=match t.1 with
 | none=>[]
 | some l=>if s.1=some l then [] else [(s.1,some (l - 1))]
def above(s t:LO):List LO:=match t.2 with
 | none=>[]
 | some h=>if s.2=some h then [] else [(some (h+1),s.2)]
def Wx(s t:LO):List LO:=below s t++above s t
def WL(w m:List WP)(i:Nat):List (List WP):=match w[i]?,m[i]? with
 | some p,some q=>(Wx p.2 q.2).map λr=>m.take i++[(p.1,r)]++w.drop (i+1)
 | _,_=>[]
def Y3(w m:List WP):List (List WP):=(AJ w.length).flatMap (WL w m)
open Classical in
noncomputable def Lf(w o:List WP):List WP:=if h:∃m,IsMet w o m then Classical.choose h else []
noncomputable def one(w o:List WP):List (List WP):=if Wv w o=true then [w] else if w.length<(Lf w o).length then [w] else Y3 w (Lf w o)
section
variable{w o m:List WP}
end
def MU(w:List WP):List PP:=w.map λp=>(p.1,WW p.2.1 p.2.2)
theorem zeT(w:List WP):(MU w).map (·.1)=w.map (·.1):=by unfold MU;rw[BF];rfl
theorem ziJ{w:List WP}(h:WOk w):POk (MU w):=by refine⟨by unfold MU;rw[Ab];exact h.len,λx hx=>?_,by rw[zeT];exact h.asc⟩;obtain⟨p,hp,rfl⟩:=Az.mp hx;exact(h.ok p hp).1
def Ws(H:Hp)(v:V)(ps:List (List WP)):Prop:=match ps with
 | []=>v= .non
 | p::_=>∃t,v= .ref t∧Nu H t (MU p)
theorem Uz{v:V}{A B:St→Hp→Prop}(h:A (σ.set i (some v)) H):Kx i v σ H λσ2 H2=>LD σ2 H2 λb H3=>if b=true then A σ2 H3 else B σ2 H3:=by
 show(if true=true then A (σ.set i (some v)) H else B (σ.set i (some v)) H)
 exact Ii h
section
variable{lo sz m:Int}
end
section
variable{K:Ad}{mg:Str→Option Value}{base:Heap}
def g2{α:Type}:List α→List α→List α
 | [a],[b]=>[a,b]
 | _,_=>[]
end
section
variable{k:Nat}{p1 p2:Str}{sp:Sp}{e1 e2:Expr}{t tk:TA}{p kpos:Pos}
end
abbrev MD:=Sum (Option Int) Str
def O3:MD→Value→Bool
 | .inl none,.none=>true
 | .inl (some i),v=>Value.isInt i v
 | .inr x,v=>Eh x v
 | _,_=>false
theorem LC{k:MD}{v:Value}(h:O3 k v=true):(k= .inl none∧v= .none)∨(∃i t,k= .inl (some i)∧v= .int i t)∨∃x t,k= .inr x∧v= .str x t:=by
 cases k with
 | inl o=>
  cases o with
  | none=>cases v<;>simp[O3] at h ⊢
  | some i=> obtain⟨t,e⟩:=Value.isInt_shape (k:=i) (v:=v) h;exact .inr (.inl ⟨i,t,rfl,e⟩)
 | inr x=> obtain⟨t,e⟩:=Gd (x:=x) (v:=v) h;exact .inr (.inr ⟨x,t,rfl,e⟩)
def Op(w:World):MD→Int
 | .inl none=>0xFCA86420
 | .inl (some i)=>hashInt i
 | .inr x=>hashStr w x
theorem Zm{Q:Int→Shared→Prop}(h:Q 0xFCA86420 {s with toks:=s.toks+1}):wpAny (model prog w) A (pyHash .none) Q E s:=by
 have ty:s.TypeIs .none "NoneType":=typeIs_none s;unfold pyHash;refine Aa ?_;rw[cRoomFor,if_neg (by rw[show [Value.none].any Value.onHeap=false from rfl];exact Ar)];refine Ac ?_;refine Aa (BX ty CS.lookup ?_);rw[if_neg (by rw[beq_builtin_none];exact Ar)];refine Aa (BX ty CS.lookup ?_);refine Aa (D0 ty CS (Bb CS ty PySem.F.entry_NoneType_hash ?go (PySem.F.args_NoneType_hash_1 _)))
 case go=>
  show wpAny _ _ (do ret (←mkInt 0xFCA86420)) _ _ s
  refine wpAny_ret_mkInt ?_;dsimp only;unfold pyHashByItsType.reduced;rw[if_pos (by decide)];exact Ac h
theorem Xy{Q:Bool→Shared→Prop}(h:Q true s):wpAny (model prog w) A (eqBool .none .none) Q E s:=by
 unfold eqBool
 try with_reducible refine AZ ?_
 rw[if_pos (by rfl)];exact Aa (Cg (Ac h))
def Nw(prog:AY)(w:World):KeyKind prog w MD where
 is:=O3
 hash:=Op w
 inj:=λv a b ha hb=>by
  rcases LC ha with⟨rfl,rfl⟩ | ⟨i,t,rfl,rfl⟩ | ⟨x,t,rfl,rfl⟩
  all_goals
   rcases LC hb with⟨rfl,e⟩ | ⟨j,u,rfl,e⟩ | ⟨y,u,rfl,e⟩
   all_goals first | rfl | (injection e with e1 _;rw[e1];done) | (exact Value.noConfusion e)
 byValue:=λk v h=>by rcases LC h with⟨rfl,rfl⟩ | ⟨i,t,rfl,rfl⟩ | ⟨x,t,rfl,rfl⟩<;>rfl
 pyHash:=λhv h=>by
  rcases LC hv with⟨rfl,rfl⟩ | ⟨i,t,rfl,rfl⟩ | ⟨x,t,rfl,rfl⟩
  · exact Zm h
  · exact wpAny_pyHash_int h
  · exact wpAny_pyHash_str h
 eqBool:=λhu hv h=>by
  rcases LC hu with⟨rfl,rfl⟩ | ⟨i,t,rfl,rfl⟩ | ⟨x,t,rfl,rfl⟩
  · rcases LC hv with⟨rfl,rfl⟩ | ⟨j,u,rfl,rfl⟩ | ⟨y,u,rfl,rfl⟩
    · rw[decide_eq_true rfl] at h;exact Xy h
    · rw[decide_eq_false (by intro z;cases z)] at h;exact Ex j u _ _ _ _ h
    · rw[decide_eq_false (by intro z;cases z)] at h;exact Ey y u _ _ _ _ h
  · rcases LC hv with⟨rfl,rfl⟩ | ⟨j,u,rfl,rfl⟩ | ⟨y,u,rfl,rfl⟩
    · rw[decide_eq_false (by intro z;cases z)] at h;exact Ez i t _ _ _ _ h
    · rw[show decide ((Sum.inl (some i):MD)=Sum.inl (some j))=(i==j) by rw[Bi];simp] at h;exact wpAny_eqBool_int h
    · rw[decide_eq_false (by intro z;cases z)] at h;exact DE i t y u _ _ _ _ h
  · rcases LC hv with⟨rfl,rfl⟩ | ⟨j,u,rfl,rfl⟩ | ⟨y,u,rfl,rfl⟩
    · rw[decide_eq_false (by intro z;cases z)] at h;exact E2 x t _ _ _ _ h
    · rw[decide_eq_false (by intro z;cases z)] at h;exact DF x t j u _ _ _ _ h
    · rw[show decide ((Sum.inr x:MD)=Sum.inr y)=decide (x=y) by rw[Bi];simp] at h;exact wpAny_eqBool_str h
 «strs»:=λk x t v h=>by
  rcases LC h with⟨rfl,e⟩ | ⟨i,u,rfl,e⟩ | ⟨y,u,rfl,e⟩
  · exact nomatch e
  · exact nomatch e
  · injection e with e1 _
    subst e1;cases v<;>rfl
def LK(p:WP):List MD:=[.inr p.1,.inl p.2.1,.inl p.2.2]
theorem TJ{p q:WP}(h:LK p=LK q):p=q:=by obtain⟨f,a,b⟩:=p;obtain⟨g,c,d⟩:=q;unfold LK at h;simp only[DA,Sum.inr.injEq,Sum.inl.injEq,and_true] at h;obtain⟨rfl,rfl,rfl⟩:=h;rfl
inductive RefsAre(prog:AY)(w:World)(h:Heap):List WP→List Value→Prop
 | nil:RefsAre prog w h [] []
 | cons {p:WP} {b:Addr} {ps:List WP} {vs:List Value}:IsTupleKey (Nw prog w) h (LK p) b→RefsAre prog w h ps vs→RefsAre prog w h (p::ps) (.ref b::vs)
def IsWishKey(prog:AY)(w:World)(h:Heap)(ws:List WP)(a:Addr):Prop:=∃o items n,h.get? a=some o∧o.cls= .type "tuple"∧o.data= .seq items n∧RefsAre prog w h ws items.toList
theorem RefsAre.inj{x y:List WP}{vs:List Value}(hx:RefsAre prog w h x vs)(hy:RefsAre prog w h y vs):x=y:=by
 induction hx generalizing y with
 | nil=>cases hy;rfl
 | cons h1 _ ih=>
  cases hy with
  | cons h2 t2=>rw[TJ (h1.inj h2),ih t2]
theorem RefsAre.keeps{h':Heap}{d:Addr}{o:Obj}{es:Array DictEntry}{ep:Nat}{x:List WP}{vs:List Value}(hx:RefsAre prog w h x vs)(ho:h.get? d=some o)(hd:o.data= .dict es ep)(hs:C6 d h h'):RefsAre prog w h' x vs:=by
 induction hx with
 | nil=>exact .nil
 | cons h1 _ ih=>exact .cons (h1.keeps ho hd hs) ih
theorem IsWishKey.typeIs{ws:List WP}(x:IsWishKey prog w s.heap ws a):s.TypeIs (.ref a) "tuple":=let⟨o,_,_,ho,hc,_⟩:=x;⟨o,ho,hc⟩
theorem IsWishKey.inj{x y:List WP}(hx:IsWishKey prog w h x a)(hy:IsWishKey prog w h y a):x=y:=by obtain⟨o,items,n,ho,_,hd,hi⟩:=hx;obtain⟨o',items',n',ho',_,hd',hi'⟩:=hy;rw[ho] at ho';cases ho';rw[hd] at hd';injection hd' with h1 _;subst h1;exact hi.inj hi'
theorem IsWishKey.keeps{h':Heap}{ws:List WP}{d:Addr}{o:Obj}{es:Array DictEntry}{ep:Nat}(x:IsWishKey prog w h ws a)(ho:h.get? d=some o)(hd:o.data= .dict es ep)(hs:C6 d h h'):IsWishKey prog w h' ws a:=by
 obtain⟨o',items,n,ho',hc,hd',hi⟩:=x;have hne:a≠d:=λe=>by subst e;rw[ho] at ho';cases ho';rw[hd] at hd';exact nomatch hd'
 exact⟨o',items,n,(hs.2 a hne).trans ho',hc,hd',hi.keeps ho hd hs⟩
def Pr(w:World)(p:WP):Int:=reduceHash (DB ((LK p).map (Op w)))
def Pt(w:World)(ws:List WP):Int:=reduceHash (DB (ws.map (Pr w)))
theorem Zn{p:WP}{Q:Int→Shared→Prop}(hu:A.units<cLine)(hk:IsTupleKey (Nw prog w) s.heap (LK p) b)(h:Q (Pr w p) {s with toks:=s.toks+4}):wpAny (model prog w) A (pyHash (.ref b)) Q E s:=
 wpAny_pyHash_tuple hu hk h
theorem Vr{ws:List WP}{Q:Int→Shared→Prop}(hu:A.units+1<cLine)(hk:IsWishKey prog w s.heap ws a)(h:Q (Pt w ws) {s with toks:=s.toks+(4*ws.length+1)}):
 wpAny (model prog w) A (pyHash (.ref a)) Q E s:=by
 have ty:=hk.typeIs;obtain⟨o,items,n,ho,_,hd,hi⟩:=hk;unfold pyHash
 first | unfold pyHashByItsType | skip
 first | refine Aa (wpAny_cRoomFor_or (.inr (by omega)) ?_) | skip
 refine Aa (BX ty Ck.lookup ?_);rw[if_neg (by rw[beq_builtin_none];exact Ar)];refine Aa (BX ty Ck.lookup ?_);refine Aa (D0 ty Ck (Bb Ck ty PySem.F.entry_tuple_hash ?go (PySem.F.args_tuple_hash_1 _)))
 case go=>
  show wpAny _ _ (D2 (.ref a)>>=_) _ _ s;refine Aa (EJ ho hd (Aa ?_));rw[←C2];refine BR _ (λIo(b:Array Int)s'=>∃done left,ws=done++left∧RefsAre prog w s.heap left Io∧b.toList=done.map (Pr w)∧s'={s with toks:=s.toks+4*done.length}) _ ?step ?done _ _ ⟨[],ws,rfl,hi,rfl,rfl⟩
  case step=>
   rintro x Io b s' ⟨dn,left,rfl,hl,hb,rfl⟩;cases hl with
   | @cons p c ps _ h1 hl'=>
    refine Aa (Zn (p:=p) (by show A.units+1<cLine;exact hu) (by exact h1) ?_)
    first
     | exact Ac ⟨dn++[p],ps,by simp,hl',by simp[hb],by simp;omega⟩
     | exact Aa (Ac (Ac ⟨dn++[p],ps,by simp,hl',by simp[hb],by simp;omega⟩))
  case done=>
   rintro b s' ⟨dn,left,rfl,hl,hb,rfl⟩;cases hl;rw[Cm] at h;show wpAny _ _ (retInt (DB b.toList)) _ _ _;rw[hb];refine wpAny_ret_mkInt ?_;unfold Pt reduceHash at h;dsimp only;unfold pyHashByItsType.reduced
   split at h
   · rename_i hr;rw[if_pos hr];exact Ac (by simpa [Nat.add_assoc] using h)
   · rename_i hr;rw[if_neg hr];exact Aa (Cg (Ac (by simpa [Nat.add_assoc] using h)))
theorem Xz{x y:List WP}{P:Fin→Shared→Prop}(hu:A.units<cLine)(hx:IsWishKey prog w s.heap x a)(hy:IsWishKey prog w s.heap y b)(h:P (.done (.ret (.bool (decide (x=y))))) s):
 wpAny (model prog w) A (Builtin.«tuple.__eq__» ⟨[.ref a,.ref b],[]⟩) P E s:=by
 have tb:=hy.typeIs;obtain⟨oa,us,na,g1,_,g2,g3⟩:=hx;obtain⟨ob,vs,nb,k1,_,k2,k3⟩:=hy;show wpAny _ _ (isInstance (.ref b) (.type "tuple")>>=_) _ _ s;refine Aa (Dx tb isSubtype_tuple_tuple ?_);simp only[Cs,A8,if_false];refine Aa (EJ g1 g2 (Aa (EJ k1 k2 (Aa ?_))));refine BR _
  (λIo r s'=>r.1=none∧s'=s∧∃x' y' us' vs',Io=List.zip us' vs'∧RefsAre prog w s.heap x' us'∧RefsAre prog w s.heap y' vs'∧decide (x'=y')=decide (x=y)∧(us'.length==vs'.length)=(us.size==vs.size))
  _ ?step ?done _ _ ⟨rfl,rfl,x,y,us.toList,vs.toList,rfl,g3,k3,rfl,by simp⟩
 case step=>
  rintro⟨u,v⟩ Io r s' ⟨hr,rfl,x',y',us',vs',hz,q1,q2,hdec,hlen⟩;cases q1 with
  | nil=>simp at hz
  | @cons p c ps us'' c1 q1'=>
   cases q2 with
   | nil=>simp at hz
   | @cons p2 c' ps2 vs'' c2 q2'=>
    simp only[List.zip_cons_cons,DA,Prod.mk.injEq] at hz;obtain⟨⟨rfl,rfl⟩,rfl⟩:=hz;refine Aa (wpAny_eqBool_tuple hu c1 c2 ?_);by_cases hk:p=p2
    · subst hk;rw[decide_eq_true rfl];simp only[Cs,A8,if_false];refine Ac ⟨rfl,rfl,ps,ps2,us'',vs'',rfl,q1',q2',?_,by simpa using hlen⟩;rw[←hdec];by_cases e:ps=ps2<;>simp[e]
    · rw[decide_eq_false (λz=>hk (TJ z))];simp only[Bool.not_false,if_true];rw[show decide (x=y)=false by rw[←hdec];simp[hk]] at h;exact Aa (Ac (Ac (Ac h)))
 case done=>
  rintro⟨r1,r2⟩ s' ⟨hr,rfl,x',y',us',vs',hz,q1,q2,hdec,hlen⟩;simp only at hr;subst hr;refine Ac ?_;have fin:(us.size==vs.size)=decide (x=y):=by
   rw[←hdec,←hlen];cases q1 with
   | nil=>cases q2<;>simp
   | cons _ _=>
    cases q2 with
    | nil=>simp
    | cons _ _=>simp at hz
  show P (.done (.ret (.bool (us.size==vs.size)))) s';rw[fin];exact h
theorem To{x y:List WP}{Q:Bool→Shared→Prop}(hu:A.units+1<cLine)(hx:IsWishKey prog w s.heap x a)(hy:IsWishKey prog w s.heap y b)(h:Q (decide (x=y)) s):
 wpAny (model prog w) A (eqBool (.ref a) (.ref b)) Q E s:=by
 unfold eqBool
 try with_reducible refine AZ ?_
 by_cases hab:(Value.ref a==Value.ref b)=true
 · rw[if_pos hab];have e:a=b:=by have:=eq_of_beq hab;injection this
   subst e;obtain rfl:=hx.inj hy;exact Aa (Cg (Ac (by simpa using h)))
 · rw[if_neg hab];refine Aa (Cn (op:= .Eq) hx.typeIs hy.typeIs Du
    (Bb Du hx.typeIs PySem.F.entry_tuple_eq (Xz (by show A.units+1<cLine;exact hu) hx hy ⟨_,rfl,(λe=>nomatch e),Bp h⟩) (PySem.F.args_tuple_eq_2 _ _)) (by omega))
theorem ziH{p:WP}{Q:Bool→Shared→Prop}(hk:IsTupleKey (Nw prog w) s.heap (LK p) b)(h:Q true s):wpAny (model prog w) A (eqIsQuiet (n+1) (.ref b)) Q E s:=by
 have ty:=hk.typeIs;obtain⟨o,its,m,h1,_,h2,h3⟩:=hk;unfold eqIsQuiet;refine Aa (BX ty Du.lookup ?_);show wpAny _ _ (isInstance (.ref b) (.type "tuple")>>=_) _ _ s;refine Aa (Dx ty isSubtype_tuple_tuple ?_);simp only[Cs,A8,if_false];refine Aa (Bc h1 h2 (Aa ?_));show wpAny _ _ (forIn its _ _) _ _ s;rw[←C2];refine BR _ (λIo r s'=>r.1=none∧s'=s∧∀v∈Io,carriedByValue v=true) _ ?step ?done _ _ ⟨rfl,rfl,h3.byValue⟩
 case step=> rintro v Io r s' ⟨hr,rfl,al⟩;rw[eqIsQuiet_byValue _ (al v Ai)];refine Aa (Ac ?_);simp only[Cs,A8,if_false];exact Ac ⟨rfl,rfl,λu hu'=>al u (Ag _ hu')⟩
 case done=> rintro⟨r1,r2⟩ s' ⟨hr,rfl,_⟩;simp only at hr;subst hr;exact Ac h
theorem Q5{ws:List WP}{Q:Bool→Shared→Prop}(hk:IsWishKey prog w s.heap ws a)(h:Q true s):wpAny (model prog w) A (eqIsQuiet 8 (.ref a)) Q E s:=by
 have ty:=hk.typeIs;obtain⟨o,its,m,h1,_,h2,h3⟩:=hk;unfold eqIsQuiet;refine Aa (BX ty Du.lookup ?_);show wpAny _ _ (isInstance (.ref a) (.type "tuple")>>=_) _ _ s;refine Aa (Dx ty isSubtype_tuple_tuple ?_);simp only[Cs,A8,if_false];refine Aa (Bc h1 h2 (Aa ?_));show wpAny _ _ (forIn its _ _) _ _ s;rw[←C2];refine BR _ (λIo r s'=>r.1=none∧s'=s∧∃ws',RefsAre prog w s.heap ws' Io) _ ?step ?done _ _ ⟨rfl,rfl,ws,h3⟩
 case step=>
  rintro v Io r s' ⟨hr,rfl,ws',hl⟩;cases hl with
  | @cons p c ps _ c1 hl'=> refine Aa (ziH c1 ?_);simp only[Cs,A8,if_false];exact Ac ⟨rfl,rfl,ps,hl'⟩
 case done=> rintro⟨r1,r2⟩ s' ⟨hr,rfl,_⟩;simp only at hr;subst hr;exact Ac h
def NH(prog:AY)(w:World):HeapKind prog w (List WP) where
 is:=IsWishKey prog w
 hash:=Pt w
 draws:=λws=>4*ws.length+1
 room:=λA=>A.units+1<cLine
 inj:=λhx hy=>hx.inj hy
 keeps:=λx ho hd hs=>x.keeps ho hd hs
 pyHash:=λhu hk h=>Vr hu hk h
 eqBool:=λhu hx hy h=>To hu hx hy h
 quiet:=λhk h=>Q5 hk h
theorem Qm{ws:List WP}(hok:HOk P w H h)(e:WishAt H a ws):IsWishKey P w h ws a:=by
 obtain⟨ps,rfl,hA,hP⟩:=e;obtain⟨_,its,rv,o,h1,h2,_,n,h3⟩:=(show ObjOk P w H h a (.tup (ps.map λp=>V.ref p.1)) from hok a _ hA);refine⟨o,its.toArray,n,h1,h2,h3,?_⟩;rw[CD];clear hA h1 h3
 induction ps generalizing its with
 | nil=>cases rv;exact .nil
 | cons p ps ih=>
  rw[Ax] at rv;cases rv with
  | @cons _ u _ us r1 r2=>
   cases r1;refine .cons ?_ (ih (λx hx=>hP x (Ag _ hx)) (by rename_i hz;rw[Ax,AB] at hz;omega) us r2);obtain⟨_,it2,rv2,o2,k1,k2,_,m,k3⟩:=(show ObjOk P w H h p.1 (.tup [V.str p.2.1,eV p.2.2.1,eV p.2.2.2]) from hok p.1 _ (hP p Ai));refine⟨o2,it2.toArray,m,k1,k2,k3,?_⟩;rw[CD];have end_is:∀(e:Option Int)(v:Value),RelV (eV e) v→O3 (.inl e) v=true:=λe v r=>by
    cases e with
    | none=>cases(show v=Value.none from r);rfl
    | some i=>obtain⟨t,rfl⟩:=(show ∃t,v=Value.int i t from r);exact Vt i t
   cases rv2 with
   | @cons _ u1 _ _ a1 rv2=>
    cases rv2 with
    | @cons _ u2 _ _ a2 rv2=>
     cases rv2 with
     | @cons _ u3 _ _ a3 rv2=> cases rv2;obtain⟨t,rfl⟩:=(show ∃t,u1=Value.str p.2.1 t from a1);exact .cons (Vu _ t) (.cons (end_is _ _ a2) (.cons (end_is _ _ a3) .nil))
def KeyRow(h:Heap)(d:Addr)(as:List Addr)(ep:Nat):Prop:=∃o es,h.get? d=some o∧o.ExactDict∧o.data= .dict es ep∧es.toList.map (·.key)=as.map Value.ref
theorem KeyRow.at'{h':Heap}{d:Addr}{as:List Addr}{ep:Nat}(x:KeyRow h d as ep)(k:∀o,h.get? d=some o→h'.get? d=some o):KeyRow h' d as ep:=let⟨o,es,ho,r⟩:=x;⟨o,es,k o ho,r⟩
theorem KeyRow.typeIs{d:Addr}{as:List Addr}{ep:Nat}(x:KeyRow s.heap d as ep):s.TypeIs (.ref d) "dict":=let⟨o,_,ho,hc,_⟩:=x;⟨o,ho,hc.1⟩
theorem KeyRow.size{h:Heap}{d:Addr}{as:List Addr}{ep:Nat}{es:Array DictEntry}(e:es.toList.map (·.key)=as.map Value.ref):es.size=as.length:=by have:=congrArg Dk e;simpa using this
section
variable{it d:Addr}{ep:Nat}{as:List Addr}
theorem Ze{Q:Value→Shared→Prop}(hd:(d==Cp)=false)(R:KeyRow s.heap d as ep)
 (q:Q (.ref s.heap.objs.size) {s with heap:=s.heap.push {cls:= .type "dict_keyiterator",data:= .fields #[.ref d,.int 0 0,.int as.length 0,.int ep 0]}}):wpAny (model prog w) A (pyIter (.ref d)) Q E s:=by
 have ty:=R.typeIs;obtain⟨o,es,h1,h2,h3,h4⟩:=R;refine wpAny_pyIter_slot ty FJ (Bb FJ ty PySem.F.entry_dict_iter ?go (PySem.F.args_dict_iter_1 _))
 case go=> unfold Builtin.«dict.__iter__» Builtin.Dict.dictSlotNone;refine Aa (Aa (wpAny_notOrdered_dict ty ?_));refine Ac ?_;show wpAny _ _ (FS d>>=_) _ _ s;unfold FS;rw[if_neg (by rw[hd];exact Ar)];refine Aa (Ac (Aa (EX h1 h3 (Aa (F7 h1 h3 ?_)))));refine Aa (Be (Ac ⟨_,rfl,"dict_keyiterator",_,⟨_,Ay _ rfl,rfl⟩,BK.lookup,?_⟩));simpa [rawInt,KeyRow.size (h:=s.heap) (d:=d) (ep:=ep) h4] using q
theorem Y2{Q:Option Value→Shared→Prop}(hi:s.heap.IsKeyIter it d i as.length ep)(R:KeyRow s.heap d as ep)(ha:as[i]?=some a)
 (q:∀h',h'.IsKeyIter it d (i+1) as.length ep→C6 it s.heap h'→Q (some (.ref a)) {s with heap:=h'}):wpAny (model prog w) A (pyNext (.ref it)) Q E s:=by
 obtain⟨o,g1,g2,g3⟩:=id hi;obtain⟨od,es,h1,h2,h3,h4⟩:=R;have sz:es.size=as.length:=KeyRow.size (h:=s.heap) (d:=d) (ep:=ep) h4;have lt:i<es.size:=by rw[sz];exact(Al.mp ha).1
 have ky:es[i].key= .ref a:=by
  have h5:(es.toList.map (·.key))[i]?=some es[i].key:=by rw[Aj];simp[lt]
  rw[h4,Aj,ha] at h5;exact(AD h5).symm
 unfold pyNext;refine Aa (Ej (Bn (name:=Ca "__next__") hi.typeIs BK (Bb BK hi.typeIs DO ?go (DM _))))
 case go=>
  refine Aa (Ac (Aa (Aa ?_)))
  first | refine Aa (CA hi.typeIs (Ac ?_)) | refine Aa (De hi.typeIs (Ac ?_))
  refine Aa (wpAny_fieldsOf g1 g3 ?_);simp only[show EB "dict_keyiterator"=false by decide,A8,if_false];show wpAny _ _ (if(Value.ref d==Value.none)=true then _ else _) _ _ s
  rw[if_neg (by intro z;cases z)];refine Aa (Ac (Aa (EX h1 h3 ?_)));rw[if_neg (by rw[sz];simp)];refine Aa (Ac (Aa (F7 h1 h3 ?_)));rw[if_neg (by simp)];refine Ac ?_;simp only[show ¬((i:Int)<0) by omega,if_false,CV,D9 lt];refine Aa ?_
  first | refine Aa (CA hi.typeIs (Ac ?_)) | refine Aa (De hi.typeIs (Ac ?_))
  refine Aa (wpAny_isOneOf_keyiter hi.typeIs ?_);show wpAny _ _ (setField (.ref it) 1 (rawInt ((i:Int)+1))>>=_) _ _ s;refine Aa (EA g1 g3 (by simp) ?_);have hi':(s.heap.update it (Obj.mapFields (·.setIfInBounds 1 (rawInt ((i:Int)+1))))).IsKeyIter it d (i+1) as.length ep:=
   ⟨_,Dp _ g1 (FP (DI g3 _)),(Obj.cls_mapFields ..).trans g2,by rw[DI g3];simp[rawInt]⟩
  refine Aa (AZ (Aa (wpAny_isOneOf_keyiter (s:={s with heap:=s.heap.update it (Obj.mapFields (·.setIfInBounds 1 (rawInt ((i:Int)+1))))}) hi'.typeIs ?_)))
  show wpAny _ _ (pure es[i].key) _ _ _;rw[ky];exact Ac (Ac ⟨_,rfl,Ac (q _ hi' (BH ..))⟩)
theorem Xx{Q:Option Value→Shared→Prop}(hh:A.handled=none)(hi:s.heap.IsKeyIter it d i as.length ep)(R:KeyRow s.heap d as ep)(ha:as.length≤i)
 (q:∀h',Heap.ExtBut it s.heap h'→Q none {s with heap:=h'}):wpAny (model prog w) A (pyNext (.ref it)) Q E s:=by
 obtain⟨o,g1,g2,g3⟩:=id hi;obtain⟨od,es,h1,h2,h3,h4⟩:=R;have sz:es.size=as.length:=KeyRow.size (h:=s.heap) (d:=d) (ep:=ep) h4;unfold pyNext;refine Aa (Ej (Bn (name:=Ca "__next__") hi.typeIs BK (Bb BK hi.typeIs DO ?go (DM _))))
 case go=>
  refine Aa (Ac (Aa (Aa ?_)))
  first | refine Aa (CA hi.typeIs (Ac ?_)) | refine Aa (De hi.typeIs (Ac ?_))
  refine Aa (wpAny_fieldsOf g1 g3 ?_);simp only[show EB "dict_keyiterator"=false by decide,A8,if_false];show wpAny _ _ (if(Value.ref d==Value.none)=true then _ else _) _ _ s
  rw[if_neg (by intro z;cases z)];refine Aa (Ac (Aa (EX h1 h3 ?_)));rw[if_neg (by rw[sz];simp)];refine Aa (Ac (Aa (F7 h1 h3 ?_)));rw[if_neg (by simp)];refine Ac ?_;simp only[show ¬((i:Int)<0) by omega,if_false,CV,Array.getElem?_eq_none (show es.size≤i by omega)];refine Aa ?_
  first | refine Aa (CA hi.typeIs (Ac ?_)) | refine Aa (De hi.typeIs (Ac ?_))
  show wpAny _ _ (setField (.ref it) 0 .none>>=_) _ _ s;refine Aa (EA g1 g3 (by simp) ?_);show wpAny _ _ (newExc (Value.type "StopIteration") []>>=_) _ _ _;refine Aa ?_;unfold newExc newTuple;refine Aa (Be ?_ (by size_fits));refine Aa (m:=firstArgMember _ _) (FC (a:=Value.none) (by first | rfl | (simp only[firstArgMember];rfl)) ?_)
  refine Be ?_ (by size_fits);unfold raiseNew;refine Aa (wpAny_handled ?_);rw[show A.in1.handled=none from hh];refine Aa (Ac (wpAny_throw ?_));refine Aa (Dx (T:="StopIteration") (b:=true) ⟨_,Ay _ rfl,rfl⟩ isSubtype_stop ?_);exact Ac (q _ (((BH ..).extBut.push _).push _))
end
def Ka(d:Addr)(as:List Addr)(ep:Nat):Heap→Prop:=λh=>(d==Cp)=false∧KeyRow h d as ep
def Pn(a:Addr)(as:List Addr)(ep:Nat):It:=
 ⟨λi H=>i<as.length∧H a=some (.ext (Ka a as ep)),λi H x H'=>H'=H∧∃f,as[i]?=some f∧x= .ref f,λi H=>as.length≤i∧H a=some (.ext (Ka a as ep))⟩
theorem Z5{K:Ad}{tg:Expr}(a it:Addr)(as:List Addr)(ep:Nat):Turn P w K tg (Pn a as ep) [it] it (λi h=>h.IsKeyIter it a i as.length ep) where
 mem:=by simp
 obj:=λi h st b hb=>by
  have e:b=it:=by simpa using hb
  subst e;obtain⟨o,e,c,d⟩:=st;exact⟨o,e,λv z=>by rw[d] at z;cases z⟩
 keep:=λi h h' st k=>let⟨o,e,r⟩:=st;⟨o,k it (by simp) o e,r⟩
 item:=by
  intro X hP hw hK hc i pins s σ H E I hfp st hg;subst hP hw hK;obtain⟨hi,hH⟩:=hg;have R:=(show ObjOk X.prog X.w H s.heap a (.ext (Ka a as ep)) from I.hok a _ hH).1.2;obtain⟨f0,f1,f2,f3,f4,f5⟩:=hfp it (by simp);have ha:as[i]?=some as[i]:=by simp
  refine Y2 st R ha λh' hit' hs'=>?_;have I1:Inv X pins σ H {s with heap:=h'}:=I.turned (t':=s.toks) (λb o hb e=>hs'.extBut b o hb e) f0 f1 f3 f4 f5
  obtain⟨o2,e,c,d⟩:=id hit';exact⟨_,rfl,MJ (s:={s with heap:=h'}) e c d (by decide) ⟨.ref as[i],H,I1,rfl,⟨rfl,_,ha,rfl⟩,hit',λb hb=>(hfp b hb).1⟩⟩
 done:=by intro X hP hw hK hc i pins s σ H E I hfp st hg;subst hP hw hK;obtain⟨hi,hH⟩:=hg;have R:=(show ObjOk X.prog X.w H s.heap a (.ext (Ka a as ep)) from I.hok a _ hH).1.2;obtain⟨f0,f1,f2,f3,f4,f5⟩:=hfp it (by simp);exact Xx (I.ok.hd hc) st R hi λh' eb=>⟨rfl,I.turned (t':=s.toks) (λb o hb e=>eb b o hb e) f0 f1 f3 f4 f5⟩
 self:=λ_ _ _ _ _ st h=>wpAny_pyIter_keyiter st h
section
variable{tg:Expr}
def RO(tl:TE):TI:=λσ H R=>tl σ H λx H1=>∃(a:Addr)(as:List Addr)(ep:Nat),x= .ref a∧H1 a=some (.ext (Ka a as ep))∧R (Pn a as ep) H1
theorem XA{l:Expr}{tl:TE}(hl:PE X l tl):PI X tg l (RO tl):=by
 intro pins s σ H R I h;refine Il (hl pins s σ H _ I h) λv s1 ⟨x,H1,I1,r1,q1⟩=>?_;obtain⟨a,as,ep,e,hH,q⟩:=q1;subst e;cases r1;have R:=(show ObjOk X.prog X.w H1 s1.heap a (.ext (Ka a as ep)) from I1.hok a _ hH).1;refine Ze R.1 R.2 ?_;refine⟨s1.heap.objs.size,[s1.heap.objs.size],_,_,H1,rfl,I1.kept (t':=s1.toks) λb o e=>Ae _ e,Z5 a _ as ep,⟨_,Ay _ rfl,rfl,rfl⟩,λb hb=>?_,q⟩;have e:b=s1.heap.objs.size:=by simpa using hb
 subst e;exact I1.fpOk (Af _) (I1.hok.fresh (Af _))
end
theorem XS{a p:Addr}{as:List Addr}{ep:Nat}{g:TG}{tc:TT}{te:TE}{Q:VK}{js:I_}(Pv:Nat→St→List V→Hp→Prop)(h0:Pv 0 (J6 js σ) [] (upd H p (.lst [])))
 (hl:∀i σ ys H,i≤as.length→Pv i σ ys H→H a=some (.ext (Ka a as ep))∧H p=some (.lst ys)∧ys.length<A1)
 (hs:∀(i:Nat)x σ ys H(N:St→List V→Hp→Prop),as[i]?=some x→Pv i σ ys H→(∀σ' ys' H',Pv (i+1) σ' ys' H'→N σ' ys' H')→LU p g tc te ys (.ref x) σ H N)
 (hd:∀σ ys H,Pv as.length σ ys H→Q (.ref p) H):K5 (Pn a as ep) p js g tc te σ H Q:=
 Mv (n:=as.length) (J:=Pn a as ep) (js:=js) (σ:=σ) (H:=H) (p:=p) (Q:=Q) (g:=g) (tc:=tc) (te:=te) Pv h0 (λi σ ys H hi pv=>(hl i σ ys H hi pv).2)
  (λi σ ys H hi pv=>⟨hi,(hl i σ ys H (Bo hi) pv).1⟩) (λσ ys H pv=>⟨Af _,(hl _ σ ys H (Af _) pv).1⟩)
  (λi x σ ys H H' N hi y pv hN=>by obtain⟨rfl,f,hf,rfl⟩:=y;exact hs i f σ ys _ N hf pv hN) hd
def Lj(k:Addr×List WP):List WP×Addr×Value:=(k.2,k.1,.bool true)
def Jl(P:AY)(w:World)(d:Addr)(ks:List (Addr×List WP)):Heap→Prop:=λh=>(d==Cp)=false∧∃o es ep,h.get? d=some o∧o.ExactDict∧o.data= .dict es ep∧es.toList=(ks.map Lj).map (entryOfKey (NH P w))∧((ks.map Lj).map (·.1)).Nodup
def Kt(ks:List (Addr×List WP))(a:Addr)(w:List WP):List (Addr×List WP):=if(ks.any λk=>decide (k.2=w))=true then ks else ks++[(a,w)]
section
variable{d:Addr}{ks:List (Addr×List WP)}
theorem Tp{P':AY}{w':World}(x:Jl P w d ks h):ObjOk P' w' H h d (.ext (Jl P w d ks)):=⟨x,let⟨_,o,_,_,e,_⟩:=x;⟨o,e⟩,λh1 h2 ⟨y,o,es,ep,e,r⟩ k=>⟨y,o,es,ep,k o e,r⟩⟩
theorem X0{as:List Addr}{ep:Nat}(x:Ka d as ep h):ObjOk P w H h d (.ext (Ka d as ep)):=⟨x,let⟨_,o,_,e,_⟩:=x;⟨o,e⟩,λh1 h2 ⟨y,r⟩ k=>⟨y,r.at' k⟩⟩
theorem Z8(h:Heap)(hb:Cp<h.objs.size):Jl P w h.objs.size [] (h.push {cls:= .type "dict",data:= .dict #[]}):=
 ⟨by simpa using C7 hb,_,#[],0,Ay _ rfl,⟨rfl,rfl,rfl⟩,rfl,rfl,EC⟩
theorem ZB(x:Jl P w d ks h):∃(es:Array DictEntry)(ep:Nat),Ka d (ks.map (·.1)) ep h:=by obtain⟨y,o,es,ep,e,c,dt,he,_⟩:=x;refine⟨es,ep,y,o,es,e,c,dt,?_⟩;rw[he,BF,BF,BF];rfl
theorem Yo(x:Jl P w d ks h)(k:∀k∈ks,IsWishKey P w h k.2 k.1):h.DictOfH (NH P w) d (ks.map Lj):=by obtain⟨y,o,es,ep,e,c,dt,he,nd⟩:=x;refine⟨o,es,ep,e,c,dt,he,λz hz=>?_,nd⟩;obtain⟨q,hq,rfl⟩:=Az.mp hz;exact k q hq
theorem Z9(hd:(d==Cp)=false)(x:h.DictOfH (NH P w) d (ks.map Lj)):Jl P w d ks h:=by obtain⟨o,es,ep,e,c,dt,he,_,nd⟩:=x;exact⟨hd,o,es,ep,e,c,dt,he,nd⟩
theorem ziC(ks:List (Addr×List WP))(a:Addr)(v:List WP):storedH (ks.map Lj) v a (.bool true)=(Kt ks a v).map Lj:=by
 unfold Kt;by_cases h:(ks.any λk=>decide (k.2=v))=true
 · rw[if_pos h];have ne:atKey (ks.map Lj) v≠none:=by
    obtain⟨k,hk,e⟩:=Cf.mp h;unfold atKey;intro z;have:=Option.map_eq_none_iff.mp z;exact absurd e (Cz.mp this (Lj k) (AF hk))
   obtain⟨p,hp⟩:=Option.ne_none_iff_exists'.mp ne;rw[storedH_old hp,BF];refine E6 λk _=>?_;unfold putAt Lj;simp only[Function.comp]
   split<;>rfl
 · rw[if_neg h,Ao];have:atKey (ks.map Lj) v=none:=by
    unfold atKey;rw[Option.map_eq_none_iff,List.find?_eq_none];intro x hx z;obtain⟨k,hk,rfl⟩:=Az.mp hx;exact h (Cf.mpr ⟨k,hk,z⟩)
   rw[storedH_new this];rfl
end
def T5(J:It)(p:Addr)(js:I_)(g:TG)(tc:TT)(tk tv:TE)(σ:St)(H:Hp)(Q:VK):Prop:=
 ∃W:Nat→Nat→St→List (Addr×List WP)→Hp→Prop,(∃m,∀φ,W 0 m (J6 js σ) [] (upd H p (.ext φ)))∧∀i m σ' ks H,W i m σ' ks H→(∀k∈ks,WishAt H k.1 k.2)∧ks.length≤900∧
  ((J.stop i H∧∀ep,Q (.ref p) (upd H p (.ext (Ka p (ks.map (·.1)) ep))))∨(J.go i H∧∀x H',J.yld i H x H'→g x σ' H' λσ2 H2=>tc σ2 H2 λb H3=>
    if b=true then tk σ2 H3 λk H4=>tv σ2 H4 λy H5=>∃a w,k= .ref a∧y= .bl true∧WishAt H5 a w∧(∀k∈ks,WishAt H5 k.1 k.2)∧H5 p=H p∧∀φ,∃m',m'<m∧W (i+1) m' σ2 (Kt ks a w) (upd H5 p (.ext φ))
    else H3 p=H p∧∃m',m'<m∧W (i+1) m' σ2 ks H3))
def Rs(wi:TI)(js:I_)(g:TG)(tc:TT)(tk tv:TE):TE:=λσ H Q=>wi σ H λJ H1=>∀p,H1 p=none→T5 J p js g tc tk tv σ H1 Q
section
variable{tg iter kx vx:Expr}{ifs:List Expr}{wi:TI}{js:I_}{g:TG}{tc:TT}{tk tv:TE}{N':List Str}
theorem Z2{pins:List (Addr×Obj)}{σ:St}{H:Hp}{s:Shared}{E:Value→Shared→Prop}{Q:VK}{J:It}{it:Addr}{fp:List Addr}{tn:Nat→Heap→Prop}{cl:List (Str×Addr)}
 (hr:Ke X) (hc:X.calm=true) (ok:CapOk X N' js scope)
 (h2:∀x c,cl.lookup x=some c→X.env.cells.lookup x=some c) (h3:∀p∈scope.names,p.2= .free→(cl.lookup p.1).isSome=true)
 (hg:∀cl C s₀ H₀ ex,PG (IP X N' scope cl C s₀ H₀ ex) tg g) (ht:∀cl C s₀ H₀ ex,IU (IP X N' scope cl C s₀ H₀ ex) ifs tc) (he:∀cl C s₀ H₀ ex,PE (IP X N' scope cl C s₀ H₀ ex) kx tk) (hv:∀cl C s₀ H₀ ex,PE (IP X N' scope cl C s₀ H₀ ex) vx tv)
 (I:Inv X pins σ H s) (T:Turn X.prog X.w X.K tg J fp it tn) (st:tn 0 s.heap) (hf:∀b∈fp,Ix X pins H b)
 (hw:∀p,H p=none→T5 J p js g tc tk tv σ H Q):
 wpAny (model X.prog X.w) X.A newDict (λacc s₃=>wpAny (model X.prog X.w) X.A (newFunctionEnv scope X.env.globals cl [] X.env.qual none .none (some X.env)) (λcenv s₄=>
  codeAny (model X.prog X.w) X.A (.compStart (.DictComp kx vx [⟨tg,iter,ifs,0⟩] scope pos) 0 (.ref it) acc {cenv with scope:=relabel scope X.env})
   (λr s'=>r= .ok .next∧(∃m,s'.heap.Ns cenv.locals m)∧∃v H',RelV v acc∧Inv X pins σ H' s'∧Ix X pins H' cenv.locals∧Q v H') s₄) E s₃) E s:=by
 have objs:=T.obj _ _ st;refine Be ?_;obtain⟨W,⟨m0,w0⟩,turn⟩:=hw s.heap.objs.size (I.hok.fresh (Af _));generalize hp:s.heap.objs.size=p at*;have kp:∀b u,s.heap.get? b=some u→(s.heap.push {cls:= .type "dict",data:= .dict #[]}).get? b=some u:=λb u e=>Ae _ e;have I3:Inv X pins σ (upd H p (.ext (Jl X.prog X.w p []))) {s with heap:=s.heap.push {cls:= .type "dict",data:= .dict #[]}}:=by subst hp;exact I.laid (t':=s.toks) kp (Af _) (Tp (Z8 s.heap I.big))
 have fne:∀b∈fp,b≠p:=λb hb=>by obtain⟨o,e,_⟩:=objs b hb;have:=Aq e;rw[←hp];exact A3 this
 have hf3:∀b∈fp,Ix X pins (upd H p (.ext (Jl X.prog X.w p []))) b:=λb hb=>⟨by rw[Iy (fne b hb)];exact(hf b hb).1,(hf b hb).2⟩;have st3:tn 0 (s.heap.push {cls:= .type "dict",data:= .dict #[]}):=T.keep _ _ _ st λb _ o e=>kp b o e;have lt3:∀b∈fp,b<(s.heap.push {cls:= .type "dict",data:= .dict #[]}).objs.size:=λb hb=>by obtain⟨o,e,_⟩:=objs b hb;exact Aq (kp b o e)
 generalize hs3:({s with heap:=s.heap.push {cls:= .type "dict",data:= .dict #[]}}:Shared)=s3 at*
 have eh:s.heap.push {cls:= .type "dict",data:= .dict #[]}=s3.heap:=by rw[←hs3]
 rw[eh] at st3 lt3;refine NL ok.cells λcl h₁ hns₁ k4 oc=>?_;have I4:=NB (cl:=cl) (h₁:=h₁) (t':=s3.toks+([]:List (Str×Value)).length) ok I3 h2 h3 hf3 lt3 k4 hns₁ oc;have st4:tn 0 h₁:=T.keep _ _ _ st3 λb _ o e=>k4 b o e;generalize hX:IP X N' scope cl s3.heap.objs.size s3 (upd H p (.ext (Jl X.prog X.w p []))) fp=X' at I4;have hg':PG X' tg g:=by rw[←hX];exact hg _ _ _ _ _
 have ht':IU X' ifs tc:=by rw[←hX];exact ht _ _ _ _ _
 have he':PE X' kx tk:=by rw[←hX];exact he _ _ _ _ _
 have hv':PE X' vx tv:=by rw[←hX];exact hv _ _ _ _ _
 have eP:X'.prog=X.prog:=by rw[←hX];rfl
 have ew:X'.w=X.w:=by rw[←hX];rfl
 have eK:X'.K=X.K:=by rw[←hX];rfl
 have ec:X'.calm=true:=by rw[←hX];exact hc
 have eA:X'.A=X.A:=by rw[←hX];rfl
 have ex:X'.xe=λ_ _=>False:=by rw[←hX];rfl
 have eE:X'.env=compEnvC scope cl s3.heap.objs.size X.env:=by rw[←hX];rfl
 have eEx:X'.ex=fp:=by rw[←hX];rfl
 have eN:X'.pn=[]:=by rw[←hX];rfl
 have stat:∀{H':Hp},(∀b∈fp,H' b=none)→∀b∈fp,Ix X' [] H' b:=λ{H'}hn b hb=>by have okc:=I4.ok;refine⟨hn b hb,(okc.exf b (by rw[eEx];exact hb)).1,okc.exfs b (by rw[eEx];exact hb),.inl (by rw[eEx];exact hb),(okc.exf b (by rw[eEx];exact hb)).2,λq hq=>?_⟩;rw[eN] at hq;cases hq
 have loop:∀s₄:Shared,s₄={s3 with heap:=h₁,toks:=s3.toks+([]:List (Str×Value)).length}→
  codeAny (model X.prog X.w) X.A (.compLoop (.DictComp kx vx [⟨tg,iter,ifs,0⟩] scope pos) 0 (.ref it) (.ref p) (compEnvC scope cl s3.heap.objs.size X.env))
   (λr s'=>r= .ok .next∧(∃m,s'.heap.Ns s3.heap.objs.size m)∧∃v H',RelV v (.ref p)∧Inv X pins σ H' s'∧Ix X pins H' s3.heap.objs.size∧Q v H') s₄:=by
  rintro s₄ rfl;refine V_ (λn s'=>∃i σ' ys H',Inv X' [] σ' H' s'∧tn i s'.heap∧(∀b∈fp,H' b=none)∧H' p=some (.ext (Jl X.prog X.w p ys))∧W i n σ' ys H') ?_ m0 ⟨0,_,[],_,I4,st4,λb hb=>(hf3 b hb).1,Ij,w0 _⟩;rintro n s5 ⟨i,σ5,ys,H5,I5,st5,fr5,hp5,w5⟩;obtain⟨wk5,lk5,tu⟩:=turn i n σ5 ys H5 w5;rcases tu with⟨stop,qn⟩ | ⟨go,step⟩
  · have D:=T.done X' eP ew eK ec i [] s5 σ5 H5 (λ_ _=>False) I5 (stat fr5) st5 stop;rw[eA] at D;refine Il D λr s6 ⟨hr,I6⟩=>?_;subst hr;obtain⟨es0,ep0,row⟩:=ZB ((show ObjOk X'.prog X'.w H5 s6.heap p (.ext (Jl X.prog X.w p ys)) from I6.hok p _ hp5).1);have I3':Inv X' [] σ5 (upd H5 p (.ext (Ka p (ys.map (·.1)) ep0))) s6:=I6.write (t':=s6.toks) (x:=p) (e:=p) (by rw[hp5];exact True.intro) (.inl rfl) (λb u _ z=>z) (let⟨o,_,e,_⟩:=row.2;⟨o,e⟩) (X0 row);refine⟨rfl,?_,.ref p,upd H5 p (.ext (Ka p (ys.map (·.1)) ep0)),rfl,?_,?_,qn ep0⟩
    · obtain⟨m,hm,_⟩:=I6.loc;rw[eE] at hm;exact⟨m,hm⟩
    · have b6:=I3'.base;have ho:=I3'.os;have hk:=I3'.hok;have hb:=I3'.bare;subst hX;exact I3.call' (ch:=fp) ho b6 hk hb λb hb'=>⟨(hf b hb').2.2.2.1,(hf b hb').2.1,(hf b hb').2.2.2.2.1,(hf b hb').2.2.2.2.2⟩
    · have fr:=I3'.free;rw[eE] at fr;exact I3.fpOk (Af _) fr
  · have D:=T.item X' eP ew eK ec i [] s5 σ5 H5 (λ_ _=>False) I5 (stat fr5) st5 go;rw[eA] at D;refine Il D λr s6 ⟨u,hr,h6⟩=>?_;subst hr;refine Il h6 λ_ s7 ⟨x,H7,I7,r7,y7,st7,fr7⟩=>?_;have I7':=I7.pinned (stat fr7) (T.obj _ _ st7);have G:=hg' _ s7 σ5 H7 x u _ I7' r7 (step x H7 y7);rw[eP,ew,eA,ex,eE] at G;refine Il G λ_ s8 ⟨σ8,H8,I8,q8⟩=>?_;have Tt:=ht' _ s8 σ8 H8 _ I8 q8;rw[eP,ew,eA,ex,eE] at Tt;refine Il Tt λb s9 ⟨H9,I9,q9⟩=>?_;have again:∀{s':Shared}{ys':List (Addr×List WP)}{H':Hp},Inv X' ([]++Ls fp s7.heap) σ8 H' s'→H' p=some (.ext (Jl X.prog X.w p ys'))→(∃m',m'<n∧W (i+1) m' σ8 ys' H')→
     ∃m,m<n∧∃i σ' ys H',Inv X' [] σ' H' s'∧tn i s'.heap∧(∀b∈fp,H' b=none)∧H' p=some (.ext (Jl X.prog X.w p ys))∧W i m σ' ys H':=λ{s' ys' H'}I' hp' ⟨m',hm,w'⟩=>by
     refine⟨m',hm,i+1,σ8,ys',H',I'.unpinned,T.keep _ _ _ st7 λb hb o e=>(I'.pin (b,o) (Ah _ (Ah _ (K4 hb e)))).1,λb hb=>?_,hp',w'⟩;obtain⟨o,e,d⟩:=T.obj _ _ st7 b hb;exact(I'.pin (b,o) (Ah _ (Ah _ (K4 hb e)))).2.1
    cases b with
    | false=> obtain⟨e9,q9⟩:=q9;exact again I9 (e9.trans hp5) q9
    | true=> have Ee:=he' _ s9 σ8 H9 _ I9 q9;rw[eP,ew,eA,ex,eE] at Ee;show wpAny _ _ _ _ _ _;refine Il Ee λkv s10 ⟨kk,H10,I10,r10,q10⟩=>?_;have Ev:=hv' _ s10 σ8 H10 _ I10 q10;rw[eP,ew,eA,ex,eE] at Ev;refine Il Ev λvv s11 ⟨y,H11,I11,r11,a,wv,ek,ey,wa,wks,hp11,q11⟩=>?_;subst ek ey;cases(show kv=Value.ref a from r10);cases(show vv=Value.bool true from r11);have hp11':=hp11.trans hp5;have ph:=(show ObjOk X'.prog X'.w H11 s11.heap p (.ext (Jl X.prog X.w p ys)) from I11.hok p _ hp11').1;have hok:=I11.hok;rw[eP,ew] at hok;refine wpAny_dictSet_heap (knd:=NH X.prog X.w) (xs:=ys.map Lj) (k:=wv) (by show X.A.units+1<cLine;unfold Ke at hr;omega) (Qm hok wa) (Yo ph λk hk=>Qm hok (wks k hk)) (λh' dd' hs'=>?_) (by rw[Ab,sizeLine_eq];omega);rw[ziC] at dd';have he0:∃q,h'.get? p=some q:=let⟨q,_,_,hq,_⟩:=dd';⟨q,hq⟩;have I12:=PX (t':=s11.toks+(NH X.prog X.w).draws wv) (ob:= .ext (Jl X.prog X.w p (Kt ys a wv))) I11 (by rw[hp11'];exact True.intro) hs' he0 (Tp (Z9 ph.1 dd'));exact again I12 Ij (q11 _)
 exact FF (loop _ rfl) (T.self _ 0 _ _ _ st4 (loop _ rfl))
end
def Ry(outer scope:Scope):Scope:={scope with names:=scope.names.map λ(n,k)=>if(k== .free && outer.kind== .function && outer.names.lookup n==some .cell) then(n,.cell) else(n,k)}
def Wy(st:Stmt)(k:Nat):Scope:=match st with
 | .FunctionDef _ _ b _ _ _ _ _ _ _=>(match b[k]? with
  | some (.Assign _ (.ListComp _ _ sc _) _)=>sc
  | _=>Iu st)
 | _=>Iu st
def OE(K:Ad):R2:=λx y H Q=>∃(l:Addr)(ps:List (Addr×PD))(d:PD),y= .ref l∧SqL K H l (ps.map λp=>V.ref p.1)∧(∀p∈ps,Rep K H p.2 (.ref p.1)∧Jk p.2≤20)∧Rep K H d x∧Q (.bl (!ps.any λp=>Ir p.2 d)) H
theorem Nz(hr:Ke X):IY X (A_ .NotIn) (OE X.K):=by
 intro pins s σ H x y v u Q I rx ry h;obtain⟨l,ps,d,rfl,hq,hp,hd,q⟩:=h;cases ry;obtain⟨its,r,pl,hz⟩:=I.list hq;obtain rfl:=Qz r;have at':∀p∈ps,Mg ps d (.ref p.1)=Ir p.2 d:=λp hm=>by
  show((ps.find? λq=>decide (q.1=p.1)).any λq=>Ir q.2 d)=Ir p.2 d;cases e:ps.find? (λq=>decide (q.1=p.1)) with
  | none=>exact absurd (decide_eq_true rfl) (Cz.mp e p hm)
  | some p'=> have h1:p'.1=p.1:=of_decide_eq_true (DC (p:=λ(q:Addr×PD)=>decide (q.1=p.1)) e);have h2:=(hp p' (Db e)).1;rw[h1] at h2;rw[Option.any_some,Nr I _ _ _ h2 (hp p hm).1]
 refine SeqAt.notIn_listAt (Mg ps d) pl.isList (λz hz'=>?_) ⟨.bl _,H,I,rfl,?_⟩
 · obtain⟨p,hm,rfl⟩:=Az.mp (show z∈ps.map λp=>Value.ref p.1 by simpa using hz');rw[at' p hm];have:=(hp p hm).2;exact OP I _ p.2 d _ _ _ _ (hp p hm).1 hd rfl rx (by have:=hr;simp only[Ke,Ce] at*;omega)
 · have e:(ps.map λp=>Value.ref p.1).toArray.any (Mg ps d)=ps.any λp=>Ir p.2 d:=by
    rw[List.any_toArray,C8];have:∀qs:List (Addr×PD),(∀q∈qs,q∈ps)→qs.any (Mg ps d∘λp=>Value.ref p.1)=qs.any λp=>Ir p.2 d:=λqs=>by
     induction qs with
     | nil=>intro _;rfl
     | cons q qs ih=> intro h;rw[BV,BV,ih λx hx=>h x (Ag _ hx)];congr 1;exact at' q (h q Ai)
    exact this ps λ_ h=>h
   rw[e];exact q
def UE:Sp:=λvs H Q _=>∃(b g l a:Addr)(n:Int)(xs:List V),vs=[.ref b,.ref a]∧Well H b g l n∧n≤10^6∧H a=some (.lst xs)∧a≠b∧a≠g∧xs.length≤100∧
 ∀(r:Addr)(ys:List V)(H':Hp),H r=none→H' r=some (.lst ys)→ys.Perm xs→Well H' b g l (n+100)→SameB b g H H'→Q (.ref r) H'
theorem SQ{o:Expr}{es:List Expr}{to:TE}{t:TA}{name:Str}{apos cpos:Pos}{T id:String}{r:V→List V→Hp→VK→Prop}(K:Ad)(hK:X.K=K)(pa:PlainAttrs T)(slot:Slot T name id)(hty:typeOf (.builtin id)=pure (.type "method_descriptor"))(hm:Wp X id r)(ho:PE X o to)(ha:PA X (e::es) t)
 (hbase:attributeBase o name X.env (eval o X.env)=eval o X.env:=by rfl)
 (hfew:((backTo cpos (A7 (e::es) X.env)).all (λx=>!x.1) && (backToKw cpos (keywordEach [] X.env)).all (λx=>x.1.isSome)
  && decide ((e::es).length+([]:List Keyword).length+(if([]:List Keyword).isEmpty then 0 else 1)<30))=true:=by rfl)
 (hline:(apos.endLine==cpos.line)=true:=by rfl) (hs:A7 (e::es) X.env=(false,eval e X.env)::A7 es X.env:=by rfl) (hplain:(backTo cpos (A7 es X.env)).any (·.1)=false:=by rfl):
 PE X (.Call (.Attribute o name apos) (e::es) [] cpos) (Wh K T r to t):=by
 subst hK;exact KE pa slot hty hm ho ha hbase hfew hline hs hplain
theorem QN{α:Type}:∀(l:List α)(k:Nat)(h:k<l.length),(l[k]::l.eraseIdx k).Perm l
 | [],_,h=>by simp at h
 | a::l,0,_=>DP _
 | a::l,k+1,h=>by have ih:=QN l k (by simpa using h);exact(List.Perm.swap a (l[k]'(by simpa using h)) (l.eraseIdx k)).trans (ih.cons a)
theorem VC{α β:Type}{f:α→β}{ys zs:List β}(h:ys.Perm zs):∀l:List α,zs=l.map f→∃l':List α,l'.Perm l∧l'.map f=ys:=by
 induction h with
 | nil=>intro l e;exact⟨l,DP _,e.symm⟩
 | cons x _ ih=>
  intro l e;cases l with
  | nil=>cases e
  | cons a l=>
   rw[Ax] at e;injection e with e1 e2
   obtain⟨l',p,e3⟩:=ih l e2;exact⟨a::l',p.cons a,by rw[Ax,e3,e1]⟩
 | swap x y r=>
  intro l e
  match l,e with
  | a::b::l,e=>
   rw[Ax,Ax] at e;injection e with e1 e2
   injection e2 with e2 e3
   exact⟨b::a::l,List.Perm.swap _ _ _,by rw[Ax,Ax,e1,e2,e3]⟩
 | trans _ _ ih1 ih2=> intro l e;obtain⟨l1,p1,e1⟩:=ih2 l e;obtain⟨l2,p2,e2⟩:=ih1 l1 e1.symm;exact⟨l2,p2.trans p1,e2⟩
namespace ST
open PySem.SetTable
def lp(mask:Nat):Nat→Nat×Nat→Nat×Nat
 | 0,s=>s
 | m+1,s=>lp mask m (leap mask s.1 s.2)
theorem OK(mask:Nat):∀(m:Nat)(s:Nat×Nat),lp mask (m+1) s=leap mask (lp mask m s).1 (lp mask m s).2
 | 0,s=>rfl
 | m+1,s=>OK mask m (leap mask s.1 s.2)
theorem Tz(mask:Nat):∀(m:Nat)(s:Nat×Nat),(lp mask m s).2=s.2 / 32^m
 | 0,s=>by simp[lp]
 | m+1,s=>by rw[OK];show(lp mask m s).2 / 32=_;rw[Tz mask m s,Nat.div_div_eq_div_mul,Nat.pow_succ]
theorem SL(mask:Nat):∀(m k:Nat)(s:Nat×Nat),lp mask (m+k) s=lp mask k (lp mask m s)
 | 0,k,s=>by rw[DL];rfl
 | m+1,k,s=>by rw[Nat.add_right_comm];show lp mask (m+k) (leap mask s.1 s.2)=_;rw[SL mask m k];rfl
def On(mask:Nat):Nat→Nat→Nat
 | 0,i=>i
 | k+1,i=>On mask k ((i*5+1)%(mask+1))
theorem T0(mask:Nat):∀(k i:Nat),(lp mask k (i,0)).1=On mask k i
 | 0,i=>rfl
 | k+1,i=>by
  show(lp mask k (leap mask i 0)).1=_;have:leap mask i 0=((i*5+1)%(mask+1),0):=by unfold leap;simp
  rw[this,T0 mask k];rfl
theorem WO:∀i<8,∀e<8,∃k<8,On 7 k i=e:=by decide+kernel
theorem WD:∀i<32,∀e<32,∃k<32,On 31 k i=e:=by decide+kernel
theorem WT(mask:Nat):∀(m:Nat)(s:Nat×Nat),s.1<mask+1→(lp mask m s).1<mask+1
 | 0,s,h=>h
 | m+1,s,h=>by rw[OK];exact DQ _ (by omega)
theorem Su{mask:Nat}(hm:mask=7∨mask=31){p e:Nat}(hi:i<mask+1)(hp:p<2^64)(he:e<mask+1):∃m,m<mask+14∧(lp mask m (i,p)).1=e:=by
 have h13:(lp mask 13 (i,p)).2=0:=by rw[Tz];exact Nat.div_eq_of_lt (AG hp (by decide))
 have h1:=WT mask 13 (i,p) hi;obtain⟨k,hk,hl⟩:∃k<mask+1,On mask k (lp mask 13 (i,p)).1=e:=by
  rcases hm with rfl | rfl
  · exact WO _ h1 _ he
  · exact WD _ h1 _ he
 refine⟨13+k,by omega,?_⟩;rw[SL,show lp mask 13 (i,p)=((lp mask 13 (i,p)).1,0) from Prod.ext rfl h13,T0];exact hl
def IS(t:Ba):Nat→Probe→Probe
 | 0,p=>p
 | k+1,p=>IS t k (t.advance p)
theorem OL(t:Ba):∀(k:Nat)(p:Probe),IS t (k+1) p=t.advance (IS t k p)
 | 0,p=>rfl
 | k+1,p=>OL t k (t.advance p)
theorem PQ(t:Ba):∀(m k:Nat)(p:Probe),IS t (m+k) p=IS t k (IS t m p)
 | 0,k,p=>by rw[DL];rfl
 | m+1,k,p=>by rw[Nat.add_right_comm];show IS t (m+k) (t.advance p)=_;rw[PQ t m k];rfl
structure AtRun(mask:Nat)(p:Probe)(s:Nat×Nat):Prop where
 j:p.j=s.1
 i:p.i=s.1
 pe:p.perturb=s.2
 mo:p.more≤9
theorem UP(t:Ba):∀(m:Nat)(p:Probe),p.more=m→IS t m p={p with j:=p.j+m,more:=0}
 | 0,p,h=>by
  show p=_;cases p
  simp_all
 | m+1,p,h=>by
  show IS t m (t.advance p)=_;have e:t.advance p={p with j:=p.j+1,more:=p.more - 1}:=by unfold Ek;rw[if_pos (by omega)]
  rw[e,UP t m _ (by show p.more - 1=m;omega)];simp only[Probe.mk.injEq,and_true,true_and];omega
theorem YF{t:Ba}{p:Probe}{s:Nat×Nat}(h:AtRun t.mask p s):∃k,k≤10∧AtRun t.mask (IS t k p) (leap t.mask s.1 s.2)∧(IS t k p).dummy=p.dummy:=by
 refine⟨p.more+1,by have:=h.mo;omega,?_⟩;rw[OL,UP t p.more p rfl];have e:t.advance {p with j:=p.j+p.more,more:=0}={p with j:=(leap t.mask p.i p.perturb).1,more:=runEnd t.mask (leap t.mask p.i p.perturb).1 - (leap t.mask p.i p.perturb).1,i:=(leap t.mask p.i p.perturb).1,perturb:=(leap t.mask p.i p.perturb).2}:=by unfold Ek;rw[if_neg (by show ¬(0>0);omega)]
 rw[e,h.i,h.pe];refine⟨⟨rfl,rfl,rfl,?_⟩,rfl⟩;show runEnd _ _ - _≤9;unfold runEnd
 split<;>omega
theorem NT{t:Ba}{p:Probe}{s:Nat×Nat}(h:AtRun t.mask p s):∀m,∃k,k≤10*m∧AtRun t.mask (IS t k p) (lp t.mask m s)∧(IS t k p).dummy=p.dummy
 | 0=>⟨0,Af _,h,rfl⟩
 | m+1=>by
  obtain⟨k,hk,hr,hd⟩:=NT h m;obtain⟨k2,hk2,hr2,hd2⟩:=YF hr;refine⟨k+k2,by omega,?_,?_⟩
  · rw[PQ,OK];exact hr2
  · rw[PQ,hd2,hd]
theorem ZH(t:Ba)(h:Int):AtRun t.mask (t.probeStart h) (bits h%(t.mask+1),bits h):=by
 refine⟨rfl,rfl,rfl,?_⟩;show runEnd _ _ - _≤9;unfold runEnd
 split<;>omega
theorem T9(h:Int):bits h<2^64:=by
 unfold bits;have h0:=B_ h (show(2^64:Int)≠0 by decide);have h1:=BG h (show(0:Int)<2^64 by decide);have:(2:Int)^64=18446744073709551616:=by decide
 have:(2:Nat)^64=18446744073709551616:=by decide
 omega
theorem WI{t:Ba}(hm:t.mask=7∨t.mask=31)(h:Int){e:Nat}(he:e<t.mask+1):∃k,k<10*turns t.mask∧(IS t k (t.probeStart h)).j=e:=by obtain⟨m,hm2,hl⟩:=Su hm (i:=bits h%(t.mask+1)) (p:=bits h) (DQ _ (by omega)) (T9 h) he;obtain⟨k,hk,hr,_⟩:=NT (ZH t h) m;refine⟨k,?_,hr.j.trans hl⟩;unfold turns;omega
end ST
namespace ST
open PySem.SetTable
structure Bel(xs:Array Nat)(j b:Nat):Prop where
 le:b≤xs.size
 lo:∀i v,i<b→xs[i]?=some v→v<j
 hi:∀i v,b≤i→xs[i]?=some v→j≤v
theorem PJ{xs:Array Nat}(h:xs.toList.Pairwise (· < ·)){k v w:Nat}(hik:i<k)(hi:xs[i]?=some v)(hk:xs[k]?=some w):v<w:=by obtain⟨li,ei⟩:=BW.mp hi;obtain⟨lk,ek⟩:=BW.mp hk;have:=(Bs.mp h) i k (by simpa using li) (by simpa using lk) hik;simp only[Dz] at this;rw[ei,ek] at this;exact this
theorem Qn{xs:Array Nat}(h:xs.toList.Pairwise (· < ·))(j:Nat):∀(fuel lo hi:Nat),hi - lo≤fuel→lo≤hi→hi≤xs.size→(∀i v,i<lo→xs[i]?=some v→v<j)→(∀i v,hi≤i→xs[i]?=some v→j≤v)→Bel xs j (SetTable.below.go xs j fuel lo hi)
 | 0,lo,hi,hf,h1,h2,a,b=>by
  have:lo=hi:=by omega
  subst this;exact⟨h2,a,b⟩
 | fuel+1,lo,hi,hf,h1,h2,a,b=>by
  unfold SetTable.below.go;by_cases c:lo<hi
  · rw[if_pos c];dsimp only;have hm:(lo+hi) / 2<xs.size:=by omega
    have em:xs[(lo+hi) / 2]?=some xs[(lo+hi) / 2]:=by simp[hm]
    have ed:xs.getD ((lo+hi) / 2) j=xs[(lo+hi) / 2]:=by rw[BP,em];rfl
    by_cases d:xs.getD ((lo+hi) / 2) j<j
    · rw[if_pos d];refine Qn h j fuel _ _ (by omega) (by omega) h2 (λi v hi' e=>?_) b;by_cases q:i=(lo+hi) / 2
      · subst q;rw[em] at e;cases e;rw[←ed];exact d
      · by_cases q2:i<lo
        · exact a i v q2 e
        · have:=PJ h (show i<(lo+hi) / 2 by omega) e em;rw[ed] at d;omega
    · rw[if_neg d];refine Qn h j fuel _ _ (by omega) (by omega) (by omega) a (λi v hi' e=>?_);by_cases q:i=(lo+hi) / 2
      · subst q;rw[em] at e;cases e;rw[←ed];omega
      · have:=PJ h (show(lo+hi) / 2<i by omega) em e;rw[ed] at d;omega
  · rw[if_neg c];have:lo=hi:=by omega
    subst this;exact⟨h2,a,b⟩
theorem Up{xs:Array Nat}(h:xs.toList.Pairwise (· < ·))(j:Nat):Bel xs j (Bk xs j):=by unfold Bk;exact Qn h j _ _ _ (by omega) (AI _) (Af _) (λi v hi _=>by omega) (λi v hi e=>by obtain⟨li,_⟩:=BW.mp e;omega)
theorem Zd{α:Type}{xs:Array α}{p:Nat}{x:α}(hp:p≤xs.size):(insertAt xs p x).toList=xs.toList.take p++x::xs.toList.drop p:=by rw[SetTable.toList_insertAt]
theorem ziZ{xs:Array Nat}{j:Nat}(h:xs.toList.Pairwise (· < ·))(hj:j ∉ xs.toList):(insertAt xs (Bk xs j) j).toList.Pairwise (· < ·):=by
 have B:=Up h j;rw[Zd B.le,List.pairwise_append,Dj];refine⟨h.sublist (DW _ _),⟨λv hv=>?_,h.sublist (List.drop_sublist _ _)⟩,λu hu v hv=>?_⟩
 · obtain⟨i,e⟩:=Ci hv;rw[EK] at e;have e':xs[Bk xs j+i]?=some v:=by rw[←Bj];exact e
   have:=B.hi _ _ (CF _ _) e';have ne:v≠j:=λz=>hj (z ▸ List.mem_of_mem_drop hv);omega
 · obtain⟨i,e⟩:=Ci hu;have li:i<Bk xs j:=by
    have:=(Al.mp e).1;rw[AA] at this;omega
   rw[List.getElem?_take] at e;rw[if_pos li] at e;have e':xs[i]?=some u:=by rw[←Bj];exact e
   have uj:=B.lo _ _ li e';rcases An.mp hv with rfl | hv
   · exact uj
   · obtain⟨k,ek⟩:=Ci hv;rw[EK] at ek;have e2:xs[Bk xs j+k]?=some v:=by rw[←Bj];exact ek
     have:=B.hi _ _ (CF _ _) e2;omega
structure Tab(t:Ba)(n:Nat):Prop where
 mask:t.mask=7∨t.mask=31
 size:t.place.size=n
 ris:t.place.toList.Pairwise (· < ·)
 le:∀j∈t.place.toList,j≤t.mask
 du:t.dummies=#[]
 few:n*5<t.mask*3
theorem Tab.slot_live{t:Ba}{j:Nat}(h:Tab t n)(e:t.slot j= .live i):t.place[i]?=some j∧i<n:=by
 unfold SetTable.slot at e;dsimp only at e
 split at e
 · rename_i q;cases e;have q':=eq_of_beq q;refine⟨q',?_⟩;have:=(BW.mp q').1;rw[h.size] at this;exact this
 · split at e<;>cases e
theorem Tab.no_dummy{t:Ba}{j:Nat}(h:Tab t n):t.slot j≠ .dummy:=by
 unfold SetTable.slot;dsimp only
 split
 · exact λz=>by cases z
 · rw[h.du];have:has #[] j=false:=rfl;rw[this];exact λz=>by cases z
theorem Tab.slot_of{t:Ba}{j:Nat}(h:Tab t n):(t.slot j= .empty↔j ∉ t.place.toList):=by
 have B:=Up h.ris j;unfold SetTable.slot;dsimp only;by_cases c:j∈t.place.toList
 · obtain⟨i,e⟩:=Ci c;have e':t.place[i]?=some j:=by rw[←Bj];exact e
   have:i=Bk t.place j:=by
    rcases D_ i (Bk t.place j) with z | z | z
    · exact absurd (B.lo _ _ z e') (Cq _)
    · exact z
    · exfalso;have lt:=(BW.mp e').1;have eb:t.place[Bk t.place j]?=some t.place[Bk t.place j]:=by simp[show Bk t.place j<t.place.size by omega]
      have h1:=B.hi _ _ (Af _) eb;have h2:=PJ h.ris z eb e';omega
   rw[←this,e',if_pos (by simp)];exact⟨λz=>(by cases z),λz=>absurd c z⟩
 · have:¬(t.place[Bk t.place j]?==some j)=true:=λq=>c (by
    have q':=eq_of_beq q;rw[←Bj] at q';exact Ak q')
   rw[if_neg this,h.du];have:has #[] j=false:=rfl;rw[this];exact⟨λ_=>c,λ_=>rfl⟩
theorem Tab.room{t:Ba}(h:Tab t n):∃e,e<t.mask+1∧t.slot e= .empty:=by
 obtain⟨e,he,hn⟩:∃e,e<t.mask+1∧e ∉ t.place.toList:=by
  refine Fc λc=>?_;have all:∀e∈AJ (t.mask+1),e∈t.place.toList:=λe he=>Fc λz=>c ⟨e,AQ.mp he,z⟩;have sub:(t.mask+1)≤t.place.toList.length:=by
   have:∀(a b:List Nat),a.Nodup→(∀x∈a,x∈b)→a.length≤b.length:=λa=>by
    induction a with
    | nil=>intro b _ _;exact AI _
    | cons x a ih=>
     intro b hn hs;rw[Bv] at hn;have hx:=hs x Ai;have:=ih (b.erase x) hn.2 λy hy=>by have ne:y≠x:=λe=>hn.1 (e ▸ hy);exact(List.mem_erase_of_ne ne).mpr (hs y (Ag _ hy))
     rw[Fn hx] at this;have:=FI hx;rw[AB];omega
   have:=this _ _ List.nodup_range all;rw[CW] at this;exact this
  rw[A6,h.size] at sub;have:=h.few;omega
 exact⟨e,he,h.slot_of.mpr hn⟩
theorem Tab.ends{t:Ba}(h:Tab t n)(hs:Int):∃N,N<10*turns t.mask∧t.slot (IS t N (t.probeStart hs)).j= .empty∧∀k,k<N→t.slot (IS t k (t.probeStart hs)).j≠ .empty:=by
 obtain⟨e,he,se⟩:=h.room;obtain⟨k,hk,ek⟩:=WI h.mask hs he;have ex:∃N,t.slot (IS t N (t.probeStart hs)).j= .empty:=⟨k,by rw[ek];exact se⟩;have P:∀m,(∃N,N≤m∧t.slot (IS t N (t.probeStart hs)).j= .empty)→∃N,N≤m∧t.slot (IS t N (t.probeStart hs)).j= .empty∧∀k,k<N→t.slot (IS t k (t.probeStart hs)).j≠ .empty:=λm=>by
  induction m with
  | zero=> rintro⟨N,hN,e⟩;exact⟨N,hN,e,λk hk=>by omega⟩
  | succ m ih=>
   rintro⟨N,hN,e⟩;by_cases c:∃N,N≤m∧t.slot (IS t N (t.probeStart hs)).j= .empty
   · obtain⟨N',h1,h2⟩:=ih c;exact⟨N',by omega,h2⟩
   · refine⟨N,hN,e,λk hk z=>c ⟨k,by omega,z⟩⟩
 obtain⟨N,h1,h2,h3⟩:=P k ⟨k,Af _,by rw[ek];exact se⟩;exact⟨N,by omega,h2,h3⟩
end ST
namespace ST
open PySem.SetTable
theorem Zy(t:Ba)(p:Probe):(t.advance p).dummy=p.dummy:=by
 unfold Ek
 split<;>rfl
theorem Vw(t:Ba):∀(k:Nat)(p:Probe),(IS t k p).dummy=p.dummy
 | 0,p=>rfl
 | k+1,p=>by show(IS t k (t.advance p)).dummy=_;rw[Vw t k,Zy]
theorem U_{mask:Nat}(h:i≤mask):runEnd mask i≤mask:=by
 unfold runEnd
 split<;>omega
theorem Wt(t:Ba)(p:Probe)(h:p.j+p.more≤t.mask):(t.advance p).j+(t.advance p).more≤t.mask:=by
 unfold Ek
 split
 · show p.j+1+(p.more - 1)≤_;omega
 · have hi:(leap t.mask p.i p.perturb).1≤t.mask:=by
    have:=DQ (p.i*5+1+p.perturb / 32) (show t.mask+1>0 by omega);show(p.i*5+1+p.perturb / 32)%(t.mask+1)≤_;omega
   have hr:=U_ hi;have hg:(leap t.mask p.i p.perturb).1≤runEnd t.mask (leap t.mask p.i p.perturb).1:=by
    unfold runEnd
    split<;>omega
   show(leap t.mask p.i p.perturb).1+(runEnd t.mask (leap t.mask p.i p.perturb).1 - (leap t.mask p.i p.perturb).1)≤_;omega
theorem T7(t:Ba):∀(k:Nat)(p:Probe),p.j+p.more≤t.mask→(IS t k p).j+(IS t k p).more≤t.mask
 | 0,p,h=>h
 | k+1,p,h=>T7 t k _ (Wt t p h)
theorem YL(t:Ba)(h:Int):(t.probeStart h).j+(t.probeStart h).more≤t.mask:=by
 have hi:bits h%(t.mask+1)≤t.mask:=by have:=DQ (bits h) (show t.mask+1>0 by omega);omega
 have hr:=U_ hi;have hg:bits h%(t.mask+1)≤runEnd t.mask (bits h%(t.mask+1)):=by
  unfold runEnd
  split<;>omega
 show bits h%(t.mask+1)+(runEnd t.mask (bits h%(t.mask+1)) - bits h%(t.mask+1))≤_;omega
theorem Sg{t:Ba}(T:Tab t n){hs:Int}{N:Nat}(hN:t.slot (IS t N (t.probeStart hs)).j= .empty)(hb:∀k,k<N→t.slot (IS t k (t.probeStart hs)).j≠ .empty)(hashAt:Nat→Int):∀(d k fuel:Nat),N - k=d→k≤N→d<fuel→
 probe.go t hashAt hs fuel (IS t k (t.probeStart hs))=some (.empty (IS t N (t.probeStart hs)).j none)∨
 ∃m i,k≤m∧m<N∧t.slot (IS t m (t.probeStart hs)).j= .live i∧probe.go t hashAt hs fuel (IS t k (t.probeStart hs))=some (.candidate (IS t m (t.probeStart hs)).j i (IS t (m+1) (t.probeStart hs)))
 | d,k,0,_,_,h=>by omega
 | d,k,fuel+1,hd,hk,hf=>by
  unfold probe.go;by_cases e:k=N
  · subst e
    left
    rw[hN];dsimp only;rw[Vw];rfl
  · have hk':k<N:=by omega
    cases hsl:t.slot (IS t k (t.probeStart hs)).j with
    | empty=>exact absurd hsl (hb k hk')
    | dummy=>exact absurd hsl T.no_dummy
    | live i=>
     dsimp only;by_cases q:(hashAt i==hs)=true
     · right
       rw[if_pos q];exact⟨k,i,Af _,hk',hsl,by rw[OL]⟩
     · rw[if_neg q,←OL];rcases Sg T hN hb hashAt (d - 1) (k+1) fuel (by omega) (by omega) (by omega) with z | ⟨m,i',h1,h2,h3,h4⟩
       · exact .inl z
       · exact .inr ⟨m,i',by omega,h2,h3,h4⟩
theorem Y9{t:Ba}(T:Tab t n){hs:Int}{N:Nat}(hl:N<10*turns t.mask)(hN:t.slot (IS t N (t.probeStart hs)).j= .empty)(hb:∀k,k<N→t.slot (IS t k (t.probeStart hs)).j≠ .empty)(hashAt:Nat→Int){k:Nat}(hk:k≤N):
 t.probe hashAt hs (IS t k (t.probeStart hs))=some (.empty (IS t N (t.probeStart hs)).j none)∨
 ∃m i,k≤m∧m<N∧t.slot (IS t m (t.probeStart hs)).j= .live i∧t.probe hashAt hs (IS t k (t.probeStart hs))=some (.candidate (IS t m (t.probeStart hs)).j i (IS t (m+1) (t.probeStart hs))):=Sg T hN hb hashAt _ k _ rfl hk (by omega)
theorem Tab.fits{t:Ba}(T:Tab t n):t.fits n=true:=by
 unfold SetTable.fits SetTable.fill;rw[T.size,T.du];have:=T.few;rcases T.mask with e | e
 · rw[e] at this ⊢;simp;omega
 · rw[e] at this ⊢;simp;omega
theorem Tab.stays{t:Ba}(T:Tab t n):t.gaveWay=false:=by unfold SetTable.gaveWay;rcases T.mask with e | e<;>rw[e]<;>rfl
theorem ZW{o:Obj}{es:Array (Int×Value)}{ep:Nat}{t:Ba}{x:Value}{hs:Int}{Q:SetFound→Shared→Prop}(ho:s.heap.get? a=some o)(hd:o.data= .set es ep t)(T:Tab t es.size)
 (refs:∀e∈es.toList,∃b,e.2= .ref b) (heq:∀e∈es.toList,∀R:Bool→Shared→Prop,R false s→wpAny (model prog w) A (eqBool e.2 x) R E s)
 (hseen:∀ys:List Value,(∀y∈ys,∃e∈es.toList,e.2=y)→∀R:Bool→Shared→Prop,R false s→wpAny (model prog w) A (searchCouldBeSeen x ys) R E s)
 (h:∀j,j≤t.mask→j ∉ t.place.toList→Q (.free j false) s):wpAny (model prog w) A (setSearch a x hs true) Q E s:=by
 obtain⟨N,hl,hN,hb⟩:=T.ends hs;have jl:(IS t N (t.probeStart hs)).j≤t.mask:=by have:=T7 t N _ (YL t hs);omega
 have fin:Q (.free (IS t N (t.probeStart hs)).j false) s:=h _ jl (T.slot_of.mp hN);have tl:10*turns t.mask≤460:=by unfold turns;rcases T.mask with e | e<;>rw[e]<;>decide
 have main:∀(d k fuel:Nat)(st:Option Probe),N - k=d→k≤N→d<fuel→st.getD (t.probeStart hs)=IS t k (t.probeStart hs)→wpAny (model prog w) A (setSearchFrom a x hs true fuel st) Q E s:=by
  intro d
  induction d using Nat.strongRecOn with
  | _ d ih=>
   intro k fuel st hk1 hk2 hf hst;cases fuel with
   | zero=>omega
   | succ fuel=>
    unfold setSearchFrom;refine Aa (CY ho hd T.fits ?_);dsimp only;rw[T.stays,hst];simp only[A8,if_false];generalize hp:SetTable.probe t _ hs (IS t k (t.probeStart hs))=pr;obtain⟨hashAt,hf'⟩:∃f,t.probe f hs (IS t k (t.probeStart hs))=pr:=⟨_,hp⟩;rcases Y9 T hl hN hb hashAt hk2 with z | ⟨m,i,h1,h2,h3,z⟩
    · rw[hf'] at z;subst z;exact Ac fin
    · rw[hf'] at z;subst z;obtain⟨_,hi⟩:=T.slot_live h3;have ei:es[i]?=some es[i]:=by simp[hi]
      have mi:es[i]∈es.toList:=by simp
      obtain⟨b,eb⟩:=refs _ mi;have Io:wpAny (model prog w) A (setSearchFrom a x hs true fuel (some (IS t (m+1) (t.probeStart hs)))) Q E s:=ih (N - (m+1)) (by omega) (m+1) fuel _ rfl (by omega) (by omega) rfl;by_cases hled:(!t.led)=true
      · dsimp only;rw[if_pos hled];refine Aa (hseen _ (λy hy=>?_) _ ?_)
        · obtain⟨e,he,rfl⟩:=Az.mp hy;exact⟨e,by have:=Dv.mp he;exact Dv.mpr (Array.mem_filter.mp this).1,rfl⟩
        · simp only[A8,if_false];rw[ei];dsimp only;refine Aa (AZ (heq _ mi _ ?_));refine Aa (CY ho hd T.fits ?_);simp only[E9,A8,if_false];have sm:t.sameMemory t.moves t.mask=some true:=by
           unfold Gn;simp
          rw[sm];simp only[if_true,h3];rw[ei];dsimp only;rw[eb];refine Aa (wpAny_isSame_ref_self ?_);exact Aa (Ac Io)
      · dsimp only;rw[if_neg hled];rw[ei];dsimp only;refine Aa (AZ (heq _ mi _ ?_));refine Aa (CY ho hd T.fits ?_);simp only[E9,A8,if_false];have sm:t.sameMemory t.moves t.mask=some true:=by
         unfold Gn;simp
        rw[sm];simp only[if_true,h3];rw[ei];dsimp only;rw[eb];refine Aa (wpAny_isSame_ref_self ?_);exact Aa (Ac Io)
 exact main _ 0 100000 none rfl (AI _) (by omega) rfl
end ST
namespace ST
open PySem.SetTable
theorem Ts{mask:Nat}{owner:Array (Option Nat)}(hz:owner.size=mask+1){e:Nat}(he:owner[e]?=some none):∀(f i p m:Nat),m<f→i≤mask→(lp mask m (i,p)).1=e→
 ∃j,layClean.free mask owner f i p=some j∧owner[j]?=some none
 | 0,i,p,m,h,_,_=>by omega
 | f+1,i,p,m,h,hi,hm=>by
  unfold layClean.free;cases hf:(AJ (runEnd mask i+1 - i)).find? (λk=>(owner.getD (i+k) (some 0)).isNone) with
  | some k=>
   refine⟨_,rfl,?_⟩;have:=DC hf;rw[BP] at this;cases ho:owner[i+k]? with
   | none=>rw[ho] at this;cases this
   | some q=>
    rw[ho] at this;cases q with
    | none=>rfl
    | some q=>cases this
  | none=>
   dsimp only;cases m with
   | zero=>
    exfalso;have e':i=e:=hm;subst e';have:=Cz.mp hf 0 (AQ.mpr (by unfold runEnd;split<;>omega))
    rw[Fo,BP,he] at this;exact this rfl
   | succ m=> refine Ts hz he f _ _ m (by omega) ?_ hm;have:=DQ (i*5+1+p / 32) (show mask+1>0 by omega);show(i*5+1+p / 32)%(mask+1)≤mask;omega
theorem Va:∀{l:List (Option Nat)},(l.filterMap id).length<l.length→∃e:Nat,l[e]?=some none
 | [],h=>by cases h
 | none::l,h=>⟨0,rfl⟩
 | some x::l,h=>by
  have h':(l.filterMap id).length<l.length:=by simpa using h
  obtain⟨e,he⟩:=Va h';exact⟨e+1,by simpa using he⟩
theorem UQ:∀{l:List (Option Nat)}{j k:Nat},l[j]?=some none→((l.set j (some k)).filterMap id).Perm (k::l.filterMap id)
 | [],j,k,h=>by cases h
 | x::l,0,k,h=>by
  cases x with
  | none=>simp
  | some x=>simp at h
 | x::l,j+1,k,h=>by
  have ih:=UQ (l:=l) (j:=j) (k:=k) (by simpa using h);cases x with
  | none=>simpa using ih
  | some x=> show(x::(l.set j (some k)).filterMap id).Perm (k::x::l.filterMap id);exact(ih.cons x).trans (List.Perm.swap _ _ _)
structure Own(mask n:Nat)(owner:Array (Option Nat)):Prop where
 size:owner.size=mask+1
 all:(owner.toList.filterMap id).Perm (AJ n)
theorem SJ{mask:Nat}(hm:mask=7∨mask=31):∀(hs:List Int)(owner:Array (Option Nat))(n:Nat),Own mask n owner→n+hs.length≤mask→
 ∃ow,Own mask (n+hs.length) ow∧hs.foldl (λ(acc:Option (Array (Option Nat)×Nat))h=>do
  let(owner,k) ←acc
  let j ←layClean.free mask owner (turns mask) (bits h%(mask+1)) (bits h)
  pure (owner.setIfInBounds j (some k),k+1)) (some (owner,n))=some (ow,n+hs.length)
 | [],owner,n,O,_=>⟨owner,O,rfl⟩
 | h::hs,owner,n,O,hl=>by
  rw[AB] at hl;obtain⟨e,he⟩:=Va (l:=owner.toList) (by rw[O.all.length_eq,CW,A6,O.size];omega);rw[Bj] at he;have el:e<mask+1:=by have:=(BW.mp he).1;rw[O.size] at this;exact this
  obtain⟨m,hm2,hr⟩:=Su hm (i:=bits h%(mask+1)) (p:=bits h) (DQ _ (by omega)) (T9 h) el;obtain⟨j,hj,ho⟩:=Ts O.size he (turns mask) (bits h%(mask+1)) (bits h) m (by unfold turns;omega) (by have:=DQ (bits h) (show mask+1>0 by omega);omega) hr;have O':Own mask (n+1) (owner.setIfInBounds j (some n)):=by refine⟨by rw[Array.size_setIfInBounds];exact O.size,?_⟩;rw[Array.toList_setIfInBounds];refine(UQ (by rw[Bj];exact ho)).trans ?_;refine(O.all.cons n).trans ?_;rw[DD];exact List.perm_append_comm (l₁:=[n]) (l₂:=AJ n)
  obtain⟨ow,h1,h2⟩:=SJ hm hs _ _ O' (by omega);refine⟨ow,?_,?_⟩
  · rw[AB];have:n+(hs.length+1)=n+1+hs.length:=by omega
    rw[this];exact h1
  · rw[List.foldl_cons,AB];have:n+(hs.length+1)=n+1+hs.length:=by omega
    rw[this,←h2];congr 1;show(layClean.free mask owner (turns mask) (bits h%(mask+1)) (bits h)>>=_)=_;rw[hj];rfl
theorem zhx{mask:Nat}(hm:mask=7∨mask=31){hs:Array Int}(hl:hs.size≤mask):∃ow,Own mask hs.size ow∧layClean mask hs=some ow:=by
 obtain⟨ow,h1,h2⟩:=SJ hm hs.toList (Array.replicate (mask+1) none) 0 ⟨by simp,by simp⟩ (by rw[A6];omega);rw[DL,A6] at h1 h2;refine⟨ow,h1,?_⟩;unfold layClean;rw[←Array.foldl_toList]
 erw [h2]
 rfl
theorem Yv(ow:Array (Option Nat))(hz:ow.size=n):(AJ n).filterMap (λj=>ow.getD j none)=ow.toList.filterMap id:=by
 subst hz
 conv=>rhs;rw[←filterMap_getElem?_range ow]
 rw[List.filterMap_filterMap];congr 1;funext j;rw[BP];cases ow[j]?<;>rfl
theorem ZR{t:Ba}{hs:Array Int}{wanted:Nat}(hm:sizeAbove wanted=32)(hl:hs.size*5<93):
 ∃t' order,t.relaid hs wanted=some (t',order)∧Tab t' hs.size∧order.toList.Perm (AJ hs.size)∧t'.led=t.led∧t'.plain=t.plain:=by
 obtain⟨ow,O,e⟩:=zhx (mask:=31) (.inr rfl) (hs:=hs) (by omega);unfold SetTable.relaid;rw[hm];unfold SetTable.laid;rw[show 32 - 1=31 from rfl,e];have ord:((((AJ (31+1)).filterMap λj=>(ow.getD j none).map (j, ·)).map (·.2)).toArray).toList.Perm (AJ hs.size):=by rw[CD,List.map_filterMap];refine List.Perm.trans (List.Perm.of_eq ?_) O.all;rw[←Yv ow O.size];congr 1;funext j;cases ow.getD j none<;>rfl
 refine⟨_,_,rfl,⟨.inr rfl,?_,?_,?_,rfl,by show _*5<31*3;omega⟩,ord,rfl,rfl⟩
 · have:=ord.length_eq;rw[CW] at this;simpa using this
 · show((((AJ (31+1)).filterMap λj=>(ow.getD j none).map (j, ·)).map (·.1)).toArray).toList.Pairwise (· < ·);rw[CD,List.map_filterMap,List.pairwise_filterMap];refine List.Pairwise.imp ?_ Ef;intro a b hab x hx y hy;cases ha:ow.getD a none with
   | none=>rw[ha] at hx;cases hx
   | some u=>
    cases hb:ow.getD b none with
    | none=>rw[hb] at hy;cases hy
    | some v=> rw[ha] at hx;rw[hb] at hy;cases hx;cases hy;exact hab
 · show ∀j∈((((AJ (31+1)).filterMap λj=>(ow.getD j none).map (j, ·)).map (·.1)).toArray).toList,j≤31;rw[CD];intro j hj;obtain⟨x,hx,rfl⟩:=Az.mp hj;obtain⟨k,hk,e⟩:=Dg.mp hx;have:=AQ.mp hk;cases ha:ow.getD k none with
   | none=>rw[ha] at e;cases e
   | some u=> rw[ha] at e;cases e;show k≤31;omega
end ST
namespace ST
open PySem.SetTable
theorem ZQ{h':Heap}{x:List WP}{vs:List Value}(hx:RefsAre prog w h x vs)(k:∀(b:Addr)o its n,h.get? b=some o→o.data= .seq its n→h'.get? b=some o):RefsAre prog w h' x vs:=by
 induction hx with
 | nil=>exact .nil
 | cons h1 _ ih=> obtain⟨o,its,n,e1,e2,e3,e4⟩:=h1;exact .cons ⟨o,its,n,k _ _ _ _ e1 e3,e2,e3,e4⟩ ih
theorem V1{h':Heap}{ws:List WP}(x:IsWishKey prog w h ws a)(k:∀(b:Addr)o its n,h.get? b=some o→o.data= .seq its n→h'.get? b=some o):IsWishKey prog w h' ws a:=by obtain⟨o,its,n,e1,e2,e3,e4⟩:=x;exact⟨o,its,n,k _ _ _ _ e1 e3,e2,e3,ZQ e4 k⟩
def WSet(prog:AY)(w:World)(h0 h:Heap)(a:Addr)(ks:List (List WP)):Prop:=∃(es:Array (Int×Value))(ep:Nat)(t:Ba),
 h.get? a=some {cls:= .type "set",dict:=none,data:= .set es ep t}∧Tab t es.size∧es.size=ks.length∧∀e∈es.toList,∃ws b,ws∈ks∧e.2= .ref b∧IsWishKey prog w h0 ws b
theorem WSet.kept{h0 h':Heap}{ks:List (List WP)}(T:WSet prog w h0 h a ks)(k:∀o,h.get? a=some o→h'.get? a=some o):WSet prog w h0 h' a ks:=by obtain⟨es,ep,t,h1,h2,h3,h4⟩:=T;exact⟨es,ep,t,k _ h1,h2,h3,h4⟩
theorem ziw{h0:Heap}{l:Bool}(e:h.get? a=some {cls:= .type "set",dict:=none,data:= .set #[] 0 (.fresh 0 0 l)}):WSet prog w h0 h a []:=
 ⟨#[],0,_,e,⟨.inl rfl,rfl,.nil,λj hj=>by simp[SetTable.fresh] at hj,rfl,by show 0*5<7*3;decide⟩,rfl,λe he=>by simp at he⟩
theorem Yq{p:WP}{Q:Bool→Shared→Prop}(hk:IsTupleKey (Nw prog w) s.heap (LK p) b)(h:∀c,Q c s):wpAny (model prog w) A (hashByValue (n+1) (.ref b)) Q E s:=by
 have ty:=hk.typeIs;obtain⟨o,its,m,h1,_,h2,h3⟩:=hk;unfold hashByValue;refine Aa (BX ty Ck.lookup ?_);dsimp only;refine Aa (Bc h1 h2 (Aa ?_));show wpAny _ _ (forIn its _ _) _ _ s;rw[←C2];refine BR _ (λIo r s'=>s'=s∧∀v∈Io,carriedByValue v=true) _ ?step ?done _ _ ⟨rfl,h3.byValue⟩
 case step=>
  rintro v Io r s' ⟨rfl,al⟩;have hv:∃c,hashByValue n v=pure c:=by have:=al v Ai;cases v<;>first | (exact⟨_,by unfold hashByValue;rfl⟩) | (cases this)
  obtain⟨c,hc⟩:=hv;rw[hc];refine Aa (Ac ?_);cases c with
  | false=>exact Ac (Ac (h false))
  | true=>exact Ac ⟨rfl,λu hu=>al u (Ag _ hu)⟩
 case done=>
  rintro⟨r1,r2⟩ s' ⟨rfl,_⟩;cases r1 with
  | none=>exact Ac (h _)
  | some c=>exact Ac (h _)
theorem Yr{ws:List WP}{Q:Bool→Shared→Prop}(hk:IsWishKey prog w s.heap ws a)(h:∀c,Q c s):wpAny (model prog w) A (hashByValue 8 (.ref a)) Q E s:=by
 have ty:=hk.typeIs;obtain⟨o,its,m,h1,_,h2,h3⟩:=hk;unfold hashByValue;refine Aa (BX ty Ck.lookup ?_);dsimp only;refine Aa (Bc h1 h2 (Aa ?_));show wpAny _ _ (forIn its _ _) _ _ s;rw[←C2];refine BR _ (λIo r s'=>s'=s∧∃ws',RefsAre prog w s.heap ws' Io) _ ?step ?done _ _ ⟨rfl,ws,h3⟩
 case step=>
  rintro v Io r s' ⟨rfl,ws',hl⟩;cases hl with
  | @cons p c ps _ c1 hl'=>
   refine Aa (Yq c1 λd=>?_);cases d with
   | false=>exact Ac (Ac (h false))
   | true=>exact Ac ⟨rfl,ps,hl'⟩
 case done=>
  rintro⟨r1,r2⟩ s' ⟨rfl,_⟩;cases r1 with
  | none=>exact Ac (h _)
  | some c=>exact Ac (h _)
theorem YO{p:WP}{Q:Bool→Shared→Prop}(hk:IsTupleKey (Nw prog w) s.heap (LK p) b)(h:Q false s):wpAny (model prog w) A (ofAClassStatement (n+1) (.ref b)) Q E s:=by
 have ty:=hk.typeIs;obtain⟨o,its,m,h1,_,h2,h3⟩:=hk;unfold ofAClassStatement;refine Aa (Do ty ?_);dsimp only;rw[if_pos (by decide)];refine Aa (Ac ?_);simp only[Cs,A8,if_false];refine Aa (Bc h1 h2 ?_);dsimp only;refine Aa ?_;rw[←C2];refine BR _ (λIo r s'=>r.1=none∧s'=s∧∀v∈Io,carriedByValue v=true) _ ?step ?done _ _ ⟨rfl,rfl,h3.byValue⟩
 case step=>
  rintro v Io r s' ⟨hr,rfl,al⟩;have hv:ofAClassStatement n v=pure false:=by have:=al v Ai;cases v<;>first | (unfold ofAClassStatement;rfl) | (cases this)
  rw[hv];refine Aa (Ac ?_);simp only[A8,if_false];exact Ac ⟨rfl,rfl,λu hu=>al u (Ag _ hu)⟩
 case done=> rintro⟨r1,r2⟩ s' ⟨hr,rfl,_⟩;simp only at hr;subst hr;exact Ac h
theorem Us{ws:List WP}{Q:Bool→Shared→Prop}(hk:IsWishKey prog w s.heap ws a)(h:Q false s):wpAny (model prog w) A (ofAClassStatement 8 (.ref a)) Q E s:=by
 have ty:=hk.typeIs;obtain⟨o,its,m,h1,_,h2,h3⟩:=hk;unfold ofAClassStatement;refine Aa (Do ty ?_);dsimp only;rw[if_pos (by decide)];refine Aa (Ac ?_);simp only[Cs,A8,if_false];refine Aa (Bc h1 h2 ?_);dsimp only;refine Aa ?_;rw[←C2];refine BR _ (λIo r s'=>r.1=none∧s'=s∧∃ws',RefsAre prog w s.heap ws' Io) _ ?step ?done _ _ ⟨rfl,rfl,ws,h3⟩
 case step=>
  rintro v Io r s' ⟨hr,rfl,ws',hl⟩;cases hl with
  | @cons p c ps _ c1 hl'=> refine Aa (YO c1 ?_);simp only[A8,if_false];exact Ac ⟨rfl,rfl,ps,hl'⟩
 case done=> rintro⟨r1,r2⟩ s' ⟨hr,rfl,_⟩;simp only at hr;subst hr;exact Ac h
theorem ZX{ws:List WP}{ys:List Value}{Q:Bool→Shared→Prop}(hk:IsWishKey prog w s.heap ws a)(hy:∀y∈ys,∃ws' b,y= .ref b∧IsWishKey prog w s.heap ws' b)(h:Q false s):
 wpAny (model prog w) A (searchCouldBeSeen (.ref a) ys) Q E s:=by
 unfold searchCouldBeSeen;refine Aa ?_;refine BR _ (λIo r s'=>r.1=none∧s'=s∧∀y∈Io,∃ws' b,y= .ref b∧IsWishKey prog w s.heap ws' b) _ ?step ?done _ _ ⟨rfl,rfl,hy⟩
 case step=>
  rintro v Io r s' ⟨hr,rfl,al⟩;have al':=λu hu=>al u (Ag _ hu);obtain⟨ws',b,rfl,hb⟩:=al v Ai;dsimp only
  split
  · exact Ac ⟨rfl,rfl,al'⟩
  · refine Aa (Q5 hk ?_);simp only[Cs,A8,if_false];refine Aa (Q5 hb ?_);simp only[Cs,A8,if_false];refine Aa (Us hk ?_);simp only[A8,if_false];refine Aa (Us hb ?_);simp only[A8,if_false];exact Ac ⟨rfl,rfl,al'⟩
 case done=> rintro⟨r1,r2⟩ s' ⟨hr,rfl,_⟩;simp only at hr;subst hr;exact Ac h
theorem Tab.put_ok{t:Ba}{j:Nat}(T:Tab t n)(hj:j ∉ t.place.toList)(hl:j≤t.mask):
 (t.put j).1.mask=t.mask∧(t.put j).1.place.size=n+1∧(t.put j).1.place.toList.Pairwise (· < ·)∧(∀i∈(t.put j).1.place.toList,i≤t.mask)∧(t.put j).1.dummies=#[]:=by
 refine⟨rfl,?_,ziZ T.ris hj,?_,?_⟩
 · show(insertAt t.place (Bk t.place j) j).size=_;rw[←A6,(Eg _ _ _).length_eq,A6,F6,T.size]
 · intro i hi;rw[show(t.put j).1.place=insertAt t.place (Bk t.place j) j from rfl,(Eg _ _ _).mem_iff,EW,A9,Am] at hi;rcases hi with z | rfl
   · exact T.le i z
   · exact hl
 · show(if has t.dummies j then eraseAt t.dummies (Bk t.dummies j) else t.dummies)=_
   rw[T.du];rfl
theorem ZE{S:Addr}{ks:List (List WP)}{ws:List WP}{hs:Int}{Q:Bool→Shared→Prop}(hu:A.units+1<cLine){h0:Heap}(kp:∀b o,h0.get? b=some o→s.heap.get? b=some o)(T:WSet prog w h0 s.heap S ks)(hk0:IsWishKey prog w h0 ws b)(hn:ws ∉ ks)(hl:ks.length<18)
 (h:∀h',C6 S s.heap h'→WSet prog w h0 h' S (ks++[ws])→Q true {s with heap:=h'}):
 wpAny (model prog w) A (setAddHashed S (.ref b) hs) Q E s:=by
 obtain⟨es,ep,t,ho,tab,hz,hel⟩:=T;have up:∀{x:List WP}{c:Addr},IsWishKey prog w h0 x c→IsWishKey prog w s.heap x c:=λq=>V1 q λb o _ _ e _=>kp b o e;have hk:=up hk0;unfold setAddHashed setAddHashedIn;refine AZ (Aa (CY ho rfl tab.fits ?_));dsimp only;rw[if_neg (by unfold byScan;simp[Value.scannable])];refine Aa (ZW ho rfl tab (λe he=>?_) (λe he R hR=>?_) (λys hy R hR=>?_) λj hj1 hj2=>?_)
 · obtain⟨_,c,_,q,_⟩:=hel e he;exact⟨c,q⟩
 · obtain⟨ws',c,q1,q2,q3⟩:=hel e he;rw[q2];refine To hu (up q3) hk ?_;have ne:¬ws'=ws:=λz=>hn (z ▸ q1);rw[decide_eq_false ne];exact hR
 · refine ZX hk (λy hy'=>?_) hR;obtain⟨e,he,rfl⟩:=hy y hy';obtain⟨ws',c,q1,q2,q3⟩:=hel e he;exact⟨ws',c,q2,up q3⟩
 · dsimp only;refine Aa (CY ho rfl tab.fits ?_);dsimp only;obtain⟨p1,p2,p3,p4,p5⟩:=tab.put_ok hj2 hj1;generalize hP:t.put j=P at p1 p2 p3 p4 p5 ⊢;obtain⟨t1,pp⟩:=P;dsimp only at p1 p2 p3 p4 p5 ⊢;have perm:=Eg es pp (hs,Value.ref b);generalize hE:SetTable.insertAt es pp (hs,Value.ref b)=es1 at perm ⊢;have sz1:es1.size=es.size+1:=by rw[←A6,perm.length_eq,A6,F6]
   have fin:∀(h':Heap)(es2:Array (Int×Value))(ep2:Nat)(t2:Ba),C6 S s.heap h'→h'.get? S=some {cls:= .type "set",dict:=none,data:= .set es2 ep2 t2}→es2.toList.Perm es1.toList→Tab t2 es2.size→Q true {s with heap:=h'}:=λh' es2 ep2 t2 sb ho2 p2 T2=>by
    have sz2:es2.size=es1.size:=by rw[←A6,p2.length_eq,A6]
    refine h h' sb ⟨es2,ep2,t2,ho2,T2,by rw[sz2,sz1,hz,Aw];rfl,λe he=>?_⟩;have me:=(p2.trans perm).mem_iff.mp he;rw[EW,A9,Am] at me;rcases me with me | rfl
    · obtain⟨ws',c,q1,q2,q3⟩:=hel e me;exact⟨ws',c,AH _ q1,q2,q3⟩
    · exact⟨ws,b,Ah _ (Am.mpr rfl),rfl,hk0⟩
   have tail:∀(t2:Ba),t2.mask=t.mask→t2.place=t1.place→t2.dummies=#[]→wpAny (model prog w) A (do
    storeSet S es1 t2
    if(!false && t2.tooFull)=true then
     setRelay S (FT (es.size+1))
     pure true
    else pure true) Q E s:=λt2 m1 m2 m3=>by
    refine Aa (wpAny_storeSet_of (es':=es1) (t':=t2) ho rfl ?_ (by rw[sizeLine_eq];omega));have ho2:=Ue s.heap S es es1 ep t t2 ho;have sb:=BH s.heap S (Obj.putSet es1 t2);have fl:t2.fill=es1.size:=by unfold SetTable.fill;rw[m2,m3,p2,sz1];rfl
    by_cases tf:t2.tooFull=true
    · rw[if_pos (by rw[tf];rfl)];unfold SetTable.tooFull at tf;rw[fl,m1] at tf;have few:=tab.few;have m7:t.mask=7:=by
       rcases tab.mask with e | e
       · exact e
       · rw[e] at tf;simp at tf;omega
      rw[m7] at tf few;simp at tf;have n4:es.size=4:=by omega
      unfold setRelay;refine Aa (Aa (CY ho2 rfl ?_ ?_))
      · unfold SetTable.fits;rw[fl,m2,m1,p2,sz1,m7,n4];rfl
      · dsimp only;rw[n4,if_neg (by rw[show SetTable.sizeAbove (FT (4+1))=32 from by decide,sizeLine_eq];decide)]
        obtain⟨t3,order,e1,T3,op,_,_⟩:=ZR (t:=t2) (hs:=es1.map (·.1)) (wanted:=FT (4+1)) (by decide) (by rw[FU,sz1,n4];decide);rw[e1];have per:(order.filterMap (es1[·]?)).toList.Perm es1.toList:=by rw[Array.toList_filterMap];refine(op.filterMap _).trans (List.Perm.of_eq ?_);rw[FU];exact filterMap_getElem?_range es1
        have sz3:(order.filterMap (es1[·]?)).size=es1.size:=by rw[←A6,per.length_eq,A6]
        have K9:¬((order.filterMap (es1[·]?)).size !=es1.size)=true:=by rw[sz3];simp
        refine Aa ?_;show wpAny _ _ (if((order.filterMap (es1[·]?)).size !=es1.size)=true then _ else _) _ _ _
        rw[if_neg K9];refine Ac ?_;dsimp only;refine wpAny_storeSet_of ho2 rfl ?_ (by rw[sz3,sizeLine_eq];omega);refine Ac (fin _ _ _ t3 (sb.trans (BH _ S _)) (Ue _ S es1 _ (ep+1) t2 t3 ho2) per ?_);rw[sz3];rw[FU] at T3;exact T3
    · rw[if_neg (by rw[Cv] at tf;rw[tf];exact Ar)];unfold SetTable.tooFull at tf;rw[fl,m1] at tf;refine Ac (fin _ es1 (ep+1) t2 sb ho2 (DP _) ⟨by rw[m1];exact tab.mask,by rw[m2,p2,sz1],by rw[m2];exact p3,by rw[m2,m1];exact p4,m3,?_⟩);rw[m1];simpa using tf
   by_cases hp:t1.plain=true
   · rw[if_pos hp];refine Aa (Yr hk λc=>?_);cases c with
     | true=>exact tail t1 p1 rfl p5
     | false=>exact tail {t1 with plain:=false} p1 rfl p5
   · rw[if_neg hp];exact Aa (Ac (tail t1 p1 rfl p5))
end ST
def hs(S:Addr→Bool)(H:Hp):Hp:=λa=>if S a=true then none else H a
def look:List (Str×V)→Str→Option V
 | [],_=>none
 | (k,v)::r,x=>if x=k then some v else look r x
open ST
section
variable{R:Result→Shared→Prop}{I:Addr}{fp wr:List Addr}{G:Array GenState→Array GenState→Prop}{P:Nat→Value→Prop}{St:Nat→Shared→Prop}
theorem zi6(ts:List (List WP))(W:WalksS prog w A.in1 I fp wr G ts.length P St)(S:Addr)(hSf:S ∉ fp)(hu:A.in1.units+1<cLine){h0:Heap}(hfr:∀b∈S::wr,h0.get? b=none)
 (hval:∀i v,P i v→∃b ws,v= .ref b∧ts[i]?=some ws∧IsWishKey prog w h0 ws b) (nd:ts.Nodup) (hb:ts.length≤18):
 ∀(k i:Nat)(s:Shared),ts.length - i=k→i≤ts.length→St i s→WSet prog w h0 s.heap S (ts.take i)→(∀b o,h0.get? b=some o→s.heap.get? b=some o)→
  (∀s',Moved (S::wr) G s s'→WSet prog w h0 s'.heap S ts→R (.ok (.ret .none)) s')→
  codeAny (model prog w) A (.builtin "set.update.loop" ⟨[.ref S,.ref I],[]⟩) R s:=by
 have hSw:S ∉ wr:=λh=>hSf (W.sub _ h);have hsub:∀b∈wr,b∈S::wr:=λb hb=>Ag _ hb;have old:∀b o,h0.get? b=some o→b ∉ S::wr:=λb o e q=>by rw[hfr b q] at e;cases e
 intro k
 induction k with
 | zero=>
  intro i s hk hi hst hS kp hR;have hin:i=ts.length:=by omega
  subst hin;refine BY DN ?_;rw[BE CJ _];show wpAny _ A.in1 (pyNext (.ref I)>>=_) _ _ s;refine Aa (W.done s _ _ hst λs' hm=>?_);show wpAny _ A.in1 (ret Value.none) _ _ s';rw[AS] at hS;exact Ac (hR s' (hm.mono hsub) (hS.kept λo e=>hm.heap S _ hSw e))
 | succ k ih=>
  intro i s hk hi hst hS kp hR;have hlt:i<ts.length:=by omega
  refine BY DN ?_;rw[BE CJ _];show wpAny _ A.in1 (pyNext (.ref I)>>=_) _ _ s;refine Aa (W.item i s _ _ hlt hst λv s' hP hst' hm=>?_);obtain⟨b,ws,rfl,hx,hkey⟩:=hval i v hP;have hS':WSet prog w h0 s'.heap S (ts.take i):=hS.kept λo e=>hm.heap S _ hSw e;have kp':∀b o,h0.get? b=some o→s'.heap.get? b=some o:=λb o e=>hm.heap b o (λq=>old b o e (hsub b q)) (kp b o e);have key':IsWishKey prog w s'.heap ws b:=V1 hkey λb o _ _ e _=>kp' b o e;have hni:ws ∉ ts.take i:=λq=>by obtain⟨j,hj,e⟩:=Gb.mp q;rw[AA] at hj;rw[List.getElem_take] at e;obtain⟨hi',e2⟩:=Al.mp hx;have:=(CT.mp nd);have:=(Bs.mp this) j i (by omega) hi' (by omega);exact this (e.trans e2.symm)
  show wpAny _ A.in1 (holding [Value.ref b] (setAdd S (.ref b))>>=_) _ _ s';refine Aa (AZ ?_);unfold setAdd;refine AZ ?_;refine Aa (Vr hu key' ?_);refine ZE (s:={s' with toks:=s'.toks+(4*ws.length+1)}) hu (h0:=h0) kp' hS' hkey hni (by rw[AA];omega) λh' hsb hS2=>?_
  refine Ac ⟨CQ CJ _,ih (i+1) _ (by omega) hlt (W.frame _ s' _ _ hst' (by show s'.toks≤s'.toks+_;omega) λb hb o e=>?_) ?_ (λb o e=>?_) λs'' hm'' hS''=>?_⟩
  · rw[hsb.2 b (λh:b=S=>hSf (by rw[←h];exact hb))];exact e
  · rw[Dq,hx];exact hS2
  · rw[show Heap.get? h' b=_ from hsb.2 b (λh:b=S=>old b o e (by rw[h];exact Ai))];exact kp' b o e
  · refine hR s'' (Moved.trans W.gtrans ((hm.mono hsub).then_heap (by show s'.toks≤s'.toks+_;omega) λb o hb e=>?_) hm'') hS'';rw[hsb.2 b (λh:b=S=>hb (by rw[h];exact Ai))];exact e
end
set_option maxHeartbeats 3200000 in
theorem zeM{l:Addr}{items:Array Value}{ts:List (List WP)}{Q:Value→Shared→Prop}
 (hh:A.handled=none) (hu:A.units+20<cLine) (hl:s.heap.IsList l items) (hsz:items.size=ts.length) (hi:∀(i:Nat)(v:Value),items[i]?=some v→∃b ws,v=Value.ref b∧ts[i]?=some ws∧IsWishKey prog w s.heap ws b) (nd:ts.Nodup) (hb:ts.length≤18)
 (h:∀(h':Heap)(tk:Nat),WSet prog w s.heap h' s.heap.objs.size ts→
  (∀b o,b<s.heap.objs.size→s.heap.get? b=some o→h'.get? b=some o)→Q (.ref s.heap.objs.size) {s with heap:=h',toks:=tk}):
 wpAny (model prog w) A (call (.type "set") [.ref l]) Q E s:=by
 obtain⟨c,tl,hmro⟩:=PySem.F.called_set.mro;have hmade:=PySem.F.called_set.made;have hsub:=PySem.F.called_set.sub;refine E_ (Eu ?_);show wpAny _ _ (callAny (.type "set") _) _ _ _;refine Ac ⟨Code.quiet_builtin _ (by decide+kernel),BY PySem.F.entry_type_call ?_⟩;rw[Around.under_plain (weight_type_call_type "set" [.ref l] []) rfl];have h1:=PySem.F.called_set.notType;have h2:=PySem.F.called_set.canCreate;have hct:=PySem.F.typeCall_set_1 (.ref l)
 repeat (any_goals (first | assumption | wp_step))
 refine BU (zhG (.ref l) (E:=E) (Q₁:=λobj s₁=>obj= .ref s.heap.objs.size∧s₁={s with heap:=s.heap.push {cls:= .type "set",dict:=none,data:= .set #[] 0 (.fresh 0 0 (!J4 w))}}) ⟨rfl,rfl⟩) λr s₁ hr=>?_
 cases r with
 | error e=>exact hr
 | ok fl=>
  cases fl with
  | ret obj=>
   obtain⟨rfl,rfl⟩:=hr;have hS:(s.heap.push {cls:= .type "set",dict:=none,data:= .set #[] 0 (.fresh 0 0 (!J4 w))}).get? s.heap.objs.size=some {cls:= .type "set",dict:=none,data:= .set #[] 0 (.fresh 0 0 (!J4 w))}:=Ay _ rfl;have hT:Shared.TypeIs {s with heap:=s.heap.push {cls:= .type "set",dict:=none,data:= .set #[] 0 (.fresh 0 0 (!J4 w))}} (.ref s.heap.objs.size) "set":=⟨_,hS,rfl⟩;have hli:=PySem.F.called_set.init.lookup;have hbi:=PySem.F.called_set.init.bind (.ref s.heap.objs.size)
   repeat (any_goals (first | assumption | wp_step))
   refine BU (Dy (R:=wants (λr s₂=>r= .none∧∃h' tk,s₂={s with heap:=h',toks:=tk}∧WSet prog w s.heap h' s.heap.objs.size ts∧
    (∀b o,b<s.heap.objs.size→s.heap.get? b=some o→h'.get? b=some o)) E) PySem.F.called_set.init.plain PySem.F.entry_set_init (check_set_init_1 hT ?_)) λr₂ s₂ hr₂=>?_
   · obtain⟨ol,hol,hcl,nl,hdl⟩:=hl;obtain⟨ocls,odict,odata,oslots⟩:=ol;simp only at hcl hdl;subst hcl;subst hdl;have hol':(s.heap.push {cls:= .type "set",dict:=none,data:= .set #[] 0 (.fresh 0 0 (!J4 w))}).get? l=some {cls:= .type "list",dict:=odict,data:= .seq items nl,slots:=oslots}:=Ae _ hol;have hsls:=PySem.F.sub_list_set;have hslf:=PySem.F.sub_list_frozenset;have hne:(Value.type "list"==Value.type "dict")=false:=by decide
     have hl1:(s.heap.push {cls:= .type "set",dict:=none,data:= .set #[] 0 (.fresh 0 0 (!J4 w))}).IsList l items:=⟨_,hol',rfl,nl,rfl⟩;unfold Builtin.«set.__init__» noKeywords Builtin.Frozenset.updateFrom;generalize hPI:pyIter=PI
     wp_walk
     subst hPI;refine ES hl1 ?_;refine Aa (wpAny_runValue ?_);have hlS:l<s.heap.objs.size:=Aq hol;have hh3:A.in1.in1.in1.handled=none:=by simp[hh]
     have hneI:l≠(s.heap.push {cls:= .type "set",dict:=none,data:= .set #[] 0 (.fresh 0 0 (!J4 w))}).objs.size:=by rw[BL];exact A3 (DZ hlS)
     have hSf:s.heap.objs.size ∉ [(s.heap.push {cls:= .type "set",dict:=none,data:= .set #[] 0 (.fresh 0 0 (!J4 w))}).objs.size,l]:=by rw[BL];simp only[An,Am,AK,or_false,not_or];exact⟨A3 (CG _),C7 hlS⟩
     have hfr:∀b∈[s.heap.objs.size,(s.heap.push {cls:= .type "set",dict:=none,data:= .set #[] 0 (.fresh 0 0 (!J4 w))}).objs.size],s.heap.get? b=none:=λb hb=>by
      cases e:s.heap.get? b with
      | none=>rfl
      | some o=>
       have:=Aq e;rw[BL] at hb;simp only[An,AK,or_false] at hb;rcases hb with rfl | rfl
       · exact absurd this (Cq _)
       · exact absurd this (Nat.not_lt.mpr (D6 _))
     have W:=(Walks.list (prog:=prog) (w:=w) hh3 (s.heap.push {cls:= .type "set",dict:=none,data:= .set #[] 0 (.fresh 0 0 (!J4 w))}).objs.size l hneI items).toS;rw[hsz] at W;refine zi6 ts W s.heap.objs.size hSf (by show A.units+1+1+1+1<cLine;omega) (h0:=s.heap) hfr hi nd hb (ts.length - 0) 0 _ (by omega) (AI _)
      ⟨⟨_,Ay _ rfl,rfl,rfl⟩,(hl1.push _)⟩ (ziw (Ae _ hS)) (λb o e=>Ae _ (Ae _ e)) ?hR
     case hR=>
      intro s' hm hS';obtain⟨h',g',d',tk',os'⟩:=s';have eg:g'=s.gens:=hm.gens;have ed:d'=s.drawn:=hm.drawn;have eo:os'=s.os:=hm.os;subst eg;subst ed;subst eo;show wpAny _ _ _ _ _ _;refine Ac ?_;show wpAny _ _ (ret Value.none) _ _ _;refine Ac ⟨rfl,h',tk',rfl,hS',λb o hb e=>?_⟩;have hb1:b≠s.heap.objs.size:=A3 hb;have hb2:b≠(s.heap.push {cls:= .type "set",dict:=none,data:= .set #[] 0 (.fresh 0 0 (!J4 w))}).objs.size:=by rw[BL];exact A3 (DZ hb)
      exact hm.heap b o (by simp only[An,Am,AK,or_false,not_or];exact⟨hb1,hb2⟩) (Ae _ (Ae _ e))
   · cases r₂ with
     | error e=>exact hr₂
     | ok fl₂=>
      cases fl₂ with
      | ret r=>
       obtain⟨rfl,h',tk,rfl,hS',hk'⟩:=hr₂
       repeat (any_goals (first | assumption | wp_step))
       exact h _ _ hS' hk'
      | _=>exact hr₂.elim
  | _=>exact hr.elim
theorem Ui{P:Addr×List WP→Prop}:∀{ws:List (Addr×List WP)}{us:List Value},Vals (ws.map λx=>V.ref x.1) us→(∀x∈ws,P x)→∀(i:Nat)(v:Value),us[i]?=some v→∃x,ws[i]?=some x∧P x∧v= .ref x.1
 | [],us,rv,_,i,v,h=>by cases rv;cases h
 | x::ws,us,rv,ok,i,v,h=>by
  rw[Ax] at rv;cases rv with
  | @cons _ u _ us r1 r2=>
   cases i with
   | zero=> cases(show u=Value.ref x.1 from r1);cases h;exact⟨x,rfl,ok x Ai,rfl⟩
   | succ i=> obtain⟨y,e,o,q⟩:=Ui r2 (λy hy=>ok y (Ag _ hy)) i v (by simpa using h);exact⟨y,by simpa using e,o,q⟩
section
variable{te:TE}{p2 p3 p4:Pos}
def YM(te:TE):TE:=λσ H Q=>te σ H λx H1=>∃a ws,[x]=[V.ref a]∧WsAt H1 a ws∧(ws.map (·.2)).Nodup∧ws.length≤18∧Q (.int ws.length) H1
theorem ziM(hr:Ke X)(hc:X.calm=true)(he:PE X e te)(hg:Gl X "len")(hm:X.mg "len"=none)(hg2:Gl X "set")(hm2:X.mg "set"=none)
 (h1:A7 [e] X.env=(false,eval e X.env)::A7 [] X.env:=by rfl)
 (h2:A7 [.Call (.Name "set" p2) [e] [] p3] X.env=(false,eval (.Call (.Name "set" p2) [e] [] p3) X.env)::A7 [] X.env:=by rfl)
 (h3:(backTo p3 (A7 [] X.env)).any (·.1)=false:=by rfl) (h4:(backTo pos (A7 [] X.env)).any (·.1)=false:=by rfl):
 PE X (.Call (.Name "len" p4) [.Call (.Name "set" p2) [e] [] p3] [] pos) (YM te):=by
 intro pins s σ H Q I h;refine Bt (KH I hg hm IW ?_ (by decide) (by decide));refine Dh ?_ h2 h4;rw[h2];show wpAny _ _ (spliced ((false,eval (.Call (.Name "set" p2) [e] [] p3) X.env)::backTo pos (A7 [] X.env))) _ _ s;refine DG ?_;refine Bt (KH I hg2 hm2 W0 ?_ (by decide) (by decide));refine By (Il (Ic he Ie h1 p3 pins s σ H (λvs H1=>∃a ws,vs=[V.ref a]∧WsAt H1 a ws∧(ws.map (·.2)).Nodup∧ws.length≤18∧Q (.int ws.length) H1) I ?_) λus s1 ⟨vs,H1,I1,r1,a,ws,hv,hq,nd,hn,q⟩=>?_) h1 h3
 · exact h
 subst hv;obtain⟨u1,rfl,v1⟩:=KG r1;cases v1;obtain⟨its,rv,ht,hz⟩:=I1.list (SqL.of hq.at');have hlen:=rv.length;rw[Ab] at hlen;refine zeM (I1.ok.hd hc) (by unfold Ke at hr;omega) ht.isList (ts:=ws.map (·.2)) (by rw[As,Ab];omega) (λi v hv=>?_) nd (by rw[Ab];exact hn) λh' tk hS kp=>?_
 · obtain⟨x,e,ok,ev⟩:=Ui rv hq.ok i v (by simpa using hv);subst ev;exact⟨x.1,x.2,rfl,by rw[Aj,e];rfl,Qm I1.hok ok.1⟩
 · have I2:Inv X pins σ H1 {s1 with heap:=h',toks:=tk}:=I1.kept λb o e=>kp b o (Aq e) e
   refine DV ?_;obtain⟨es,ep,t,ho,T,hsz,_⟩:=hS;rw[Ab] at hsz;refine call_len_set ho ⟨rfl,rfl,rfl⟩ rfl T.fits (by omega) ?_;rw[hsz];exact⟨.int ws.length,H1,I2.kept (t':=tk+1+1) (λb u e=>e),⟨tk+1,rfl⟩,q⟩
end
theorem zgJ(kx target iter:Expr)(ifs:List Expr)(scope:Scope)(pos:Pos)(it:Value)(D:Addr)(env:Env):
 compTurn (.SetComp kx [⟨target,iter,ifs,0⟩] scope pos) 0 it (.ref D) env=(do
  standAt iter.pos
  match ←pyNext it with
  | none=>pure (.done .next)
  | some v=>
   BM target it v
   assign target env v
   let mut ok:=true
   for c in ifs do
    if ok then ok ←isTrue c env (eval c env)
   if ok then
    (do
     let v ←eval kx env
     standAt kx.pos
     let _ ←call (.builtin "set.add") [.ref D,v])
   again (.compLoop (.SetComp kx [⟨target,iter,ifs,0⟩] scope pos) 0 it (.ref D) env)):=by rfl
section
variable{R:Result→Shared→Prop}
theorem zfQ{kx target iter ifs Io scope pos it acc env}
 (h0:codeAny (model prog w) A (.compLoop (.SetComp kx (⟨target,iter,ifs,0⟩::Io) scope pos) 0 it acc env) R s)
 (h:wpAny (model prog w) A (pyIter it) (λit' s'=>codeAny (model prog w) A (.compLoop (.SetComp kx (⟨target,iter,ifs,0⟩::Io) scope pos) 0 it' acc env) R s')
  (notedBy (model prog w) A env λx s'=>R (.error x) s') s):
 codeAny (model prog w) A (.compStart (.SetComp kx (⟨target,iter,ifs,0⟩::Io) scope pos) 0 it acc env) R s:=by
 refine Eu ?_;show wpAny _ A ((Cy (.SetComp kx (⟨target,iter,ifs,0⟩::Io) scope pos) 0 it acc env).onRaise (λx=>do noteFrame x env;standAt theWindowsPlace)) _ _ s
 refine wpAny_notedAt ?_;unfold Cy;show wpAny _ A (ask>>=_) _ _ s;refine Aa (Fm (wpAny_ite ?_))
 split
 · first
    | exact Aa (Ac (Ac (And.intro rfl h0)))
    | exact Ac (And.intro rfl h0)
 · first
    | exact Aa (Cg (Aa (Bm (Aa (A0 h (λit' s' h'=>Ac (And.intro rfl h')) λ_ _ x=>x)))))
    | (refine Aa (Cg ?_);show wpAny _ _ (standAt iter.pos>>=_) _ _ s;exact Aa (Bm (Aa (A0 h (λit' s' h'=>Ac (And.intro rfl h')) λ_ _ x=>x))))
theorem zgK{kx target iter:Expr}{ifs:List Expr}{scope:Scope}{pos:Pos}{it:Value}{D:Addr}{env:Env}(I:Nat→Shared→Prop)
 (turn:∀n s,I n s→wpAny (model prog w) A (pyNext it) (λr s₁=>match r with
  | none=>R (.ok .next) s₁
  | some v=>wpAny (model prog w) A (BM target it v) (λ_ s₁'=>wpAny (model prog w) A (assign target env v) (λ_ s₂=>
   wpAny (model prog w) A (forIn ifs true λc r=>if r=true then do let ok ←isTrue c env (eval c env);pure (ForInStep.yield ok) else pure (ForInStep.yield r)) (λok s₃=>
    if ok=true then wpAny (model prog w) A (eval kx env) (λkv s₄=> wpAny (model prog w) A (call (.builtin "set.add") [.ref D,kv]) (λ_ s₆=>∃m,m<n∧I m s₆) (λ_ _=>False) s₄) (λ_ _=>False) s₃
    else ∃m,m<n∧I m s₃) (λ_ _=>False) s₂) (λ_ _=>False) s₁') (λ_ _=>False) s₁) (λ_ _=>False) s)
 (n:Nat) (h:I n s):
 codeAny (model prog w) A (.compLoop (.SetComp kx [⟨target,iter,ifs,0⟩] scope pos) 0 it (.ref D) env) R s:=by
 refine Es rfl I (λn s hI=>?_) n h;show wpAny _ A ((compTurn (.SetComp kx [⟨target,iter,ifs,0⟩] scope pos) 0 it (.ref D) env).onRaise (λx=>do noteFrame x env;theTreesLotGoes x)) _ _ s
 refine EE ?_;rw[zgJ];refine Aa (Bm (Aa (A0 (turn n s hI) (λr s₁ h₁=>?_) λ_ _ z=>z.elim)));cases r with
 | none=>exact Ac h₁
 | some v=>
  refine Aa (A0 h₁ (λ_ s₁' h₁'=>?_) λ_ _ z=>z.elim);refine Aa (A0 h₁' (λ_ s₂ h₂=>Aa (A0 h₂ (λok s₃ h₃=>?_) λ_ _ z=>z.elim)) λ_ _ z=>z.elim);cases ok with
  | false=>exact Ac ⟨rfl,h₃⟩
  | true=> refine Aa (Aa (A0 h₃ (λkv s₄ h₄=>Aa (Bm (Aa (A0 h₄ (λ_ s₆ h₆=>?_) λ_ _ z=>z.elim)))) λ_ _ z=>z.elim));exact Ac (Ac ⟨rfl,h₆⟩)
end
def Jh(P:AY)(w:World)(d:Addr)(ks:List Str):Heap→Prop:=λh=>h.SetOf (strKind P w) d (λk=>decide (k∈ks)) ks.length
def Ku(ks:List Str)(k:Str):List Str:=if k∈ks then ks else ks++[k]
section
variable{d:Addr}{ks:List Str}
theorem Tq{P':AY}{w':World}(x:Jh P w d ks h):ObjOk P' w' H h d (.ext (Jh P w d ks)):=⟨x,let⟨o,_,_,_,e,_⟩:=x;⟨o,e⟩,λh1 h2 ⟨o,es,ep,t,e,r⟩ k=>⟨o,es,ep,t,k o e,r⟩⟩
theorem YG(x:h.SetOf (strKind P w) d (λ_=>false) 0):Jh P w d [] h:=SetOf_congr x (λ_=>by simp) rfl
theorem YH{k:Str}(x:h.SetOf (strKind P w) d (λk'=>decide (k'∈ks) || decide (k'=k)) (if decide (k∈ks) then ks.length else ks.length+1)):Jh P w d (Ku ks k) h:=by
 unfold Jh Ku;by_cases c:k∈ks
 · rw[if_pos c];refine SetOf_congr x (λy=>?_) (by simp[c]);by_cases e:y=k
   · subst e;simp[c]
   · simp[e]
 · rw[if_neg c];refine SetOf_congr x (λy=>?_) (by simp[c]);simp
end
def Py(J:It)(p:Addr)(js:I_)(g:TG)(tc:TT)(tk:TE)(σ:St)(H:Hp)(Q:Nat→Hp→Prop):Prop:=
 ∃W:Nat→Nat→St→List Str→Hp→Prop,(∃m,∀φ,W 0 m (J6 js σ) [] (upd H p (.ext φ)))∧∀i m σ' ks H,W i m σ' ks H→ks.length≤900∧
  ((J.stop i H∧Q ks.length H)∨(J.go i H∧∀x H',J.yld i H x H'→g x σ' H' λσ2 H2=>tc σ2 H2 λb H3=>
    if b=true then tk σ2 H3 λk H4=>∃t:Str,k= .str t∧H4 p=H p∧∀φ,∃m',m'<m∧W (i+1) m' σ2 (Ku ks t) (upd H4 p (.ext φ))
    else H3 p=H p∧∃m',m'<m∧W (i+1) m' σ2 ks H3))
def Xg(wi:TI)(js:I_)(g:TG)(tc:TT)(tk:TE):TE:=λσ H Q=>wi σ H λJ H1=>∀p,H1 p=none→Py J p js g tc tk σ H1 λn H2=>Q (.int n) H2
section
variable{tg iter kx:Expr}{ifs:List Expr}{wi:TI}{js:I_}{g:TG}{tc:TT}{tk:TE}{N':List Str}{p2 p3:Pos}
theorem YI{pins:List (Addr×Obj)}{σ:St}{H:Hp}{s:Shared}{E:Value→Shared→Prop}{Q:Nat→Hp→Prop}{J:It}{it:Addr}{fp:List Addr}{tn:Nat→Heap→Prop}{cl:List (Str×Addr)}
 (hc:X.calm=true) (ok:CapOk X N' js scope)
 (h2:∀x c,cl.lookup x=some c→X.env.cells.lookup x=some c) (h3:∀p∈scope.names,p.2= .free→(cl.lookup p.1).isSome=true)
 (hg:∀cl C s₀ H₀ ex,PG (IP X N' scope cl C s₀ H₀ ex) tg g) (ht:∀cl C s₀ H₀ ex,IU (IP X N' scope cl C s₀ H₀ ex) ifs tc) (he:∀cl C s₀ H₀ ex,PE (IP X N' scope cl C s₀ H₀ ex) kx tk)
 (I:Inv X pins σ H s) (T:Turn X.prog X.w X.K tg J fp it tn) (st:tn 0 s.heap) (hf:∀b∈fp,Ix X pins H b)
 (hw:∀p,H p=none→Py J p js g tc tk σ H Q):
 wpAny (model X.prog X.w) X.A (newSet (.type "set")) (λacc s₃=>wpAny (model X.prog X.w) X.A (newFunctionEnv scope X.env.globals cl [] X.env.qual none .none (some X.env)) (λcenv s₄=>
  codeAny (model X.prog X.w) X.A (.compStart (.SetComp kx [⟨tg,iter,ifs,0⟩] scope pos) 0 (.ref it) acc {cenv with scope:=relabel scope X.env})
   (λr s'=>r= .ok .next∧(∃m,s'.heap.Ns cenv.locals m)∧∃(p:Addr)(H':Hp)(ks:List Str),acc= .ref p∧Inv X pins σ H' s'∧Ix X pins H' cenv.locals∧H' p=some (.ext (Jh X.prog X.w p ks))∧Q ks.length H') s₄) E s₃) E s:=by
 have objs:=T.obj _ _ st;refine wpAny_newSet_of (knd:=strKind X.prog X.w) λled hnew=>?_;obtain⟨W,⟨m0,w0⟩,turn⟩:=hw s.heap.objs.size (I.hok.fresh (Af _));generalize hp:s.heap.objs.size=p at*;have kp:∀b u,s.heap.get? b=some u→(s.heap.push {cls:= .type "set",dict:=none,data:= .set #[] 0 (.fresh 0 0 led)}).get? b=some u:=λb u e=>Ae _ e;have I3:Inv X pins σ (upd H p (.ext (Jh X.prog X.w p []))) {s with heap:=s.heap.push {cls:= .type "set",dict:=none,data:= .set #[] 0 (.fresh 0 0 led)}}:=by subst hp;exact I.laid (t':=s.toks) kp (Af _) (Tq (YG hnew))
 have fne:∀b∈fp,b≠p:=λb hb=>by obtain⟨o,e,_⟩:=objs b hb;have:=Aq e;rw[←hp];exact A3 this
 have hf3:∀b∈fp,Ix X pins (upd H p (.ext (Jh X.prog X.w p []))) b:=λb hb=>⟨by rw[Iy (fne b hb)];exact(hf b hb).1,(hf b hb).2⟩;have st3:tn 0 (s.heap.push {cls:= .type "set",dict:=none,data:= .set #[] 0 (.fresh 0 0 led)}):=T.keep _ _ _ st λb _ o e=>kp b o e;have lt3:∀b∈fp,b<(s.heap.push {cls:= .type "set",dict:=none,data:= .set #[] 0 (.fresh 0 0 led)}).objs.size:=λb hb=>by obtain⟨o,e,_⟩:=objs b hb;exact Aq (kp b o e)
 generalize hs3:({s with heap:=s.heap.push {cls:= .type "set",dict:=none,data:= .set #[] 0 (.fresh 0 0 led)}}:Shared)=s3 at*
 have eh:s.heap.push {cls:= .type "set",dict:=none,data:= .set #[] 0 (.fresh 0 0 led)}=s3.heap:=by rw[←hs3]
 rw[eh] at st3 lt3;refine NL ok.cells λcl h₁ hns₁ k4 oc=>?_;have I4:=NB (cl:=cl) (h₁:=h₁) (t':=s3.toks+([]:List (Str×Value)).length) ok I3 h2 h3 hf3 lt3 k4 hns₁ oc;have st4:tn 0 h₁:=T.keep _ _ _ st3 λb _ o e=>k4 b o e;generalize hX:IP X N' scope cl s3.heap.objs.size s3 (upd H p (.ext (Jh X.prog X.w p []))) fp=X' at I4;have hg':PG X' tg g:=by rw[←hX];exact hg _ _ _ _ _
 have ht':IU X' ifs tc:=by rw[←hX];exact ht _ _ _ _ _
 have he':PE X' kx tk:=by rw[←hX];exact he _ _ _ _ _
 have eP:X'.prog=X.prog:=by rw[←hX];rfl
 have ew:X'.w=X.w:=by rw[←hX];rfl
 have eK:X'.K=X.K:=by rw[←hX];rfl
 have ec:X'.calm=true:=by rw[←hX];exact hc
 have eA:X'.A=X.A:=by rw[←hX];rfl
 have ex:X'.xe=λ_ _=>False:=by rw[←hX];rfl
 have eE:X'.env=compEnvC scope cl s3.heap.objs.size X.env:=by rw[←hX];rfl
 have eEx:X'.ex=fp:=by rw[←hX];rfl
 have eN:X'.pn=[]:=by rw[←hX];rfl
 have stat:∀{H':Hp},(∀b∈fp,H' b=none)→∀b∈fp,Ix X' [] H' b:=λ{H'}hn b hb=>by have okc:=I4.ok;refine⟨hn b hb,(okc.exf b (by rw[eEx];exact hb)).1,okc.exfs b (by rw[eEx];exact hb),.inl (by rw[eEx];exact hb),(okc.exf b (by rw[eEx];exact hb)).2,λq hq=>?_⟩;rw[eN] at hq;cases hq
 have loop:∀s₄:Shared,s₄={s3 with heap:=h₁,toks:=s3.toks+([]:List (Str×Value)).length}→
  codeAny (model X.prog X.w) X.A (.compLoop (.SetComp kx [⟨tg,iter,ifs,0⟩] scope pos) 0 (.ref it) (.ref p) (compEnvC scope cl s3.heap.objs.size X.env))
   (λr s'=>r= .ok .next∧(∃m,s'.heap.Ns s3.heap.objs.size m)∧∃(p':Addr)(H':Hp)(ks:List Str),Value.ref p= .ref p'∧Inv X pins σ H' s'∧Ix X pins H' s3.heap.objs.size∧H' p'=some (.ext (Jh X.prog X.w p' ks))∧Q ks.length H') s₄:=by
  rintro s₄ rfl;refine zgK (λn s'=>∃i σ' ys H',Inv X' [] σ' H' s'∧tn i s'.heap∧(∀b∈fp,H' b=none)∧H' p=some (.ext (Jh X.prog X.w p ys))∧W i n σ' ys H') ?_ m0 ⟨0,_,[],_,I4,st4,λb hb=>(hf3 b hb).1,Ij,w0 _⟩;rintro n s5 ⟨i,σ5,ys,H5,I5,st5,fr5,hp5,w5⟩;obtain⟨lk5,tu⟩:=turn i n σ5 ys H5 w5;rcases tu with⟨stop,qn⟩ | ⟨go,step⟩
  · have D:=T.done X' eP ew eK ec i [] s5 σ5 H5 (λ_ _=>False) I5 (stat fr5) st5 stop;rw[eA] at D;refine Il D λr s6 ⟨hr,I6⟩=>?_;subst hr;refine⟨rfl,?_,p,H5,ys,rfl,?_,?_,hp5,qn⟩
    · obtain⟨m,hm,_⟩:=I6.loc;rw[eE] at hm;exact⟨m,hm⟩
    · have b6:=I6.base;have ho:=I6.os;have hk:=I6.hok;have hb:=I6.bare;subst hX;exact I3.call' (ch:=fp) ho b6 hk hb λb hb'=>⟨(hf b hb').2.2.2.1,(hf b hb').2.1,(hf b hb').2.2.2.2.1,(hf b hb').2.2.2.2.2⟩
    · have fr:=I6.free;rw[eE] at fr;exact I3.fpOk (Af _) fr
  · have D:=T.item X' eP ew eK ec i [] s5 σ5 H5 (λ_ _=>False) I5 (stat fr5) st5 go;rw[eA] at D;refine Il D λr s6 ⟨u,hr,h6⟩=>?_;subst hr;refine Il h6 λ_ s7 ⟨x,H7,I7,r7,y7,st7,fr7⟩=>?_;have I7':=I7.pinned (stat fr7) (T.obj _ _ st7);have G:=hg' _ s7 σ5 H7 x u _ I7' r7 (step x H7 y7);rw[eP,ew,eA,ex,eE] at G;refine Il G λ_ s8 ⟨σ8,H8,I8,q8⟩=>?_;have Tt:=ht' _ s8 σ8 H8 _ I8 q8;rw[eP,ew,eA,ex,eE] at Tt;refine Il Tt λb s9 ⟨H9,I9,q9⟩=>?_;have again:∀{s':Shared}{ys':List Str}{H':Hp},Inv X' ([]++Ls fp s7.heap) σ8 H' s'→H' p=some (.ext (Jh X.prog X.w p ys'))→(∃m',m'<n∧W (i+1) m' σ8 ys' H')→
     ∃m,m<n∧∃i σ' ys H',Inv X' [] σ' H' s'∧tn i s'.heap∧(∀b∈fp,H' b=none)∧H' p=some (.ext (Jh X.prog X.w p ys))∧W i m σ' ys H':=λ{s' ys' H'}I' hp' ⟨m',hm,w'⟩=>by
     refine⟨m',hm,i+1,σ8,ys',H',I'.unpinned,T.keep _ _ _ st7 λb hb o e=>(I'.pin (b,o) (Ah _ (Ah _ (K4 hb e)))).1,λb hb=>?_,hp',w'⟩;obtain⟨o,e,d⟩:=T.obj _ _ st7 b hb;exact(I'.pin (b,o) (Ah _ (Ah _ (K4 hb e)))).2.1
    cases b with
    | false=> obtain⟨e9,q9⟩:=q9;exact again I9 (e9.trans hp5) q9
    | true=> have Ee:=he' _ s9 σ8 H9 _ I9 q9;rw[eP,ew,eA,ex,eE] at Ee;show wpAny _ _ _ _ _ _;refine Il Ee λkv s10 ⟨kk,H10,I10,r10,q10⟩=>?_;obtain⟨t,ek,hp10,q11⟩:=q10;subst ek;obtain⟨tok,rfl⟩:=(show ∃tk,kv=Value.str t tk from r10);have hp11':=hp10.trans hp5;have ph:=(show ObjOk X'.prog X'.w H10 s10.heap p (.ext (Jh X.prog X.w p ys)) from I10.hok p _ hp11').1;refine call_set_add (knd:=strKind X.prog X.w) (k:=t) (key:= .str t tok) (Yj t tok) rfl ph (by unfold scanBound;omega) λh' hs' hS=>?_;have he0:∃q,h'.get? p=some q:=let⟨q,_,_,_,hq,_⟩:=hS;⟨q,hq⟩;have I12:=PX (t':=s10.toks+1) (ob:= .ext (Jh X.prog X.w p (Ku ys t))) I10 (by rw[hp11'];exact True.intro) hs' he0 (Tq (YH hS));exact again I12 Ij (q11 _)
 exact zfQ (loop _ rfl) (T.self _ 0 _ _ _ st4 (loop _ rfl))
theorem Y5{p4:Pos}(hc:X.calm=true)(ok:CapOk X N' js scope)(hi:PI X tg iter wi)
 (hg:∀cl C s₀ H₀ ex,PG (IP X N' scope cl C s₀ H₀ ex) tg g) (ht:∀cl C s₀ H₀ ex,IU (IP X N' scope cl C s₀ H₀ ex) ifs tc) (he:∀cl C s₀ H₀ ex,PE (IP X N' scope cl C s₀ H₀ ex) kx tk)
 (hgl:Gl X "len") (hm:X.mg "len"=none) (hs:∀x,Bq iter X.env x=pure x:=by intro _;rfl)
 (h2:A7 [.SetComp kx [⟨tg,iter,ifs,0⟩] scope pos] X.env=(false,eval (.SetComp kx [⟨tg,iter,ifs,0⟩] scope pos) X.env)::A7 [] X.env:=by rfl)
 (h4:(backTo p2 (A7 [] X.env)).any (·.1)=false:=by rfl):
 PE X (.Call (.Name "len" p4) [.SetComp kx [⟨tg,iter,ifs,0⟩] scope pos] [] p2) (Xg wi js g tc tk):=by
 intro pins s σ H Q I h;refine Bt (KH I hgl hm IW ?_ (by decide) (by decide));refine Dh ?_ h2 h4;rw[h2];show wpAny _ _ (spliced ((false,eval (.SetComp kx [⟨tg,iter,ifs,0⟩] scope pos) X.env)::backTo p2 (A7 [] X.env))) _ _ s;refine DG ?_;obtain⟨cl,c1,c2,c3⟩:=MO (scope:=scope) I.ok.has ok.free;show wpAny _ X.A (comprehension (.SetComp kx [⟨tg,iter,ifs,0⟩] scope pos) scope X.env _ (newSet (.type "set")) false (eval iter X.env)) _ _ s;refine Cd (use:=none) rfl hs c1 ok.kind ok.names (Il (hi pins s σ H _ I h) λv s1 h1=>Il h1 λitv s2 h2=>?_);obtain⟨it,fp,tn,J,H2,e,I2,T,st2,f2,hw⟩:=h2;subst e;refine A0 (YI (iter:=iter) (pos:=pos) hc ok c2 c3 hg ht he I2 T st2 f2 hw) (λacc s3 h3=>A0 h3 (λcenv s4 h4=>?_) λ_ _ z=>z) λ_ _ z=>z;refine BU h4 λr s5 h5=>?_;obtain⟨rfl,⟨m,hm⟩,p,H5,ks,rfl,I5,f5,hp,q5⟩:=h5;refine⟨m,hm,λh' sb=>?_⟩;obtain⟨f0,f1,_,f3,f4,f6⟩:=f5;have I6:=I5.turned (t':=s5.toks) (h':=h') (λb o hb e=>(sb.2 b hb).trans e) f0 f1 f3 f4 f6;refine DV ?_;have ph:=(show ObjOk X.prog X.w H5 h' p (.ext (Jh X.prog X.w p ks)) from I6.hok p _ hp).1;obtain⟨o,es,ep,t,ho,hex,hd,_,_,hb,hf,hsz⟩:=ph;refine call_len_set ho hex hd hf (by unfold scanBound at hb;omega) ?_;rw[hsz];exact⟨.int ks.length,H5,I6.kept (t':=s5.toks+1+1) (λb u e=>e),⟨s5.toks+1,rfl⟩,q5⟩
end
structure Stand where
 a:Addr
 hand:Str
 post:Int
 l:Addr
 ws:List (Addr×List WP)
structure StAt(H:Hp)(W:List Int)(x:Stand):Prop where
 at':H x.a=some (.tup [.str x.hand,.int x.post,.ref x.l])
 ws:WsAt H x.l x.ws
 nd:(x.ws.map (·.2)).Nodup
 few:x.ws.length≤10
 name:FieldOk x.hand
 post:WB.Post W x.post
structure StsAt(H:Hp)(W:List Int)(l:Addr)(xs:List Stand):Prop where
 at':H l=some (.lst (xs.map λx=>V.ref x.a))
 ok:∀x∈xs,StAt H W x
 nd:(xs.map (·.hand)).Nodup
 len:xs.length≤30
theorem StAt.same{H':Hp}{W:List Int}{x:Stand}(h:StAt H W x)(s:Same H H'):StAt H' W x:=⟨s _ _ h.at',h.ws.same s,h.nd,h.few,h.name,h.post⟩
theorem StsAt.same{H':Hp}{W:List Int}{l:Addr}{xs:List Stand}(h:StsAt H W l xs)(s:Same H H'):StsAt H' W l xs:=⟨s _ _ h.at',λx hx=>(h.ok x hx).same s,h.nd,h.len⟩
theorem ZP{xs:List Stand}(nd:(xs.map (·.hand)).Nodup){x:Stand}(e:xs[i]?=some x):Ku ((xs.map (·.hand)).take i) x.hand=(xs.map (·.hand)).take (i+1):=by
 have e2:(xs.map (·.hand))[i]?=some x.hand:=by rw[Aj,e];rfl
 unfold Ku;rw[if_neg,Dq,e2]
 · rfl
 · intro q;obtain⟨j,hj,e3⟩:=Gb.mp q;rw[AA] at hj;rw[List.getElem_take] at e3;obtain⟨hi',e4⟩:=Al.mp e2;have:=(Bs.mp (CT.mp nd)) j i (by omega) hi' (by omega);exact this (e3.trans e4.symm)
def UG:Sp:=λvs H Q _=>∃(l:Addr)(ws:List (Addr×List WP)),vs=[.ref l]∧WsAt H l ws∧(ws.map (·.2)).Nodup∧ws.length≤18∧∀H',Same H H'→Q (.bl true) H'
def Vf:Sp:=λvs H Q _=>∃(a:Addr)(W:List Int)(x:Stand),vs=[.ref a,.ref x.a]∧WebAt H a W∧StAt H W x∧∀H',Same H H'→Q (.bl true) H'
def VE:Sp:=λvs H Q _=>∃(a l:Addr)(W:List Int)(xs:List Stand),vs=[.ref a,.ref l]∧WebAt H a W∧StsAt H W l xs∧∀H',Same H H'→Q (.bl true) H'
def VF:Sp:=λvs H Q _=>∃(a l:Addr)(W:List Int)(xs:List Stand),vs=[.ref a,.ref l]∧WebAt H a W∧StsAt H W l xs∧∀H',Same H H'→Q .non H'
section
variable{K:Ad}{p:Addr}{g:TG}{tc:TT}{te:TE}{Q:Nat→Hp→Prop}
theorem Yg{js:I_}(Pv:Nat→St→List Str→Hp→Prop)(h0:∀φ,Pv 0 (J6 js σ) [] (upd H p (.ext φ)))
 (hl:∀i σ ks H,i≤xs.length→Pv i σ ks H→SqL K H a xs∧ks.length≤900)
 (hs:∀(i:Nat)x σ ks H(N:St→List Str→Hp→Prop),xs[i]?=some x→Pv i σ ks H→(∀σ' ks' H',Pv (i+1) σ' ks' H'→N σ' ks' H')→
  g x σ H λσ2 H2=>tc σ2 H2 λb H3=>if b=true then te σ2 H3 λk H4=>∃t:Str,k= .str t∧H4 p=H p∧∀φ,N σ2 (Ku ks t) (upd H4 p (.ext φ)) else H3 p=H p∧N σ2 ks H3)
 (hd:∀σ ks H,Pv xs.length σ ks H→Q ks.length H):Py (KC K a) p js g tc te σ H Q:=by
 refine⟨λi m σ ks H=>m=xs.length - i∧i≤xs.length∧Pv i σ ks H,⟨xs.length,λφ=>⟨by simp,AI _,h0 φ⟩⟩,?_⟩;rintro i m σ ks H ⟨rfl,hi,pv⟩;obtain⟨q1,q2⟩:=hl i σ ks H hi pv;refine⟨q2,?_⟩;by_cases lt:i<xs.length
 · refine .inr ⟨⟨xs,xs[i],q1,by simp[lt]⟩,λx H' y=>?_⟩;obtain⟨e,y⟩:=y;subst e;exact hs i x σ ks _ (λσ2 ks2 H2=>∃m',m'<xs.length - i∧m'=xs.length - (i+1)∧i+1≤xs.length∧Pv (i+1) σ2 ks2 H2) (y xs q1) pv λσ' ks' H' p'=>⟨xs.length - (i+1),by omega,rfl,lt,p'⟩
 · have e:i=xs.length:=by omega
   subst e;exact .inl ⟨⟨xs,q1,Af _⟩,hd σ ks H pv⟩
end
theorem zfU(K:Ad)(h:X.K=K):Kp X (.type "list") (λxs H Q=>∃p ys,xs=[.ref p]∧(SqL K H p ys∨SqT K H p ys)∧∀l,H l=none→Q (.ref l) (upd H l (.lst ys))):=by subst h;exact NN
theorem zi8{M:Nat}(h:M≤23):WB.Web ((AJ M).map (λ(i:Nat)=>(i:Int))):=by
 refine⟨by simp;omega,λi n e=>?_⟩;rw[Aj] at e;by_cases c:i<M
 · rw[Gj c] at e;cases e;show 0≤(i:Int)∧(i:Int)≤(i:Int);exact⟨by omega,by omega⟩
 · rw[Dt (by simp;omega)] at e;cases e
theorem UJ{L:List Int}{x:Int}(h:∀(j:Nat)y,L[j]?=some y→0≤y∧y≤(j:Int))(x0:0≤x)(x1:x≤(L.length:Int)):∀(j:Nat)y,(L++[x])[j]?=some y→0≤y∧y≤(j:Int):=λj y e=>by
 by_cases c:j<L.length
 · rw[C4 c] at e;exact h j y e
 · rw[Cr (by omega)] at e;have:j - L.length=0:=by
    cases q:j - L.length with
    | zero=>rfl
    | succ m=>rw[q] at e;simp at e
   rw[this] at e;cases e;exact⟨x0,by omega⟩
def Ve:Sp:=λvs H Q _=>∃(b g l:Addr)(n many:Int),vs=[.ref b,.int many]∧Well H b g l n∧n≤10^7∧1≤many∧many≤30∧
 ∀(r:Addr)(fs:List Str)(H':Hp),H r=none→H' r=some (.lst (fs.map V.str))→fs.Pairwise JP→(∀f∈fs,FieldOk f)→1≤fs.length→(fs.length:Int)≤many→Well H' b g l (n+1000)→SameB b g H H'→Q (.ref r) H'
def UD:Sp:=λvs H Q _=>∃(b g l a:Addr)(n:Int)(xs:List V),vs=[.ref b,.ref a]∧Well H b g l n∧n≤10^6∧H a=some (.lst xs)∧a≠b∧a≠g∧xs.length≤90∧
 ∀(r:Addr)(ys zs:List V)(H':Hp),H r=none→H' r=some (.lst ys)→(ys++zs).Perm xs→Well H' b g l (n+100)→SameB b g H H'→Q (.ref r) H'
def Th:Sp:=λvs H Q _=>∃(b g l:Addr)(n most:Int),vs=[.ref b,.int most]∧Well H b g l n∧n≤10^6∧1≤most∧most≤24∧
 ∀(r:Addr)(W:List Int)(H':Hp),H r=none→WebAt H' r W→Well H' b g l (n+30)→SameB b g H H'→Q (.ref r) H'
def IX(x:Stand):Str×Int×List (Addr×List WP):=(x.hand,x.post,x.ws)
def SZ:Sp:=λvs H Q _=>∃(l:Addr)(W:List Int)(xs:List Stand),vs=[.ref l]∧StsAt H W l xs∧∀(r:Addr)(ys:List Stand)(H':Hp),H r=none→Same H H'→StsAt H' W r ys→ys.map IX=xs.map IX→Q (.ref r) H'
theorem StAt.sameW{H':Hp}{g m:Addr}{n:Int}{W:List Int}{x:Stand}(h:StAt H W x)(B:Well H b g m n)(f:x.l≠b∧x.l≠g)(s:SameB b g H H'):StAt H' W x:=⟨B.tup s h.at',h.ws.sameW B f.1 f.2 s,h.nd,h.few,h.name,h.post⟩
theorem StsAt.sameW{H':Hp}{g m:Addr}{n:Int}{W:List Int}{l:Addr}{xs:List Stand}(h:StsAt H W l xs)(B:Well H b g m n)(lb:l≠b)(lg:l≠g)(f:∀x∈xs,x.l≠b∧x.l≠g)(s:SameB b g H H'):StsAt H' W l xs:=⟨s _ _ h.at' lb lg,λx hx=>(h.ok x hx).sameW B (f x hx) s,h.nd,h.len⟩
def hw(x:Stand):Str×List (Addr×List WP):=(x.hand,x.ws)
structure IsTop(ws qs:List (List WP)):Prop where
 nd:qs.Nodup
 mem:∀w,w∈qs↔w∈ws∧∀o∈ws,II o w=true→o=w
theorem IsTop.some{ws qs:List (List WP)}(h:IsTop ws qs)(h2:2≤qs.length):∀w∈qs,w≠[]:=λw hw e=>by
 subst e;have all:∀v∈qs,v=[]:=λv hv=>(((h.mem v).mp hv).2 [] ((h.mem []).mp hw).1 rfl).symm
 match qs,h2,h.nd,all with
 | a::b::r,_,nd,all=> have e1:=all a Ai;have e2:=all b (Ag _ Ai);exact(Bv.mp nd).1 (by rw[e1,e2];exact Ai)
def MA(qs:List (List WP)):Prop:=qs.Pairwise λx y=>O6 y x=false
theorem IsTop.perm{ws qs qs':List (List WP)}(h:IsTop ws qs)(p:qs'.Perm qs):IsTop ws qs':=⟨p.nodup_iff.mpr h.nd,λw=>by rw[p.mem_iff];exact h.mem w⟩
theorem Xj{ws us:List (List WP)}(nd:us.Nodup)(hm:∀w,w∈us↔w∈ws)(f:List WP→Bool)(hf:∀w∈us,f w=true↔∀o∈us,II o w=true→o=w):IsTop ws (us.filter f):=
 ⟨nd.filter _,λw=>by
  rw[Av];constructor
  · rintro⟨h1,h2⟩;exact⟨(hm w).mp h1,λo ho=>(hf w h1).mp h2 o ((hm o).mpr ho)⟩
  · rintro⟨h1,h2⟩;have h1:=(hm w).mpr h1;exact⟨h1,(hf w h1).mpr λo ho=>h2 o ((hm o).mp ho)⟩⟩
theorem ZF{w:List WP}{p:WP}{f:Str}(e:w[i]?=some p)(hf:p.1=f)(hn:∀q∈w.take i,q.1≠f):Jt w f=some p.2:=by
 have hi:i<w.length:=(Al.mp e).1;unfold Jt;have:w.find? (λq=>decide (q.1=f))=some p:=by rw[←List.take_append_drop i w,List.find?_append,Cz.mpr λq hq z=>hn q hq (of_decide_eq_true z),C5 hi];rw[show w[i]=p from(Al.mp e).2];rw[List.find?_cons_of_pos (by simpa using hf)];rfl
 rw[this];rfl
def JJ(p:WP):PD:= .tup [.str p.1,.bl p.2.1.isSome,.int (p.2.1.getD 0),.bl p.2.2.isNone,.int (p.2.2.getD 0)]
def L1(w:List WP):PD:= .tup (w.map JJ)
def LI(p:WP):List V:=[.str p.1,.bl p.2.1.isSome,.int (p.2.1.getD 0),.bl p.2.2.isNone,.int (p.2.2.getD 0)]
theorem Uk{K:Ad}:∀qs:List (Addr×WP),(∀q∈qs,H q.1=some (.tup (LI q.2)))→Reps K H ((qs.map (·.2)).map JJ) (qs.map λq=>V.ref q.1)
 | [],_=>by show Reps K H [] [];rw[Reps]
 | q::qs,h=>by show Reps K H (JJ q.2::_) (V.ref q.1::_);rw[Reps];refine⟨_,_,rfl,?_,Uk qs λx hx=>h x (Ag _ hx)⟩;unfold JJ;rw[Rep];refine⟨q.1,_,rfl,SqT.of (h q Ai),?_⟩;unfold LI;simp only[Reps,Rep];exact⟨_,_,rfl,rfl,_,_,rfl,rfl,_,_,rfl,rfl,_,_,rfl,rfl,_,_,rfl,rfl,rfl⟩
theorem YB(p q:WP):Ir (JJ p) (JJ q)=decide (ky p=ky q):=by obtain⟨f,lo,hi⟩:=p;obtain⟨f',lo',hi'⟩:=q;unfold JJ ky;rw[Ir,Jr,Jr,Jr,Jr,Jr,Jr,Ir,Ir,Ir,Ir,Ir,Bi];cases lo<;>cases lo'<;>cases hi<;>cases hi'<;>simp[RH,RP]
theorem YC(p q:WP)(hn:ky p≠ky q):IM (JJ p) (JJ q)=Li (ky p) (ky q):=by
 obtain⟨f,lo,hi⟩:=p;obtain⟨f',lo',hi'⟩:=q;unfold JJ Li JV;unfold ky at*;rw[IM,JR,JR,JR,JR,JR,JR];simp only[Ir,IM];by_cases h:f=f'
 · subst h;cases lo<;>cases lo'<;>cases hi<;>cases hi'<;>simp[RH,RP,KN,JV,M6] at hn ⊢ <;>(try split)<;>(try simp_all)<;>(try rfl)<;>(try (congr 1))
 · simp[h,RG]
theorem Y1(p q:WP):IA (JJ p) (JJ q)=true:=by
 unfold JJ;rw[IA,Ko,Ko,Ko,Ko,Ko,Ko]
 all_goals simp[IA]
theorem Uy:∀w w':List WP,Ko (w.map JJ) (w'.map JJ)=true
 | [],w'=>by rw[Cb,Ko];all_goals simp
 | x::r,[]=>by rw[Cb,Ko];all_goals simp
 | x::r,y::r'=>by rw[Ax,Ax,Ko,Y1,Uy r r'];simp
theorem UM:∀w w':List WP,JR (w.map JJ) (w'.map JJ)=Jy Li (w.map ky) (w'.map ky)
 | [],[]=>by rw[Cb,JR];rfl
 | [],y::r=>by rw[Cb,Ax,JR];rfl
 | x::r,[]=>by rw[Cb,Ax,JR];rfl
 | x::r,y::r'=>by
  rw[Ax,Ax,JR,YB,UM r r',Ax,Ax,Jy];by_cases h:ky x=ky y
  · rw[if_pos (decide_eq_true h),if_pos h]
  · rw[if_neg (by simpa using h),if_neg h,YC x y h]
theorem Ya(w w':List WP):IM (L1 w) (L1 w')=O6 w w':=by unfold L1 O6;rw[IM,UM]
theorem YV(w:List WP):Jk (L1 w)≤2:=by
 have:∀w:List WP,JC (w.map JJ)≤1:=λw=>by
  induction w with
  | nil=>show JC []≤1;rw[JC];omega
  | cons p w ih=>
   rw[Ax,JC];have:Jk (JJ p)=1:=by unfold JJ;simp[Jk,JC]
   omega
 unfold L1;rw[Jk];have:=this w;omega
structure Dd(us ks:List (Addr×List WP)):Prop where
 sub:∀k∈ks,k∈us
 nd:(ks.map (·.2)).Nodup
 mem:∀w,w∈ks.map (·.2)↔w∈us.map (·.2)
 len:ks.length≤us.length
theorem Dd.nil:Dd [] []:=⟨λ_ h=>h,EC,λ_=>Iff.rfl,Af _⟩
theorem Dd.put{us ks:List (Addr×List WP)}(h:Dd us ks)(x:Addr×List WP):Dd (us++[x]) (Kt ks x.1 x.2):=by
 unfold Kt;by_cases c:(ks.any λk=>decide (k.2=x.2))=true
 · rw[if_pos c];obtain⟨k,hk,e⟩:=Cf.mp c;have e:=of_decide_eq_true e;have hx:x.2∈us.map (·.2):=(h.mem _).mp (by rw[←e];exact AF hk);refine⟨λk hk=>AH _ (h.sub k hk),h.nd,λw=>?_,by rw[Aw];have:=h.len;omega⟩;rw[h.mem,Ao,A9];refine⟨.inl,λz=>z.elim id λz=>?_⟩;rw[Ax,Cb,Am] at z;rw[z];exact hx
 · rw[if_neg c];have nx:x.2 ∉ ks.map (·.2):=λhx=>by
    obtain⟨k,hk,e⟩:=Az.mp hx;exact c (Cf.mpr ⟨k,hk,decide_eq_true e⟩)
   refine⟨λk hk=>?_,?_,λw=>?_,by rw[Aw,Aw];have:=h.len;simp;omega⟩
   · rcases A9.mp hk with z | z
     · exact AH _ (h.sub k z)
     · exact Ah _ z
   · rw[Ao,BJ];refine⟨h.nd,by simp,λa ha b hb e=>?_⟩;rw[Ax,Cb,Am] at hb;rw[e,hb] at ha;exact nx ha
   · rw[Ao,Ao,A9,A9,h.mem]
theorem zgH{α:Type}(f:α→Bool)(l:List α):(l.filter f).isEmpty=!l.any f:=by rw[Bi];simp[List.isEmpty_iff,FK]
def K3(ks:List (Addr×List WP))(w:List WP):Bool:=!(ks.any λk=>II k.2 w && !decide (k.2=w))
theorem Dd.top{ws ks:List (Addr×List WP)}(h:Dd ws ks):IsTop (ws.map (·.2)) ((ks.filter λk=>K3 ks k.2).map (·.2)):=by
 have:=Xj h.nd h.mem (K3 ks) λw hw=>by
  unfold K3;rw[BA,DS];constructor
  · intro z o ho r;obtain⟨k,hk,rfl⟩:=Az.mp ho;have:=z k hk;rw[r] at this;simpa using this
  · intro z k hk;have:=z k.2 (AF hk);cases r:II k.2 w with
    | false=>simp
    | true=>simpa using this r
 rw[List.filter_map] at this;exact this
theorem YD{M:Nat}{K:Ad}{sp:Sp}{t:Addr}{qs:List (Addr×List WP)}{Q:VK}(hn:qs.length≤M)(D:List WP→PD)(hW:WsAt H t qs)
 (hsp:∀x∈qs,∀H1,Same H H1→∀Q1:VK,(∀kv H2,Same H1 H2→Rep K H2 (D x.2) kv→Q1 kv H2)→sp [.ref x.1] H1 Q1 E0) (hf:PM qs.length λi=>D (qs.getD i (0,[])).2)
 (hd:∀w,Jk (D w)≤20) (hok:∀w w',IA (D w) (D w')=true) (hlt:∀w w',IM (D w) (D w')=O6 w w')
 (q:∀(r:Addr)(rs:List (Addr×List WP))(H':Hp),Same H H'→H r=none→rs.Perm qs→MA (rs.map (·.2))→H' r=some (.lst (rs.map λx:Addr×List WP=>V.ref x.1))→Q (.ref r) H'):MN M K sp [.ref t] H Q:=by
 have lm:(qs.map λx=>V.ref x.1).length=qs.length:=Ab _;have O:KS.Ord λi j=>IM (D (qs.getD i (0,[])).2) (D (qs.getD j (0,[])).2):=by have:=sto_ky.ord λi=>(qs.getD i (0,[])).2.map ky;simp only[hlt];exact this
 refine⟨t,_,λi=>D (qs.getD i (0,[])).2,rfl,SqL.of hW.at',by rw[lm];exact hn,?refs,?cons,?_,by rw[lm];exact hf,λi=>hd _,λi j _ _=>hok _ _,O,?_⟩
 case refs=> intro v hv;obtain⟨x,_,rfl⟩:=Az.mp hv;exact⟨_,rfl⟩
 case cons=>
  intro i j hi hj e;rw[lm] at hi hj;rw[Aj,Aj] at e;have ei:qs[i]?=some qs[i]:=by simp
  have ej:qs[j]?=some qs[j]:=by simp
  rw[ei,ej] at e;have ea:qs[i].1=qs[j].1:=by have:=AD e;injection this
  have w1:=(hW.ok _ (Ak ei)).1;have w2:=(hW.ok _ (Ak ej)).1;rw[ea] at w1;have:=w1.inj w2;show D (qs.getD i (0,[])).2=D (qs.getD j (0,[])).2;rw[A2,A2,ei,ej];show D qs[i].2=D qs[j].2;rw[this]
 · intro i v hv H2 s2 Q1 hQ;rw[Aj] at hv;cases e1:qs[i]? with
   | none=>rw[e1] at hv;cases hv
   | some P1=>
    rw[e1] at hv;obtain rfl:V.ref P1.1=v:=AD hv;have e2:qs.getD i (0,[])=P1:=by rw[A2,e1];rfl
    exact hsp P1 (Ak e1) H2 s2 Q1 λv' H' s' r'=>hQ v' H' s' (by show Rep K H' (D (qs.getD i (0,[])).2) v';rw[e2];exact r')
 · intro r p H' ok srt s2 nr e';rw[lm] at ok srt;have hsz:=ok.size;have em:(p.toList.map λi=>(qs.map λx=>V.ref x.1).getD i .non)=(p.toList.map λi=>qs.getD i (0,[])).map λx=>V.ref x.1:=by
    rw[BF];refine E6 λi hi=>?_;have hi':i<qs.length:=AQ.mp (ok.perm.mem_iff.mp hi);rw[Za (λx:Addr×List WP=>V.ref x.1) (0,[]) V.non qs hi'];rfl
   rw[em] at e';refine q r _ H' s2 nr (Y6 (0,[]) ok) ?_ e';unfold MA;rw[Ea,List.pairwise_iff_getElem];intro i j hi hj hij;simp only[Ab,A6] at hi hj;simp only[BQ,Dz];have h1:=srt i j hij (by omega);have k1:KS.K p i=p[i]:=by show p.getD i 0=_;simp[Array.getD,hi]
   have k2:KS.K p j=p[j]:=by show p.getD j 0=_;simp[Array.getD,hj]
   rw[k1,k2] at h1;exact(hlt _ _).symm.trans h1
def TopAt(H:Hp)(r:Addr)(ws qs:List (Addr×List WP)):Prop:=H r=some (.lst (qs.map λx=>V.ref x.1))∧(∀x∈qs,x∈ws)∧IsTop (ws.map (·.2)) (qs.map (·.2))∧qs.length≤ws.length
def Tb:Sp:=λvs H Q _=>∃(a:Addr)(w:List WP)(f:Str),vs=[.ref a,.str f]∧WishAt H a w∧WOk w∧∀v H',Same H H'→(match Jt w f with | none=>v= .non | some p=>∃t,v= .ref t∧H' t=some (.tup [eV p.1,eV p.2]))→Q v H'
def S_:Sp:=λvs H Q _=>∃(a b:Addr)(w w':List WP),vs=[.ref a,.ref b]∧WishAt H a w∧WishAt H b w'∧WOk w∧WOk w'∧∀H',Same H H'→Q (.bl (II w w')) H'
def TM(K:Ad):Sp:=λvs H Q _=>∃(a:Addr)(w:List WP),vs=[.ref a]∧WishAt H a w∧WOk w∧∀v H',Same H H'→Rep K H' (L1 w) v→Q v H'
theorem YJ{K:Ad}{H1 H':Hp}{g:Addr}(h:SqL K H a xs)(nb:H b=none)(ng:H g=none)(s1:Same H H1)(s:SameB b g H1 H'):SqL K H' a xs:=by
 have ne:∀o,H a=some o→a≠b∧a≠g:=λo e=>⟨λz=>(by rw[z,nb] at e;cases e),λz=>(by rw[z,ng] at e;cases e)⟩;rcases h with(h | ⟨o,h⟩) | h
 · exact .inl (.inl (s _ _ (s1 _ _ h) (ne _ h).1 (ne _ h).2))
 · exact .inl (.inr ⟨o,s _ _ (s1 _ _ h) (ne _ h).1 (ne _ h).2⟩)
 · exact .inr h
theorem WsAt.upd{l f:Addr}{ws:List (Addr×List WP)}{ys:List V}(h:WsAt H l ws)(n:l≠f)(e:H f=some (.lst xs)):WsAt (upd H f (.lst ys)) l ws:=
 ⟨by rw[Iy n];exact h.at',λx hx=>⟨(h.ok x hx).1.keep (OT e),(h.ok x hx).2⟩,h.len⟩
theorem VP:∀ts:List Int,RepYs H (ts.map DY.int) (ts.map V.int)
 | []=>RepYs.nil
 | t::ts=>RepYs.cons (by rw[RepY]) (VP ts)
def JX(c:Str×Int×List (Addr×List WP)):DY:= .tup [.str c.1,.int c.2.1,.lst ((c.2.2.map (·.2)).map KP)]
theorem Ye{W:List Int}{x:Stand}(h:StAt H W x):RepY H (JX (IX x)) (.ref x.a):=by refine M2 h.at' (RepYs.cons ?_ (RepYs.cons (by rw[RepY];rfl) (RepYs.cons h.ws.repY RepYs.nil))) (by simp);rw[RepY];exact⟨rfl,A4 h.name.eight (by decide)⟩
theorem UY{W:List Int}:∀xs:List Stand,(∀x∈xs,StAt H W x)→RepYs H ((xs.map IX).map JX) (xs.map λx=>V.ref x.a)
 | [],_=>RepYs.nil
 | x::xs,h=>RepYs.cons (Ye (h x Ai)) (UY xs λy hy=>h y (Ag _ hy))
def Kw(W:List Int)(cs:List (Str×Int×List (Addr×List WP))):DY:= .tup [.lst (W.map DY.int),.lst (cs.map JX)]
theorem OF{t l:Addr}{W:List Int}{xs:List Stand}(ht:H t=some (.tup [.ref a,.ref l]))(ha:WebAt H a W)(hl:StsAt H W l xs):RepY H (Kw W (xs.map IX)) (.ref t):=by
 refine M2 ht (RepYs.cons (Qc ha.1 (VP W) ?_) (RepYs.cons (Qc hl.at' (UY xs hl.ok) ?_) RepYs.nil)) (by simp)
 · have:=ha.2.1;rw[Ab];omega
 · have:=hl.len;rw[Ab];omega
theorem YX(c:Str×Int×List (Addr×List WP)):Jf (JX c)≤4:=by
 unfold JX;rw[Jf];have:=zi2 (c.2.2.map (·.2));have:Kd [.str c.1,.int c.2.1,.lst ((c.2.2.map (·.2)).map KP)]≤3:=LA λd hd=>by
  simp only[An,AK,or_false] at hd;rcases hd with rfl | rfl | rfl
  · rw[Jf]<;>first | omega | simp
  · rw[Jf]<;>first | omega | simp
  · exact this
 omega
theorem Uv(W:List Int)(cs:List (Str×Int×List (Addr×List WP))):Jf (Kw W cs)≤6:=by
 unfold Kw;rw[Jf];have h1:Kd (W.map DY.int)≤1:=LA λd hd=>by obtain⟨t,_,rfl⟩:=Az.mp hd;rw[Jf]<;>first | omega | simp
 have h2:Kd (cs.map JX)≤4:=LA λd hd=>by obtain⟨t,_,rfl⟩:=Az.mp hd;exact YX t
 have:Kd [.lst (W.map DY.int),.lst (cs.map JX)]≤5:=LA λd hd=>by
  simp only[An,AK,or_false] at hd;rcases hd with rfl | rfl
  · rw[Jf];omega
  · rw[Jf];omega
 omega
def JE(f:Int→Bool)(xs:List Stand):List (Addr×List WP):=(xs.filter λx=>f x.post).flatMap (·.ws)
theorem zix{f:Int→Bool}{xs:List Stand}{x:Stand}(e:xs[i]?=some x):JE f (xs.take (i+1))=JE f (xs.take i)++(if f x.post=true then x.ws else []):=by
 unfold JE;rw[Dq,e,AV,E7];congr 1;show(([x]:List Stand).filter _).flatMap _=_;by_cases h:f x.post=true
 · rw[if_pos h,CB (by exact h)];simp
 · rw[if_neg h,CC (by exact h)];rfl
theorem Q3:∀xs:List Stand,(∀x∈xs,x.ws.length≤10)→(xs.flatMap (·.ws)).length≤10*xs.length
 | [],_=>by simp
 | x::xs,h=>by rw[EY,Aw,AB];have h1:=h x Ai;have h2:=Q3 xs λq hq=>h q (Ag _ hq);omega
theorem Vz{f:Int→Bool}{xs:List Stand}(h:∀x∈xs,x.ws.length≤10):(JE f xs).length≤10*xs.length:=by unfold JE;have h1:=Q3 (xs.filter λx=>f x.post) λx hx=>h x (Av.mp hx).1;have h2:=AC (λx:Stand=>f x.post) xs;omega
theorem V0{f:Int→Bool}{xs:List Stand}{y:Addr×List WP}(h:y∈JE f xs):∃x∈xs,y∈x.ws:=by unfold JE at h;obtain⟨x,hx,hy⟩:=Cw.mp h;exact⟨x,(Av.mp hx).1,hy⟩
theorem Ql{f g:Int→Bool}{xs ys:List Stand}(h:ys.map IX=xs.map IX)(hf:∀x∈xs,f x.post=g x.post):JE f ys=JE g xs:=by
 induction xs generalizing ys with
 | nil=>cases ys with
  | nil=>rfl
  | cons y ys=>cases h
 | cons x xs ih=>
  cases ys with
  | nil=>cases h
  | cons y ys=>
   rw[Ax,Ax,DA] at h;have e1:y.post=x.post:=congrArg (λc=>c.2.1) h.1;have e2:y.ws=x.ws:=congrArg (λc=>c.2.2) h.1;have e3:=hf x Ai;have:=ih h.2 λz hz=>hf z (Ag _ hz);unfold JE at this ⊢;rw[←e1] at e3;by_cases c:f y.post=true
   · rw[CB (by exact c),CB (by rw[←e1,←e3];exact c),EY,EY,e2,this]
   · rw[CC (by exact c),CC (by rw[←e1,←e3];exact c),this]
theorem WsAt.wants{W:List Int}{l r:Addr}{xs:List Stand}{f:Int→Bool}(h:StsAt H W l xs)(e:H r=some (.lst ((JE f xs).map λx=>V.ref x.1))):WsAt H r (JE f xs):=
 ⟨e,λy hy=>by
  obtain⟨x,hx,hy'⟩:=V0 hy;exact(h.ok x hx).ws.ok y hy',by
  have:=Vz (f:=f) λx hx=>(h.ok x hx).few;have:=h.len;omega⟩
theorem Zh{K:Ad}{p:Addr}{Q:VK}{js:I_}{wi1:TI}{te:TE}{W:List Int}(qs:List Stand)(hq:SqL K H a (qs.map λq=>V.ref q.l))(hp:H p=none)(hσ:J6 js σ=[none,none])
 (hn:qs.length≤30) (hw:∀q∈qs,StAt H W q)
 (hi:∀q∈qs,∀(y:Option V)(H':Hp)(R:It→Hp→Prop),(∃xs,SqL K H' q.l xs)→R (KC K q.l) H'→wi1 [some (.ref q.l),y] H' R)
 (he:∀(u:Option V)(v:V)(H':Hp)(R:VK),R v H'→te [u,some v] H' R)
 (hQ:∀(H':Hp),Same H H'→H' p=some (.lst ((qs.flatMap (·.ws)).map λz=>V.ref z.1))→Q (.ref p) H'):
 PN (KC K a) p js (Kx 0) LD wi1 (Kx 1) LD te σ H Q:=by
 have s0:=Iq hp (.lst []);have lq:(qs.map λq=>V.ref q.l).length=qs.length:=Ab _;refine⟨λi m σ' ys H'=>m=qs.length - i∧i≤qs.length∧(∃y0 y1,σ'=[y0,y1])∧Same H H'∧H' p=some (.lst ys)∧ys=((qs.take i).flatMap (·.ws)).map (λz=>V.ref z.1),⟨qs.length,by simp,AI _,⟨none,none,hσ⟩,s0,Ij,rfl⟩,?_⟩;rintro i m σ' ys H1 ⟨rfl,hi1,⟨y0,y1,rfl⟩,s1,e1,rfl⟩;refine⟨e1,?_⟩;by_cases hlt:i<qs.length
 · right
   have eq:qs[i]?=some qs[i]:=by simp
   have hx:(qs.map λq=>V.ref q.l)[i]?=some (V.ref qs[i].l):=by rw[Aj,eq];rfl
   have hm:=Ak eq;generalize qs[i]=q at*;refine⟨⟨_,_,s1.seq hq,hx⟩,?_⟩;rintro x H2 ⟨rfl,hx2⟩;have:some (V.ref q.l)=some x:=hx.symm.trans (hx2 _ (s1.seq hq));cases this;refine Uz ?_;have sq:=(hw q hm).ws.at';refine hi q hm y1 H2 _ ⟨_,SqL.of (s1 _ _ sq)⟩ ?_;refine⟨λj m1 σ3 zs' H5=>m1=q.ws.length - j∧j≤q.ws.length∧(∃y1,σ3=[some (.ref q.l),y1])∧Same H H5∧H5 p=some (.lst zs')∧zs'=((qs.take i).flatMap (·.ws)++q.ws.take j).map (λz=>V.ref z.1),⟨q.ws.length,by simp,AI _,⟨_,rfl⟩,s1,e1,by simp⟩,?_⟩;rintro j m1 σ3 zs' H5 ⟨rfl,hj,⟨y1',rfl⟩,s5,e5,rfl⟩;refine⟨e5,?_⟩;have b5:=s5 _ _ sq;by_cases hjl:j<q.ws.length
   · right
     have er:q.ws[j]?=some q.ws[j]:=by simp
     have hy:(q.ws.map λx=>V.ref x.1)[j]?=some (V.ref q.ws[j].1):=by rw[Aj,er];rfl
     refine⟨⟨_,_,SqL.of b5,hy⟩,?_,?_⟩
     · have h1:=Q3 (qs.take i) λx hx=>(hw x (Da hx)).few;have h2:=(hw q hm).few;rw[AA] at h1;rw[Ab,Aw,AA];exact Je (by omega)
     rintro x H6 ⟨rfl,hx6⟩;have:some (V.ref q.ws[j].1)=some x:=hy.symm.trans (hx6 _ (SqL.of b5));cases this;refine Uz ?_;refine he _ _ _ _ ⟨e5,q.ws.length - (j+1),by omega,rfl,hjl,⟨_,rfl⟩,J7 s5 hp,Ij,?_⟩;rw[JI er,←BI,Ao (l₂:=[q.ws[j]])];rfl
   · left
     have e:j=q.ws.length:=by omega
     subst e;refine⟨⟨_,SqL.of b5,by rw[Ab];exact Af _⟩,qs.length - (i+1),by omega,rfl,hlt,⟨_,_,rfl⟩,s5,e5,?_⟩;rw[AS,JI eq,E7];simp
 · left
   have e:i=qs.length:=by omega
   subst e;refine⟨⟨_,s1.seq hq,by rw[lq];exact Af _⟩,hQ H1 s1 ?_⟩;rw[e1,AS]
def U8:Sp:=λvs H Q _=>∃(a l:Addr)(W:List Int)(xs:List Stand)(p q:Int),vs=[.ref a,.ref l,.int p,.int q]∧WebAt H a W∧StsAt H W l xs∧WB.Post W p∧WB.Post W q∧
 ∀(r:Addr)(H':Hp),Same H H'→H r=none→WsAt H' r (JE (λx=>WB.has (WB.wayB W x p) q) xs)→Q (.ref r) H'
def Vb:Sp:=λvs H Q _=>∃(a:Addr)(W:List Int)(p q:Int),vs=[.ref a,.int p,.int q]∧WebAt H a W∧WB.Post W p∧WB.Post W q∧q∈WB.roads W p∧
 ∀(r:Addr)(F:List Int)(H':Hp),Same H H'→H r=none→H' r=some (.lst (F.map V.int))→(∀x,x∈F↔x∈WB.sideL W p q)→F.length≤24→Q (.ref r) H'
def V5:Sp:=λvs H Q _=>∃(l c:Addr)(W:List Int)(xs:List Stand)(F:List Int),vs=[.ref l,.ref c]∧StsAt H W l xs∧H c=some (.lst (F.map V.int))∧
 ∀(r:Addr)(H':Hp),Same H H'→H r=none→WsAt H' r (JE (WB.has F) xs)→Q (.ref r) H'
theorem UR{W F:List Int}{p q x:Int}(h:∀x,x∈F↔x∈WB.sideL W p q)(hx:WB.Post W x):WB.has (WB.wayB W x p) q=WB.has F x:=by rw[Bi,WB.has_iff,WB.has_iff,h,WB.side_mem];exact⟨λz=>⟨hx,z⟩,λz=>z.2⟩
def R_(ws:List (Addr×List WP)):Prop:=∃pool:List (List WP),pool.length≤63∧∀x∈ws,x.2∈pool
theorem T_{α:Type}:∀(l m:List α),l.Nodup→(∀x∈l,x∈m)→l.length≤m.length
 | [],m,_,_=>AI _
 | x::l,m,nd,h=>by
  obtain⟨a,b,e⟩:=EI (h x Ai);have nd:=Bv.mp nd;have:=T_ l (a++b) nd.2 λy hy=>by
   have:=h y (Ag _ hy);rw[e] at this;rcases A9.mp this with z | z
   · exact AH _ z
   · rcases An.mp z with rfl | z
     · exact absurd hy nd.1
     · exact Ah _ z
  rw[e,Aw,AB,AB];rw[Aw] at this;omega
theorem TopAt.few{r:Addr}{ws qs:List (Addr×List WP)}(h:TopAt H r ws qs)(f:R_ ws):qs.length≤63:=by
 obtain⟨pool,h1,h2⟩:=f;have:=T_ (qs.map (·.2)) pool h.2.2.1.nd λw hw=>by obtain⟨x,hx,rfl⟩:=Az.mp hw;exact h2 x (h.2.1 x hx)
 rw[Ab] at this;omega
def Tf:Sp:=λvs H Q _=>∃(l:Addr)(ws:List (Addr×List WP)),vs=[.ref l]∧WsAt H l ws∧R_ ws∧∀(r:Addr)(qs:List (Addr×List WP))(H':Hp),Same H H'→H r=none→TopAt H' r ws qs→MA (qs.map (·.2))→Q (.ref r) H'
def FewS(xs:List Stand):Prop:=∃pool:List (List WP),pool.length≤63∧∀x∈xs,∀y∈x.ws,y.2∈pool
theorem FewS.wants{f:Int→Bool}{xs:List Stand}(h:FewS xs):R_ (JE f xs):=by obtain⟨pool,h1,h2⟩:=h;exact⟨pool,h1,λy hy=>by obtain⟨x,hx,hy⟩:=V0 hy;exact h2 x hx y hy⟩
structure Bfs(W:List Int)(p q:Int)(fs:List Int):Prop where
 nd:fs.Nodup
 inS:∀x∈fs,x∈WB.sideL W p q
 has:q∈fs
theorem Bfs.len{W:List Int}(w:WB.Web W){p q:Int}{fs:List Int}(h:Bfs W p q fs):fs.length≤24:=by
 have:=WB.nodup_len (W.length+1) fs h.nd λx hx=>by obtain⟨⟨h1,h2⟩,_⟩:=WB.side_mem.mp (h.inS x hx);exact⟨h1,by omega⟩
 have:=w.1;omega
theorem Bfs.put{W:List Int}{p q y:Int}{fs:List Int}(h:Bfs W p q fs)(hn:y ∉ fs)(hy:y∈WB.sideL W p q):Bfs W p q (fs++[y]):=
 ⟨by
  rw[BJ];refine⟨h.nd,by simp,λa ha b hb e=>?_⟩;rw[Am.mp hb] at e;exact hn (e ▸ ha),λx hx=>by
  rcases A9.mp hx with z | z
  · exact h.inS x z
  · rw[Am.mp z];exact hy,AH _ h.has⟩
theorem Bfs.done{W:List Int}(w:WB.Web W){p q:Int}(hp:WB.Post W p)(hq:WB.Post W q)(ha:WB.Adj W p q){fs:List Int}(h:Bfs W p q fs)(hc:∀x∈fs,∀y∈WB.roads W x,y=p∨y∈fs):∀x,x∈fs↔x∈WB.sideL W p q:=
 λx=>⟨h.inS x,WB.side_all w hp hq ha h.has hc x⟩
theorem Y0{f g:Str}(h1:JP f g)(h2:JP g f):False:=Ds _ (List.lt_trans h1 h2)
theorem TY{w:List WP}{f:Str}{s:Option Int×Option Int}(h:Jt w f=some s):(f,s.1,s.2)∈w:=by
 unfold Jt at h;cases e:w.find? (λp=>decide (p.1=f)) with
 | none=>rw[e] at h;cases h
 | some p=> rw[e] at h;have h1:=DC e;have h2:=Db e;have e1:p.1=f:=of_decide_eq_true h1;obtain⟨pf,pl,ph⟩:=p;cases h;cases e1;exact h2
theorem ZG{w:List WP}(ok:WOk w){p:WP}(h:p∈w):Jt w p.1=some p.2:=by
 unfold Jt;cases e:w.find? (λq=>decide (q.1=p.1)) with
 | none=> have:=Cz.mp e p h;simp at this
 | some q=>
  have h1:q.1=p.1:=of_decide_eq_true (DC (p:=λq:WP=>decide (q.1=p.1)) e);have h2:=Db e;have:q=p:=by
   obtain⟨i,hi⟩:=CP.mp h;obtain⟨j,hj⟩:=CP.mp h2;obtain⟨li,ei⟩:=Al.mp hi;obtain⟨lj,ej⟩:=Al.mp hj;have pw:=Bs.mp ok.asc;rcases D_ i j with z | z | z
   · have:=pw i j (by simpa using li) (by simpa using lj) z;simp only[BQ,ei,ej] at this;rw[h1] at this;exact absurd this (Ds _)
   · subst z;rw[ei] at ej;exact ej.symm
   · have:=pw j i (by simpa using lj) (by simpa using li) z;simp only[BQ,ei,ej] at this;rw[h1] at this;exact absurd this (Ds _)
  rw[this];rfl
theorem UX{a b:List WP}:II a b=true↔∀p∈a,∃s,Jt b p.1=some s∧JT p.2.1 p.2.2 s.1 s.2=true:=by
 unfold II;rw[List.all_eq_true];refine forall_congr' λp=>forall_congr' λhp=>?_;unfold L9;cases Jt b p.1 with
 | none=>simp
 | some s=>simp
theorem zgr{a1 a2 b1 b2 c1 c2:Option Int}(h:JT a1 a2 b1 b2=true)(h':JT b1 b2 c1 c2=true):JT a1 a2 c1 c2=true:=by
 unfold JT at*;rw[AM] at*;constructor
 · cases a1<;>cases b1<;>cases c1<;>simp[KR] at* <;>omega
 · cases a2<;>cases b2<;>cases c2<;>simp[LZ] at* <;>omega
theorem zg6{a1 a2 b1 b2:Option Int}(h:JT a1 a2 b1 b2=true)(h':JT b1 b2 a1 a2=true):a1=b1∧a2=b2:=by
 unfold JT at*;rw[AM] at*;constructor
 · cases a1<;>cases b1<;>simp[KR] at* <;>omega
 · cases a2<;>cases b2<;>simp[LZ] at* <;>omega
theorem zgq{a b c:List WP}(h:II a b=true)(h':II b c=true):II a c=true:=by rw[UX] at*;intro p hp;obtain⟨s,e,r⟩:=h p hp;obtain⟨s',e',r'⟩:=h' _ (TY e);exact⟨s',e',zgr r r'⟩
theorem zg5{a b:List WP}(oa:WOk a)(ob:WOk b)(h:II a b=true)(h':II b a=true):a=b:=by
 have sub:∀{a b:List WP},WOk a→II a b=true→II b a=true→∀p∈a,p∈b:=λ{a b}oa h h' p hp=>by rw[UX] at*;obtain⟨s,e,r⟩:=h p hp;have m:=TY e;obtain⟨s',e',r'⟩:=h' _ m;rw[show(p.1,s.1,s.2).1=p.1 from rfl,ZG oa hp] at e';cases e';obtain⟨z1,z2⟩:=zg6 r r';obtain⟨pf,pl,ph⟩:=p;dsimp only at*;rw[z1,z2];exact m
 have nd:∀{a:List WP},WOk a→a.Nodup:=λ{a}oa=>by have:=oa.asc;rw[Ea] at this;exact this.imp λ{x y}h e=>by rw[e] at h;exact Ds _ h
 have pm:a.Perm b:=(Ct (nd oa) (nd ob)).mpr λp=>⟨sub oa h h' p,sub ob h' h p⟩;have pa:=oa.asc;have pb:=ob.asc;rw[Ea] at pa pb;exact List.Perm.eq_of_pairwise (λx y _ _ h1 h2=>(Y0 h1 h2).elim) pa pb pm
def Kj(O:List (List WP))(v:List WP):Bool:=!(O.any λk=>II k v && !decide (k=v))
theorem isTopV_iff{O:List (List WP)}{v:List WP}:Kj O v=true↔∀o∈O,II o v=true→o=v:=by
 unfold Kj;rw[BA,DS];constructor
 · intro h o ho r;have:=h o ho;rw[r] at this;simpa using this
 · intro h o ho;cases r:II o v with
   | false=>simp
   | true=>simpa using h o ho r
def Mh:List (List WP)→List (List WP)
 | []=>[]
 | x::l=>if x∈l then Mh l else x::Mh l
theorem MP{v:List WP}:∀{O:List (List WP)},v∈Mh O↔v∈O
 | []=>Iff.rfl
 | x::l=>by
  unfold Mh;by_cases h:x∈l
  · rw[if_pos h,MP,An];exact⟨.inr,λz=>z.elim (λe=>e ▸ h) id⟩
  · rw[if_neg h,An,An,MP]
theorem NE:∀O:List (List WP),(Mh O).Nodup
 | []=>EC
 | x::l=>by
  unfold Mh;by_cases h:x∈l
  · rw[if_pos h];exact NE l
  · rw[if_neg h,Bv,MP];exact⟨h,NE l⟩
def JK(O:List (List WP))(w:List WP):Nat:=((Mh O).filter λv=>II w v && Kj O v).length
theorem P7{O L:List (List WP)}{w:List WP}(nd:L.Nodup)(h:∀v,v∈L↔v∈O∧II w v=true∧∀o∈O,II o v=true→o=v):L.length=JK O w:=by refine Go ((Ct nd ((NE O).filter _)).mpr λv=>?_);rw[h,Av,MP,AM,isTopV_iff]
theorem Xt{O O':List (List WP)}{w:List WP}(h:∀v,v∈O↔v∈O'):JK O w=JK O' w:=by refine P7 ((NE O).filter _) λv=>?_;rw[Av,MP,AM,isTopV_iff,h];refine and_congr_right λ_=>and_congr_right λ_=>forall_congr' λo=>?_;rw[h]
def Jv(O:List (List WP))(w:List WP):Bool:=!(O.any λk=>decide (k=w)) && !(O.any λk=>II k w && !decide (k=w))
theorem due_iff{O:List (List WP)}{w:List WP}:Jv O w=true↔w ∉ O∧∀o∈O,II o w=true→o=w:=by
 unfold Jv;rw[AM];refine and_congr ?_ isTopV_iff;rw[BA,DS];constructor
 · intro h hw;have:=h w hw;simp at this
 · intro h k hk;simpa using λe:k=w=>h (e ▸ hk)
theorem Xw{O O':List (List WP)}{w:List WP}(h:∀v,v∈O↔v∈O'):Jv O w=Jv O' w:=by rw[Bi,due_iff,due_iff,h];refine and_congr_right λ_=>forall_congr' λo=>?_;rw[h]
def Ju(old new:List (List WP)):Nat:=(new.filter λv=>!(old.any λk=>decide (k=v))).length
theorem any_mem{l:List (List WP)}{v:List WP}:(l.any λk=>decide (k=v))=true↔v∈l:=by rw[Cf];exact⟨λ⟨k,hk,e⟩=>of_decide_eq_true e ▸ hk,λh=>⟨v,h,decide_eq_true rfl⟩⟩
theorem OM{old new:List (List WP)}(h:∀v,v∈new→v∈old):Ju old new=0:=by unfold Ju;rw[List.length_eq_zero_iff,FK];intro v hv;rw[any_mem.mpr (h v hv)];simp
theorem OS{O O' old new:List (List WP)}(h:∀v,v∈O↔v∈O')(t:IsTop O old)(t':IsTop O' new):∀v,v∈old↔v∈new:=λv=>by rw[t.mem,t'.mem,h];refine and_congr_right λ_=>forall_congr' λo=>?_;rw[h]
theorem YN{O O' old new:List (List WP)}{w:List WP}(ok:∀v∈O',WOk v)(h:∀v,v∈O'↔v∈O∨v=w)(t:IsTop O old)(t':IsTop O' new):
 Ju old new=(if Jv O w=true then 1 else 0)∧Ju new old=(if Jv O w=true then JK O w else 0):=by
 have okO:∀v∈O,WOk v:=λv hv=>ok v ((h v).mpr (.inl hv));have okw:WOk w:=ok w ((h w).mpr (.inr rfl));by_cases d:Jv O w=true
 · rw[if_pos d,if_pos d];obtain⟨d1,d2⟩:=due_iff.mp d;have wn:w∈new:=(t'.mem w).mpr ⟨(h w).mpr (.inr rfl),λo ho r=>((h o).mp ho).elim (λz=>d2 o z r) id⟩;have wo:w ∉ old:=λz=>d1 ((t.mem w).mp z).1;have key:∀v∈old,(v∈new↔¬II w v=true):=λv hv=>by
    obtain⟨v1,v2⟩:=(t.mem v).mp hv;have vw:w≠v:=λe=>d1 (e ▸ v1);rw[t'.mem];exact⟨λz r=>vw (z.2 w ((h w).mpr (.inr rfl)) r),λz=>⟨(h v).mpr (.inl v1),λo ho r=>((h o).mp ho).elim (λy=>v2 o y r) λe=>absurd (e ▸ r) z⟩⟩
   constructor
   · unfold Ju;have:(new.filter λv=>!(old.any λk=>decide (k=v))).Perm [w]:=(Ct (t'.nd.filter _) (by simp)).mpr λv=>by
      rw[Av,Am,BA,←Cv,any_mem];constructor
      · rintro⟨a1,a2⟩;obtain⟨b1,b2⟩:=(t'.mem v).mp a1;rcases(h v).mp b1 with z | z
        · exact absurd ((t.mem v).mpr ⟨z,λo ho r=>b2 o ((h o).mpr (.inl ho)) r⟩) a2
        · exact z
      · rintro rfl;exact⟨wn,wo⟩
     exact this.length_eq
   · unfold Ju;refine P7 (t.nd.filter _) λv=>?_;rw[Av,BA,←Cv,any_mem];constructor
     · rintro⟨a1,a2⟩;obtain⟨b1,b2⟩:=(t.mem v).mp a1;refine⟨b1,?_,b2⟩;cases r:II w v with
       | true=>rfl
       | false=>exact absurd ((key v a1).mpr (by rw[r];decide)) a2
     · rintro⟨a1,a2,a3⟩;have:=(t.mem v).mpr ⟨a1,a3⟩;exact⟨this,λz=>(key v this).mp z a2⟩
 · rw[if_neg d,if_neg d];have same:∀v,v∈old↔v∈new:=by
    by_cases hw:w∈O
    · exact OS (λv=>by rw[h];exact⟨.inl,λz=>z.elim id λe=>e ▸ hw⟩) t t'
    · have:∃o∈O,II o w=true∧o≠w:=by
       by_cases c:∃o∈O,II o w=true∧o≠w
       · exact c
       · exact absurd (due_iff.mpr ⟨hw,λo ho r=>Decidable.byContradiction λe=>c ⟨o,ho,r,e⟩⟩) d
      obtain⟨x,hx,rx,nx⟩:=this;intro v;rw[t.mem,t'.mem];constructor
      · rintro⟨a1,a2⟩;refine⟨(h v).mpr (.inl a1),λo ho r=>?_⟩;rcases(h o).mp ho with z | z
        · exact a2 o z r
        · subst z;have e1:x=v:=a2 x hx (zgq rx r);rw[e1] at rx;exact zg5 okw (okO v a1) r rx
      · rintro⟨a1,a2⟩;rcases(h v).mp a1 with z | z
        · exact⟨z,λo ho r=>a2 o ((h o).mpr (.inl ho)) r⟩
        · subst z;exact absurd (a2 x ((h x).mpr (.inl hx)) rx) nx
   exact⟨OM λv hv=>(same v).mpr hv,OM λv hv=>(same v).mp hv⟩
theorem Y7{l m:List Nat}(h:l.Perm m):l.sum=m.sum:=by
 induction h with
 | nil=>rfl
 | cons x _ ih=>rw[CU,CU,ih]
 | swap x y l=>rw[CU,CU,CU,CU];omega
 | trans _ _ ih1 ih2=>rw[ih1,ih2]
theorem VU{α:Type}(P:α→Bool)(g s:α→Nat):∀l:List α,(∀x∈l,P x=true→g x=s x)→(∀x∈l,P x=false→g x=0)→(l.map g).sum=((l.filter P).map s).sum
 | [],_,_=>rfl
 | x::l,h1,h0=>by
  have ih:=VU P g s l (λy hy=>h1 y (Ag _ hy)) λy hy=>h0 y (Ag _ hy);rw[Ax,CU,ih];cases c:P x with
  | true=>rw[CB c,Ax,CU,h1 x Ai c]
  | false=>rw[CC (by rw[c];decide),h0 x Ai c,DL]
def Jj(W:List Int)(x c:Int):Int:=(WB.wayB W x c).getD 1 0
theorem O7{W:List Int}(w:WB.Web W){x c:Int}(hx:WB.Post W x)(hc:WB.Post W c)(n:x≠c):WB.Post W (Jj W x c)∧WB.Adj W x (Jj W x c)∧(WB.wayB W x c).take 2=[x,Jj W x c]∧(WB.wayB W x c)[1]?=some (Jj W x c):=by
 obtain⟨t,e⟩:=WB.way_first w hx hc;have hp:=WB.way_path w hx hc;cases t with
 | nil=> rw[e] at hp;have:=hp.last;simp at this;exact absurd this n
 | cons y t=>
  have ey:Jj W x c=y:=by unfold Jj;rw[e];rfl
  rw[ey];refine⟨?_,?_,by rw[e];rfl,by rw[e];rfl⟩
  · exact hp.posts y (by rw[e];simp)
  · have:=hp.adj;rw[e] at this;exact this.1
theorem US{W:List Int}(w:WB.Web W){p q c:Int}(hp:WB.Post W p)(hq:WB.Post W q)(hc:WB.Post W c)(ha:WB.Adj W q p):c∈WB.sideL W q p↔q≠c∧Jj W q c=p:=by
 rw[WB.side_mem,WB.step_iff w hq hc hp ha];constructor
 · rintro⟨_,h1,h2⟩;refine⟨h1,?_⟩;have:=(O7 w hq hc h1).2.2.1;rw[h2] at this;simpa using this.symm
 · rintro⟨h1,h2⟩;exact⟨hc,h1,by rw[(O7 w hq hc h1).2.2.1,h2]⟩
def JB(W:List Int):List (Int×Int):=(AJ W.length).flatMap λi=>[(W.getD i 0,(i:Int)+1),((i:Int)+1,W.getD i 0)]
theorem OB{W:List Int}(w:WB.Web W)(h:i<W.length):0≤W.getD i 0∧W.getD i 0≤(i:Int):=by have:=w.2 i (W.getD i 0) (by rw[A2,Au h];rfl);exact this
theorem PY{W:List Int}(w:WB.Web W){e:Int×Int}(h:e∈JB W):WB.Post W e.1∧WB.Post W e.2∧WB.Adj W e.2 e.1∧e.1∈WB.roads W e.2∧e.2∈WB.roads W e.1:=by
 obtain⟨i,hi,he⟩:=Cw.mp h;have hi:=AQ.mp hi;have lo:=OB w hi;have pu:WB.Post W (W.getD i 0):=⟨lo.1,by omega⟩;have pv:WB.Post W ((i:Int)+1):=⟨by omega,by omega⟩;have ep:WB.par W ((i:Int)+1)=W.getD i 0:=by unfold WB.par;rw[show((i:Int)+1 - 1).toNat=i by omega]
 have ad:WB.Adj W ((i:Int)+1) (W.getD i 0):=by rw[←ep];exact WB.adj_par w pv (by omega)
 rcases An.mp he with rfl | he
 · exact⟨pu,pv,ad,WB.adj_roads w pv pu ad,WB.adj_roads w pu pv ad.symm⟩
 · rw[Am.mp he];exact⟨pv,pu,ad.symm,WB.adj_roads w pu pv ad.symm,WB.adj_roads w pv pu ad⟩
theorem Y_{W:List Int}(w:WB.Web W){x y:Int}(hx:WB.Post W x)(hy:WB.Post W y)(ha:WB.Adj W x y):(y,x)∈JB W:=by
 have at':∀{z:Int},WB.Post W z→0<z→∃i:Nat,i<W.length∧z=(i:Int)+1∧WB.par W z=W.getD i 0:=λ{z}hz h0=>by have:=hz.2;exact⟨(z - 1).toNat,by omega,by omega,rfl⟩
 rcases WB.adj_cases w hx hy ha with⟨e,h0⟩ | ⟨e,h0⟩
 · obtain⟨i,hi,e1,e2⟩:=at' hx h0;refine Cw.mpr ⟨i,AQ.mpr hi,?_⟩;rw[e,e2,e1];simp
 · obtain⟨i,hi,e1,e2⟩:=at' hy h0;refine Cw.mpr ⟨i,AQ.mpr hi,?_⟩;rw[e,e2,e1];simp
theorem zhB{W:List Int}(w:WB.Web W):(JB W).Nodup:=by
 unfold JB AT;rw[List.pairwise_flatMap];constructor
 · intro i hi;have lo:=OB w (AQ.mp hi);refine Dj.mpr ⟨λe he=>?_,by simp⟩;rw[Am.mp he];intro z;have:=congrArg Prod.fst z;dsimp only at this;omega
 · refine Fp ?_ (Ef (n:=W.length));intro i j hi hj hij x hx y hy e;have li:=OB w (AQ.mp hi);have lj:=OB w (AQ.mp hj);subst e;simp only[An,AK,or_false] at hx hy;rcases hx with rfl | rfl<;>rcases hy with e | e<;>have e1:=congrArg Prod.fst e<;>have e2:=congrArg Prod.snd e<;>dsimp only at e1 e2<;>omega
def J8(W:List Int):List Int:=(AJ (W.length+1)).map λ(i:Nat)=>(i:Int)
theorem ZN{W:List Int}{x:Int}:x∈J8 W↔WB.Post W x:=by
 unfold J8;rw[Az];constructor
 · rintro⟨i,hi,rfl⟩;have:=AQ.mp hi;exact⟨by omega,by omega⟩
 · rintro⟨h1,h2⟩;exact⟨x.toNat,AQ.mpr (by omega),by omega⟩
theorem zg7(W:List Int):(J8 W).Nodup:=WB.rise_nodup (WB.cast_range_rise _)
theorem U6{W:List Int}(w:WB.Web W){c:Int}(hc:WB.Post W c)(g s:Int→Int→Nat)(h1:∀e∈JB W,c∈WB.sideL W e.2 e.1→g e.1 e.2=s e.2 e.1)(h0:∀e∈JB W,c ∉ WB.sideL W e.2 e.1→g e.1 e.2=0):
 ((JB W).map λe=>g e.1 e.2).sum=(((J8 W).filter λx=>decide (x≠c)).map λx=>s x (Jj W x c)).sum:=by
 rw[VU (λe:Int×Int=>decide (c∈WB.sideL W e.2 e.1)) (λe=>g e.1 e.2) (λe=>s e.2 e.1) (JB W) (λe he p=>h1 e he (of_decide_eq_true p)) (λe he p=>h0 e he (of_decide_eq_false p))];have fe:∀e∈(JB W).filter (λe:Int×Int=>decide (c∈WB.sideL W e.2 e.1)),e∈JB W∧e.2≠c∧Jj W e.2 c=e.1:=λe he=>by obtain⟨a1,a2⟩:=Av.mp he;obtain⟨p1,p2,p3,_⟩:=PY w a1;exact⟨a1,(US w p1 p2 hc p3).mp (of_decide_eq_true a2)⟩
 have pm:(((JB W).filter λe:Int×Int=>decide (c∈WB.sideL W e.2 e.1)).map (·.2)).Perm ((J8 W).filter λx=>decide (x≠c)):=by
  refine(Ct ?_ ((zg7 W).filter _)).mpr λx=>?_
  · unfold AT;rw[Ea];refine Fp ?_ ((zhB w).filter (λe:Int×Int=>decide (c∈WB.sideL W e.2 e.1)));intro a b ha hb ne e;refine ne (Prod.ext ?_ e);rw[←(fe a ha).2.2,←(fe b hb).2.2,e]
  · rw[Az,Av,ZN,decide_eq_true_eq];constructor
    · rintro⟨e,he,rfl⟩;exact⟨(PY w (fe e he).1).2.1,(fe e he).2.1⟩
    · rintro⟨hx,nx⟩;obtain⟨n1,n2,_⟩:=O7 w hx hc nx;refine⟨(Jj W x c,x),Av.mpr ⟨Y_ w hx n1 n2,decide_eq_true ((US w n1 hx hc n2).mpr ⟨nx,rfl⟩)⟩,rfl⟩
 have e1:(((JB W).filter λe:Int×Int=>decide (c∈WB.sideL W e.2 e.1)).map λe=>s e.2 e.1)=((((JB W).filter λe:Int×Int=>decide (c∈WB.sideL W e.2 e.1)).map (·.2)).map λx=>s x (Jj W x c)):=by rw[BF];refine E6 λe he=>?_;show s e.2 e.1=s e.2 (Jj W e.2 c);rw[(fe e he).2.2]
 rw[e1];exact Y7 (pm.map _)
section
variable{tg iter kx vx:Expr}{ifs:List Expr}{wi:TI}{js:I_}{g:TG}{tc:TT}{tk tv:TE}{N':List Str}
theorem ZO{px:Pos}{spos:Pos}(hr:Ke X)(hN:X.N.Nodup)(hi':X.N[i]?=some x)(hx:MC X.env.scope x)(hc:X.calm=true)(ok:CapOk X N' js scope)(hi:PI X tg iter wi)
 (hg:∀cl C s₀ H₀ ex,PG (IP X N' scope cl C s₀ H₀ ex) tg g) (ht:∀cl C s₀ H₀ ex,IU (IP X N' scope cl C s₀ H₀ ex) ifs tc) (he:∀cl C s₀ H₀ ex,PE (IP X N' scope cl C s₀ H₀ ex) kx tk) (hv:∀cl C s₀ H₀ ex,PE (IP X N' scope cl C s₀ H₀ ex) vx tv)
 (hsw:swapsWith (.DictComp kx vx [⟨tg,iter,ifs,0⟩] scope pos) (some (.Name x px)) spos.line X.env=pure true:=by rfl)
 (hs:∀x,Bq iter X.env x=pure x:=by intro _;rfl) (hf:X.fn x=true∨X.env.scope.names.lookup x=some .local:=by first | exact .inl rfl | exact .inr rfl | assumption):
 PS X (.Assign [.Name x px] (.DictComp kx vx [⟨tg,iter,ifs,0⟩] scope pos) spos) (K8 (Rs wi js g tc tk tv) (Kx i)):=by
 intro pins s σ H D I h;obtain⟨cl,c1,c2,c3⟩:=MO (scope:=scope) I.ok.has ok.free;rw[exec_Assign_Name_used _ _ _ _ hsw];refine Aa (Bm (Aa ?_));show wpAny _ X.A (do let _ ←comprehension (.DictComp kx vx [⟨tg,iter,ifs,0⟩] scope pos) scope X.env _ newDict false (eval iter X.env) (some (assign (.Name x px) X.env))) _ _ s
 refine Aa (A0 (Cd (use:=some (assign (.Name x px) X.env)) (Q:=λ_ s'=>SP X pins D .next s') rfl hs c1 ok.kind ok.names
  (Il (hi pins s σ H _ I h) λv s1 h1=>Il h1 λitv s2 h2=>?_)) (λ_ s' hq=>Ac (Ac hq)) λ_ _ e=>e)
 obtain⟨it,fp,tn,J,H2,e,I2,T,st2,f2,hw⟩:=h2;subst e;refine A0 (Z2 (Q:=λx H1=>Kx i x σ H1 D.nx) (iter:=iter) (pos:=pos) hr hc ok c2 c3 hg ht he hv I2 T st2 f2 hw) (λacc s3 h3=>A0 h3 (λcenv s4 h4=>?_) λ_ _ z=>z) λ_ _ z=>z;refine BU h4 λr s5 h5=>?_;obtain⟨rfl,⟨m,hm⟩,v,H5,rv,I5,f5,q5⟩:=h5;obtain⟨f0,f1,f2',f3,f4,f6⟩:=f5;show wpAny _ X.A (assign (.Name x px) X.env acc) _ _ _;refine ER (Qy I5 hN hi' hx rv (λs6 I6 ch=>?_) hf);obtain⟨a,sb,ha⟩:=ch;have na:cenv.locals≠a:=by
  rcases ha with z | z
  · rw[z];exact f1
  · exact λy=>f4 x a z y.symm
 refine⟨m,hm.sameBut sb na,λh' sb'=>⟨_,H5,I6.turned (t':=s6.toks) (λb o hb e=>(sb'.2 b hb).trans e) f0 f1 f3 f4 f6,q5⟩⟩
end
def NY(K:Ad):R2:=λx y H Q=>∃(l:Addr)(ps:List (Addr×PD))(d:PD),y= .ref l∧SqL K H l (ps.map λp=>V.ref p.1)∧(∀p∈ps,Rep K H p.2 (.ref p.1)∧Jk p.2≤20)∧Rep K H d x∧Q (.bl (ps.any λp=>Ir p.2 d)) H
theorem SO(hr:Ke X):IY X (A_ .In) (NY X.K):=by
 intro pins s σ H x y v u Q I rx ry h;obtain⟨l,ps,d,rfl,hq,hp,hd,q⟩:=h;cases ry;obtain⟨its,r,pl,hz⟩:=I.list hq;obtain rfl:=Qz r;have at':∀p∈ps,Mg ps d (.ref p.1)=Ir p.2 d:=λp hm=>by
  show((ps.find? λq=>decide (q.1=p.1)).any λq=>Ir q.2 d)=Ir p.2 d;cases e:ps.find? (λq=>decide (q.1=p.1)) with
  | none=>exact absurd (decide_eq_true rfl) (Cz.mp e p hm)
  | some p'=> have h1:p'.1=p.1:=of_decide_eq_true (DC (p:=λ(q:Addr×PD)=>decide (q.1=p.1)) e);have h2:=(hp p' (Db e)).1;rw[h1] at h2;rw[Option.any_some,Nr I _ _ _ h2 (hp p hm).1]
 refine SeqAt.in_listAt (Mg ps d) pl.isList (λz hz'=>?_) ⟨.bl _,H,I,rfl,?_⟩
 · obtain⟨p,hm,rfl⟩:=Az.mp (show z∈ps.map λp=>Value.ref p.1 by simpa using hz');rw[at' p hm];have:=(hp p hm).2;exact OP I _ p.2 d _ _ _ _ (hp p hm).1 hd rfl rx (by have:=hr;simp only[Ke,Ce] at*;omega)
 · have e:(ps.map λp=>Value.ref p.1).toArray.any (Mg ps d)=ps.any λp=>Ir p.2 d:=by
    rw[List.any_toArray,C8];have:∀qs:List (Addr×PD),(∀q∈qs,q∈ps)→qs.any (Mg ps d∘λp=>Value.ref p.1)=qs.any λp=>Ir p.2 d:=λqs=>by
     induction qs with
     | nil=>intro _;rfl
     | cons q qs ih=> intro h;rw[BV,BV,ih λx hx=>h x (Ag _ hx)];congr 1;exact at' q (h q Ai)
    exact this ps λ_ h=>h
   rw[e];exact q
theorem VN(K:Ad)(h:X.K=K)(hr:Ke X):IY X (A_ .NotIn) (OE K):=by subst h;exact Nz hr
theorem Sj{K:Ad}{Q:VK}{v l:Addr}{w:List WP}{ws:List (Addr×List WP)}(hw:WishAt H v w)(hl:WsAt H l ws)(q:Q (.bl ((ws.map (·.2)).any λk=>decide (k=w))) H):NY K (.ref v) (.ref l) H Q:=by
 refine⟨l,ws.map λk=>(k.1,dW k.2),dW w,rfl,SqL.of (by rw[BF];exact hl.at'),λp hp=>?_,Kz hw,?_⟩
 · obtain⟨k,hk,rfl⟩:=Az.mp hp;exact⟨Kz (hl.ok k hk).1,A4 (M0 _) (by decide)⟩
 · rw[show((ws.map λk=>(k.1,dW k.2)).any λp=>Ir p.2 (dW w))=(ws.map (·.2)).any λk=>decide (k=w) by
    rw[C8,C8];exact congrArg (λf=>ws.any f) (funext λk=>Ms k.2 w)]
   exact q
theorem Qs{K:Ad}{Q:VK}{v l:Addr}{w:List WP}{ws:List (Addr×List WP)}(hw:WishAt H v w)(hl:WsAt H l ws)(q:Q (.bl (!(ws.map (·.2)).any λk=>decide (k=w))) H):OE K (.ref v) (.ref l) H Q:=by
 refine⟨l,ws.map λk=>(k.1,dW k.2),dW w,rfl,SqL.of (by rw[BF];exact hl.at'),λp hp=>?_,Kz hw,?_⟩
 · obtain⟨k,hk,rfl⟩:=Az.mp hp;exact⟨Kz (hl.ok k hk).1,A4 (M0 _) (by decide)⟩
 · rw[show((ws.map λk=>(k.1,dW k.2)).any λp=>Ir p.2 (dW w))=(ws.map (·.2)).any λk=>decide (k=w) by
    rw[C8,C8];exact congrArg (λf=>ws.any f) (funext λk=>Ms k.2 w)]
   exact q
def KI(f:Int→Bool)(xs:List Stand):List (List WP):=(JE f xs).map (·.2)
theorem vals_iff{f:Int→Bool}{xs:List Stand}{v:List WP}:v∈KI f xs↔∃z∈xs,f z.post=true∧v∈z.ws.map (·.2):=by
 unfold KI JE;rw[Az];constructor
 · rintro⟨y,hy,rfl⟩;obtain⟨z,hz,hy⟩:=Cw.mp hy;obtain⟨z1,z2⟩:=Av.mp hz;exact⟨z,z1,z2,AF hy⟩
 · rintro⟨z,hz,h1,h2⟩;obtain⟨y,hy,rfl⟩:=Az.mp h2;exact⟨y,Cw.mpr ⟨z,Av.mpr ⟨hz,h1⟩,hy⟩,rfl⟩
def J5(W:List Int)(xs:List Stand)(x t:Int):List (List WP):=KI (λz=>WB.has (WB.wayB W z x) t) xs
def Nk(W:List Int)(xs:List Stand)(w:List WP)(x t:Int):Nat:=if Jv (J5 W xs x t) w=true then 1 else 0
def MK(W:List Int)(xs:List Stand)(w:List WP)(x t:Int):Nat:=if Jv (J5 W xs x t) w=true then JK (J5 W xs x t) w else 0
def Jo(W:List Int)(xs:List Stand)(c:Int)(w:List WP)(ps:List Int):Nat:=((ps.filter λx=>decide (x≠c)).map λx=>Nk W xs w x (Jj W x c)).sum
def Jn(W:List Int)(xs:List Stand)(c:Int)(w:List WP)(ps:List Int):Nat:=((ps.filter λx=>decide (x≠c)).map λx=>MK W xs w x (Jj W x c)).sum
def UF:Sp:=λvs H Q _=>∃(a l:Addr)(w:List WP)(ws:List (Addr×List WP)),vs=[.ref a,.ref l]∧WishAt H a w∧WOk w∧WsAt H l ws∧∀H',Same H H'→Q (.bl (!Kj (ws.map (·.2)) w)) H'
def TV:Sp:=λvs H Q _=>∃(a l:Addr)(w:List WP)(ws:List (Addr×List WP)),vs=[.ref a,.ref l]∧WishAt H a w∧WOk w∧WsAt H l ws∧∀H',Same H H'→Q (.int (JK (ws.map (·.2)) w:Nat)) H'
def Sw:Sp:=λvs H Q _=>∃(a l v:Addr)(W:List Int)(xs:List Stand)(c:Int)(w:List WP),vs=[.ref a,.ref l,.int c,.ref v]∧WebAt H a W∧StsAt H W l xs∧WB.Post W c∧WishAt H v w∧WOk w∧
 ∀(r:Addr)(H':Hp),Same H H'→H' r=some (.tup [.int (Jo W xs c w (J8 W):Nat),.int (Jn W xs c w (J8 W):Nat)])→Q (.ref r) H'
def V2:Sp:=λvs H Q _=>∃(l:Addr)(W:List Int)(xs:List Stand)(x:Stand),vs=[.ref l,.str x.hand]∧StsAt H W l xs∧x∈xs∧∀(r:Addr)(H':Hp),Same H H'→H' r=some (.tup [.int x.post,.ref x.l])→Q (.ref r) H'
def JY(xs ys:List Stand)(h:Str)(w:List WP):Prop:=∀f v,v∈KI f ys↔∃z∈xs,f z.post=true∧v∈z.ws.map (·.2)∧(z.hand=h→v≠w)
def V4:Sp:=λvs H Q _=>∃(l v:Addr)(W:List Int)(xs:List Stand)(x:Stand)(w:List WP),vs=[.ref l,.str x.hand,.ref v]∧StsAt H W l xs∧x∈xs∧WishAt H v w∧WOk w∧
 ∀(r:Addr)(ys:List Stand)(H':Hp),Same H H'→H r=none→StsAt H' W r ys→JY xs ys x.hand w→Q (.ref r) H'
def Tg:Sp:=λvs H Q _=>∃(a l v:Addr)(W:List Int)(xs:List Stand)(x:Stand)(w:List WP),vs=[.ref a,.ref l,.str x.hand,.ref v]∧WebAt H a W∧StsAt H W l xs∧x∈xs∧WishAt H v w∧WOk w∧w ∉ x.ws.map (·.2)∧x.ws.length<10∧
 ∀(r:Addr)(H':Hp),Same H H'→H' r=some (.tup [.int (Jo W xs x.post w (J8 W):Nat),.int (Jn W xs x.post w (J8 W):Nat)])→Q (.ref r) H'
def UH:Sp:=λvs H Q _=>∃(a l v:Addr)(W:List Int)(xs:List Stand)(x:Stand)(w:List WP),vs=[.ref a,.ref l,.str x.hand,.ref v]∧WebAt H a W∧StsAt H W l xs∧x∈xs∧WishAt H v w∧WOk w∧w∈x.ws.map (·.2)∧
 ∀(r:Addr)(ys:List Stand)(H':Hp),Same H H'→JY xs ys x.hand w→H' r=some (.tup [.int (Jn W ys x.post w (J8 W):Nat),.int (Jo W ys x.post w (J8 W):Nat)])→Q (.ref r) H'
def MI(O:List (List WP)):List (List WP):=(Mh O).filter (Kj O)
theorem Mz(O:List (List WP)):IsTop O (MI O):=⟨(NE O).filter _,λv=>by unfold MI;rw[Av,MP,isTopV_iff]⟩
theorem Uo{O O' old new:List (List WP)}(t:IsTop O old)(t':IsTop O' new):Ju old new=Ju (MI O) (MI O'):=by unfold Ju;refine Go ((Ct (t'.nd.filter _) ((Mz O').nd.filter _)).mpr λv=>?_);rw[Av,Av,BA,BA,←Cv,←Cv,any_mem,any_mem,OS (λ_=>Iff.rfl) t (Mz O),OS (λ_=>Iff.rfl) t' (Mz O')]
def gS(W:List Int)(xs ys:List Stand)(p q:Int):Nat:=Ju (MI (J5 W xs q p)) (MI (J5 W ys q p))
def IF(W:List Int)(xs ys:List Stand)(es:List (Int×Int)):Nat:=(es.map λe=>gS W xs ys e.1 e.2).sum
def Vd:Sp:=λvs H Q _=>∃(a l m:Addr)(W:List Int)(xs ys:List Stand),vs=[.ref a,.ref l,.ref m]∧WebAt H a W∧StsAt H W l xs∧StsAt H W m ys∧FewS xs∧FewS ys∧
 ∀(r:Addr)(H':Hp),Same H H'→H' r=some (.tup [.int (IF W xs ys (JB W):Nat),.int (IF W ys xs (JB W):Nat)])→Q (.ref r) H'
theorem Tr{W:List Int}{xs ys:List Stand}{c:Int}{w:List WP}(h:∀f v,v∈KI f xs↔v∈KI f ys)(ps:List Int):Jo W xs c w ps=Jo W ys c w ps∧Jn W xs c w ps=Jn W ys c w ps:=by have d:∀x t,Jv (J5 W xs x t) w=Jv (J5 W ys x t) w:=λx t=>Xw (h _);have k:∀x t,JK (J5 W xs x t) w=JK (J5 W ys x t) w:=λx t=>Xt (h _);unfold Jo Jn Nk MK;simp only[d,k,and_self]
theorem N6{xs:List Stand}(nd:(xs.map (·.hand)).Nodup){z x:Stand}(hz:z∈xs)(hx:x∈xs)(e:z.hand=x.hand):z=x:=by
 obtain⟨i,hi⟩:=CP.mp hz;obtain⟨j,hj⟩:=CP.mp hx;obtain⟨li,ei⟩:=Al.mp hi;obtain⟨lj,ej⟩:=Al.mp hj;have pw:=Bs.mp (CT.mp nd);have:i=j:=by
  rcases D_ i j with q | q | q
  · have:=pw i j (by simpa using li) (by simpa using lj) q;simp only[BQ,ei,ej] at this;exact absurd e this
  · exact q
  · have:=pw j i (by simpa using lj) (by simpa using li) q;simp only[BQ,ei,ej] at this;exact absurd e.symm this
 subst this;rw[ei] at ej;exact ej
theorem ZK{xs ys:List Stand}{x:Stand}{w:List WP}(nd:(xs.map (·.hand)).Nodup)(hx:x∈xs)(hw:w∈x.ws.map (·.2))(h:JY xs ys x.hand w):∀f v,v∈KI f xs↔v∈KI f ys∨(f x.post=true∧v=w):=λf v=>by
 have uniq:∀z∈xs,z.hand=x.hand→z=x:=λz hz e=>N6 nd hz hx e;rw[vals_iff,h];constructor
 · rintro⟨z,hz,h1,h2⟩;by_cases c:z.hand=x.hand∧v=w
   · obtain rfl:=uniq z hz c.1;exact .inr ⟨h1,c.2⟩
   · exact .inl ⟨z,hz,h1,h2,λe z'=>c ⟨e,z'⟩⟩
 · rintro(⟨z,hz,h1,h2,_⟩ | ⟨h1,rfl⟩)
   · exact⟨z,hz,h1,h2⟩
   · exact⟨x,hx,h1,hw⟩
theorem Xu{W:List Int}(ww:WB.Web W){xs ys:List Stand}{x:Stand}{w:List WP}(nd:(xs.map (·.hand)).Nodup)(ok:∀z∈xs,∀y∈z.ws,WOk y.2)(hx:x∈xs)(hp:WB.Post W x.post)(hw:w∈x.ws.map (·.2))(h:JY xs ys x.hand w):
 IF W ys xs (JB W)=Jo W ys x.post w (J8 W)∧IF W xs ys (JB W)=Jn W ys x.post w (J8 W):=by
 have more:=ZK nd hx hw h;have okv:∀f,∀v∈KI f xs,WOk v:=λf v hv=>by obtain⟨z,hz,_,h2⟩:=vals_iff.mp hv;obtain⟨y,hy,rfl⟩:=Az.mp h2;exact ok z hz y hy
 have on:∀e∈JB W,x.post∈WB.sideL W e.2 e.1→gS W ys xs e.1 e.2=Nk W ys w e.2 e.1∧gS W xs ys e.1 e.2=MK W ys w e.2 e.1:=λe he hs=>by have hb:WB.has (WB.wayB W x.post e.2) e.1=true:=WB.has_iff.mpr (WB.side_mem.mp hs).2;exact YN (O:=J5 W ys e.2 e.1) (O':=J5 W xs e.2 e.1) (w:=w) (okv _) (λv=>by unfold J5;rw[more];exact⟨λz=>z.imp_right λy=>y.2,λz=>z.imp_right λy=>⟨hb,y⟩⟩) (Mz _) (Mz _)
 have off:∀e∈JB W,x.post ∉ WB.sideL W e.2 e.1→gS W ys xs e.1 e.2=0∧gS W xs ys e.1 e.2=0:=λe he hs=>by
  have hb:¬WB.has (WB.wayB W x.post e.2) e.1=true:=λz=>hs (WB.side_mem.mpr ⟨hp,WB.has_iff.mp z⟩);have same:∀v,v∈J5 W xs e.2 e.1↔v∈J5 W ys e.2 e.1:=λv=>by unfold J5;rw[more];exact⟨λz=>z.elim id λy=>absurd y.1 hb,.inl⟩
  have t:=OS same (Mz _) (Mz _);exact⟨OM λv hv=>(t v).mp hv,OM λv hv=>(t v).mpr hv⟩
 exact⟨U6 ww hp _ _ (λe he hs=>(on e he hs).1) λe he hs=>(off e he hs).1,U6 ww hp (gS W xs ys) (MK W ys w) (λe he hs=>(on e he hs).2) λe he hs=>(off e he hs).2⟩
def Tj:Sp:=λvs H Q _=>∃(l:Addr)(i:Nat)(v:Addr)(W:List Int)(xs:List Stand)(x:Stand)(ws:List (Addr×List WP)),vs=[.ref l,.int i,.ref v]∧StsAt H W l xs∧xs[i]?=some x∧WsAt H v ws∧(ws.map (·.2)).Nodup∧ws.length≤11∧
 ∀(r t:Addr)(H':Hp),Same H H'→H r=none→H t=none→H' t=some (.tup [.str x.hand,.int x.post,.ref v])→H' r=some (.lst ((xs.set i ⟨t,x.hand,x.post,v,ws⟩).map λx=>V.ref x.a))→Q (.ref r) H'
theorem Uw{W:List Int}{xs:List Stand}{c x:Int}{w:List WP}{ps:List Int}(f:Int→Int→Nat):((((ps++[x]).filter λx=>decide (x≠c)).map λx=>f x (Jj W x c)).sum)=(((ps.filter λx=>decide (x≠c)).map λx=>f x (Jj W x c)).sum)+(if x=c then 0 else f x (Jj W x c)):=by
 rw[AV,Ao,List.sum_append];congr 1;by_cases h:x=c
 · rw[if_pos h,CC (by simpa using h)];rfl
 · rw[if_neg h,CB (by simpa using h)];simp
def LG(i:Nat):List Int:=(AJ i).map λ(k:Nat)=>(k:Int)
theorem UK(i:Nat):LG (i+1)=LG i++[(i:Int)]:=by unfold LG;rw[DD,Ao];rfl
def V7:Sp:=λvs H Q _=>∃(b g l a t:Addr)(n lo sz wide many:Int)(fs:List Str),vs=[.ref b,.ref a,.ref t,.int wide,.int many]∧Well H b g l n∧n≤10^6∧NamesAt H b g a fs∧H t=some (.tup [.int lo,.int sz])∧1≤sz∧sz≤10^10∧1≤wide∧wide≤100∧0≤many∧many≤400∧
 ∀(r:Addr)(ws:List (Addr×List WP))(H':Hp),H r=none→WsAt H' r ws→(ws.length:Int)=many→(∀x∈ws,Nc fs x.2∧x.2.length≤6)→Well H' b g l (n+40*many)→SameB b g H H'→Q (.ref r) H'
def TN:Sp:=λvs H Q _=>∃(b g l a t:Addr)(n lo sz wide many:Int)(fs:List Str),vs=[.ref b,.ref a,.ref t,.int wide,.int many]∧Well H b g l n∧n≤10^6∧NamesAt H b g a fs∧H t=some (.tup [.int lo,.int sz])∧1≤sz∧sz≤10^10∧1≤wide∧wide≤100∧1≤many∧many≤90∧
 ∀(r:Addr)(ws:List (Addr×List WP))(H':Hp),H r=none→WsAt H' r ws→(ws.length:Int)≤many→1≤ws.length→(ws.map (·.2)).Nodup→Well H' b g l (n+40*many)→SameB b g H H'→Q (.ref r) H'
def V3:Sp:=λvs H Q _=>∃(b g l a c:Addr)(n many:Int)(W:List Int)(ws:List (Addr×List WP)),vs=[.ref b,.ref a,.ref c,.int many]∧Well H b g l n∧n≤10^5∧WebAt H a W∧a≠b∧a≠g∧WsAt H c ws∧c≠b∧c≠g∧(ws.map (·.2)).Nodup∧ws.length≤62∧1≤many∧many≤30∧
 ∀(r:Addr)(xs:List Stand)(H':Hp),H r=none→StsAt H' W r xs→(∀x∈xs,∀y∈x.ws,y∈ws)→1≤xs.length→(∀x∈xs,H x.l=none)→Well H' b g l (n+5000)→SameB b g H H'→Q (.ref r) H'
section
variable{K:Ad}{r v:Addr}{js:I_}{Q:VK}
theorem Tw{rs qs:List (Addr×List WP)}(hr:H r=none)(hσ:J6 js σ=[none,some (.ref v)])(hn:WsAt H a rs)(ho:WsAt H v qs)
 (q:∀H',Same H H'→H' r=some (.lst ((rs.filter λx=>!(qs.map (·.2)).any λk=>decide (k=x.2)).map λx=>V.ref x.1))→Q (.ref r) H'):
 K5 (KC K a) r js (Kx 0) (O0 (MZ (OE K) (Kg 0) (Kg 1))) (Kg 0) σ H Q:=by
 refine Lx (xs:=rs.map λx=>V.ref x.1) (λi σ' vs H'=>(∃v1,σ'=[v1,some (.ref v)])∧Same H H'∧H' r=some (.lst vs)∧vs=((rs.take i).filter λx=>!(qs.map (·.2)).any λk=>decide (k=x.2)).map λx=>V.ref x.1) ⟨⟨none,hσ⟩,Iq hr _,Ij,rfl⟩ ?_ ?_ ?_
 · rintro i σ' vs H' hi ⟨_,s,h1,rfl⟩;refine⟨SqL.of (s _ _ hn.at'),h1,?_⟩;have:=AC (λx:Addr×List WP=>!(qs.map (·.2)).any λk=>decide (k=x.2)) (rs.take i);rw[AA] at this;have:=hn.len;rw[Ab];exact Je (by omega)
 · rintro i y σ' vs H' N hy ⟨⟨v1,rfl⟩,s,h1,rfl⟩ hN;rw[Aj] at hy;cases e1:rs[i]? with
   | none=>rw[e1] at hy;cases hy
   | some y1=>
    rw[e1] at hy;cases hy;have o1:=((hn.ok y1 (Ak e1)).1).same s;have st:((rs.take (i+1)).filter λx=>!(qs.map (·.2)).any λk=>decide (k=x.2))=(rs.take i).filter (λx=>!(qs.map (·.2)).any λk=>decide (k=x.2))++(if(!(qs.map (·.2)).any λk=>decide (k=y1.2)) then [y1] else []):=by rw[JI e1,AV];congr 1;rw[Bx];rfl
    refine⟨_,rfl,_,rfl,Qs o1 (ho.same s) ⟨_,rfl,?_⟩⟩;cases c:(!(qs.map (·.2)).any λk=>decide (k=y1.2)) with
    | false=> rw[c] at st;refine Ig (hN _ _ _ ⟨⟨_,rfl⟩,s,h1,?_⟩);rw[st];simp
    | true=> rw[c] at st;refine Ii ⟨_,rfl,h1,hN _ _ _ ⟨⟨_,rfl⟩,J7 s hr,Ij,?_⟩⟩;rw[st];simp
 · rintro σ' vs H3 ⟨_,s3,h3,rfl⟩;rw[Ab,AS] at h3;exact q H3 s3 h3
theorem SK{rs:List (Addr×List WP)}{w:List WP}(hr:H r=none)(hσ:J6 js σ=[none,some (.ref v)])(hn:WsAt H a rs)(ho:WishAt H v w)
 (q:∀H',Same H H'→H' r=some (.lst ((rs.filter λx=>decide (x.2≠w)).map λx=>V.ref x.1))→Q (.ref r) H'):
 K5 (KC K a) r js (Kx 0) (O0 (MZ (LF K) (Kg 0) (Kg 1))) (Kg 0) σ H Q:=by
 refine Lx (xs:=rs.map λx=>V.ref x.1) (λi σ' vs H'=>(∃v1,σ'=[v1,some (.ref v)])∧Same H H'∧H' r=some (.lst vs)∧vs=((rs.take i).filter λx=>decide (x.2≠w)).map λx=>V.ref x.1) ⟨⟨none,hσ⟩,Iq hr _,Ij,rfl⟩ ?_ ?_ ?_
 · rintro i σ' vs H' hi ⟨_,s,h1,rfl⟩;refine⟨SqL.of (s _ _ hn.at'),h1,?_⟩;have:=AC (λx:Addr×List WP=>decide (x.2≠w)) (rs.take i);rw[AA] at this;have:=hn.len;rw[Ab];exact Je (by omega)
 · rintro i y σ' vs H' N hy ⟨⟨v1,rfl⟩,s,h1,rfl⟩ hN;rw[Aj] at hy;cases e1:rs[i]? with
   | none=>rw[e1] at hy;cases hy
   | some y1=>
    rw[e1] at hy;cases hy;have o1:=((hn.ok y1 (Ak e1)).1).same s;have st:((rs.take (i+1)).filter λy=>decide (y.2≠w))=(rs.take i).filter (λy=>decide (y.2≠w))++(if decide (y1.2≠w) then [y1] else []):=by rw[JI e1,AV];congr 1;rw[Bx];rfl
    refine⟨_,rfl,_,rfl,dW y1.2,dW w,Kz o1,Kz (ho.same s),BD (M0 _) (by decide),?_⟩;rw[Ms];by_cases c:y1.2=w
    · rw[decide_eq_true c];rw[decide_eq_false (by simpa using c)] at st;refine⟨_,rfl,Ig (hN _ _ _ ⟨⟨_,rfl⟩,s,h1,?_⟩)⟩;rw[st];simp
    · rw[decide_eq_false c];rw[decide_eq_true (by simpa using c)] at st;refine⟨_,rfl,Ii ⟨_,rfl,h1,hN _ _ _ ⟨⟨_,rfl⟩,J7 s hr,Ij,?_⟩⟩⟩;rw[st];simp
 · rintro σ' vs H3 ⟨_,s3,h3,rfl⟩;rw[Ab,AS] at h3;exact q H3 s3 h3
end
theorem U0(qs rs:List (Addr×List WP)):(rs.filter λx=>!(qs.map (·.2)).any λk=>decide (k=x.2)).length=Ju (qs.map (·.2)) (rs.map (·.2)):=by unfold Ju;rw[List.filter_map,Ab];rfl
def KO(W:List Int)(i:Nat):List (Int×Int):=(AJ i).flatMap λk=>[(W.getD k 0,(k:Int)+1),((k:Int)+1,W.getD k 0)]
theorem YZ(W:List Int)(i:Nat):KO W (i+1)=KO W i++[(W.getD i 0,(i:Int)+1),((i:Int)+1,W.getD i 0)]:=by unfold KO;rw[DD,E7];simp
theorem Vp(W:List Int)(xs ys:List Stand)(es:List (Int×Int))(e:Int×Int):IF W xs ys (es++[e])=IF W xs ys es+gS W xs ys e.1 e.2:=by unfold IF;rw[Ao,List.sum_append];simp
theorem L7{xs:List Stand}{x y:Stand}(nd:(xs.map (·.hand)).Nodup)(ei:xs[i]?=some x):∀z,z∈xs.set i y↔z=y∨(z∈xs∧z.hand≠x.hand):=λz=>by
 have li:i<xs.length:=(Al.mp ei).1;have mx:=Ak ei;rw[List.mem_iff_getElem?];constructor
 · rintro⟨j,hj⟩;rw[Dm] at hj;by_cases c:i=j
   · rw[if_pos c,if_pos li] at hj;cases hj;exact .inl rfl
   · rw[if_neg c] at hj;refine .inr ⟨Ak hj,λe=>c ?_⟩;obtain⟨lj,ej⟩:=Al.mp hj;obtain⟨_,ei'⟩:=Al.mp ei;have pw:=Bs.mp (CT.mp nd);rcases D_ i j with q | q | q
     · have:=pw i j (by simpa using li) (by simpa using lj) q;simp only[BQ,ei',ej] at this;exact absurd e.symm this
     · exact q
     · have:=pw j i (by simpa using lj) (by simpa using li) q;simp only[BQ,ei',ej] at this;exact absurd e this
 · rintro(rfl | ⟨hz,ne⟩)
   · exact⟨i,by rw[Dm,if_pos rfl,if_pos li]⟩
   · obtain⟨j,hj⟩:=CP.mp hz;refine⟨j,?_⟩;rw[Dm,if_neg]
     · exact hj
     · rintro rfl;rw[ei] at hj;cases hj;exact ne rfl
theorem ZY{xs:List Stand}{x y:Stand}(ei:xs[i]?=some x)(e:y.hand=x.hand):(xs.set i y).map (·.hand)=xs.map (·.hand):=by
 rw[List.map_set,e];refine List.ext_getElem? λj=>?_;rw[Dm];by_cases c:i=j
 · subst c;rw[if_pos rfl,Aj,ei];have:i<(xs.map (·.hand)).length:=by rw[Ab];exact(Al.mp ei).1
   rw[if_pos this];rfl
 · rw[if_neg c]
theorem Zj{xs:List Stand}{x:Stand}{t nl:Addr}{w:List WP}(nd:(xs.map (·.hand)).Nodup)(ei:xs[i]?=some x):JY xs (xs.set i ⟨t,x.hand,x.post,nl,x.ws.filter λy=>decide (y.2≠w)⟩) x.hand w:=λf v=>by
 have mx:=Ak ei;rw[vals_iff];constructor
 · rintro⟨z,hz,h1,h2⟩;rcases(L7 nd ei z).mp hz with rfl | ⟨h3,h4⟩
   · obtain⟨y,hy,rfl⟩:=Az.mp h2;obtain⟨y1,y2⟩:=Av.mp hy;exact⟨x,mx,h1,AF y1,λ_=>of_decide_eq_true y2⟩
   · exact⟨z,h3,h1,h2,λe=>absurd e h4⟩
 · rintro⟨z,hz,h1,h2,h3⟩;by_cases e:z.hand=x.hand
   · have ez:=N6 nd hz mx e;rw[ez] at h1 h2 h3;obtain⟨y,hy,rfl⟩:=Az.mp h2;exact⟨_,(L7 nd ei _).mpr (.inl rfl),h1,AF (Av.mpr ⟨hy,decide_eq_true (h3 rfl)⟩)⟩
   · exact⟨z,(L7 nd ei z).mpr (.inr ⟨hz,e⟩),h1,h2⟩
theorem Zi{xs:List Stand}{x:Stand}{t nl wv:Addr}{w:List WP}(nd:(xs.map (·.hand)).Nodup)(ei:xs[i]?=some x)(nw:w ∉ x.ws.map (·.2)):JY (xs.set i ⟨t,x.hand,x.post,nl,x.ws++[(wv,w)]⟩) xs x.hand w:=λf v=>by
 have mx:=Ak ei;rw[vals_iff];constructor
 · rintro⟨z,hz,h1,h2⟩;by_cases e:z.hand=x.hand
   · have ez:=N6 nd hz mx e;rw[ez] at h1 h2;exact⟨_,(L7 nd ei _).mpr (.inl rfl),h1,by rw[Ao];exact AH _ h2,λ_ q=>nw (q ▸ h2)⟩
   · exact⟨z,(L7 nd ei z).mpr (.inr ⟨hz,e⟩),h1,h2,λq=>absurd q e⟩
 · rintro⟨z,hz,h1,h2,h3⟩;rcases(L7 nd ei z).mp hz with rfl | ⟨h4,h5⟩
   · rw[Ao] at h2;rcases A9.mp h2 with q | q
     · exact⟨x,mx,h1,q⟩
     · exact absurd (Am.mp q) (h3 rfl)
   · exact⟨z,h4,h1,h2⟩
theorem StsAt.set{W:List Int}{l r:Addr}{xs:List Stand}{x y:Stand}(h:StsAt H W l xs)(ei:xs[i]?=some x)(e:y.hand=x.hand)(hy:StAt H W y)(er:H r=some (.lst ((xs.set i y).map λx=>V.ref x.a))):StsAt H W r (xs.set i y):=
 ⟨er,λz hz=>by
  rcases(L7 h.nd ei z).mp hz with rfl | ⟨h1,_⟩
  · exact hy
  · exact h.ok z h1,by rw[ZY ei e];exact h.nd,by rw[List.length_set];exact h.len⟩
def Lm(a b:Int):DY:= .tup [.int a,.int b]
theorem OD{t:Addr}{a b:Int}(h:H t=some (.tup [.int a,.int b])):RepY H (Lm a b) (.ref t):=M2 h (RepYs.cons (by rw[RepY]) (RepYs.cons (by rw[RepY]) RepYs.nil)) (by simp)
theorem Ut(a b:Int):Jf (Lm a b)≤3:=by
 unfold Lm;rw[Jf];have:Kd [.int a,.int b]≤1:=LA λd hd=>by simp only[An,AK,or_false] at hd;rcases hd with rfl | rfl<;>rw[Jf]<;>first | omega | simp
 omega
structure Pair(W:List Int)(xo xf:List Stand)(h:Str)(p:Int)(w:List WP)(n:Nat):Prop where
 less:JY xf xo h w
 zin:∃z∈xf,z.hand=h∧z.post=p∧w∈z.ws.map (·.2)
 yin:∃y∈xo,y.hand=h∧y.post=p∧w ∉ y.ws.map (·.2)∧y.ws.length<n
 fo:FewS xo
 ff:FewS xf
theorem OO{xs ks:List Stand}(ek:ks.map IX=xs.map IX){y:Stand}(h:y∈xs):∃z∈ks,z.hand=y.hand∧z.post=y.post∧z.ws=y.ws:=by have:=AF (f:=IX) h;rw[←ek] at this;obtain⟨z,hz,e⟩:=Az.mp this;exact⟨z,hz,congrArg Prod.fst e,congrArg (λc=>c.2.1) e,congrArg (λc=>c.2.2) e⟩
theorem Zu{xs ks ys:List Stand}{h:Str}{w:List WP}(ek:ks.map IX=xs.map IX)(l:JY xs ys h w):JY ks ys h w:=λf v=>by
 rw[l];constructor
 · rintro⟨z,hz,h1,h2,h3⟩;obtain⟨z',hz',e1,e2,e3⟩:=OO ek hz;exact⟨z',hz',by rw[e2];exact h1,by rw[e3];exact h2,by rw[e1];exact h3⟩
 · rintro⟨z,hz,h1,h2,h3⟩;obtain⟨z',hz',e1,e2,e3⟩:=OO ek.symm hz;exact⟨z',hz',by rw[e2];exact h1,by rw[e3];exact h2,by rw[e1];exact h3⟩
theorem Kq{te:TE}{g:TG}{t2:TS}{D:Ends}(h:∀Z:VK,(∀v H1,g v σ H1 (λσ2 H2=>t2 D σ2 H2)→Z v H1)→te σ H Z):K7 (K8 te g) t2 D σ H:=h _ λ_ _ z=>z
theorem Qe{t1 t2:TS}{D:Ends}(h:∀Z:St→Hp→Prop,(∀σ2 H2,t2 D σ2 H2→Z σ2 H2)→t1 {D with nx:=Z} σ H):K7 t1 t2 D σ H:=h _ λ_ _ z=>z
theorem IZ{v:V}{N:St→Hp→Prop}(h:let σ':=σ.set i (some v);N σ' H):Kx i v σ H N:=h
mutual
def JO:DY→Bool
 | .dic=>false
 | .da _=>false
 | .lst ds=>Jm ds
 | .tup ds=>Jm ds
 | .non=>true
 | .bl _=>true
 | .int _=>true
 | .str _=>true
def Jm:List DY→Bool
 | []=>true
 | d::ds=>JO d && Jm ds
end
theorem Ny:∀{ds:List DY},(∀d∈ds,JO d=true)→Jm ds=true
 | [],_=>by rw[Jm]
 | d::ds,h=>by rw[Jm,h d Ai,Ny λx hx=>h x (Ag _ hx)];rfl
theorem Qr:∀{ds:List DY}{i:Nat}{d:DY},Jm ds=true→ds[i]?=some d→JO d=true
 | [],i,d,_,e=>by simp at e
 | x::ds,0,d,h,e=>by rw[Jm,AM] at h;simp at e;exact e ▸ h.1
 | x::ds,i+1,d,h,e=>by rw[Jm,AM] at h;exact Qr h.2 (by simpa using e)
def P_(m:Nat):Sp:=λvs H Q _=>∃(v v':V)(d:DY),vs=[v,v']∧m≤9∧RepY H d v∧RepY H d v'∧(Jf d≤m∧JO d=true)∧∀H',Same H H'→Q (.bl true) H'
theorem Sn(a b:Int):JO (Lm a b)=true:=by simp[Lm,JO,Jm]
theorem R8(w:List WP):JO (KP w)=true:=by unfold KP;rw[JO];refine Ny λd hd=>?_;obtain⟨p,_,rfl⟩:=Az.mp hd;obtain⟨f,lo,hi⟩:=p;cases lo<;>cases hi<;>simp[JO,Jm,Ll,eD]
theorem WU(ws:List (List WP)):JO (.lst (ws.map KP))=true:=by rw[JO];refine Ny λd hd=>?_;obtain⟨w,_,rfl⟩:=Az.mp hd;exact R8 w
theorem So(W:List Int)(cs:List (Str×Int×List (Addr×List WP))):JO (Kw W cs)=true:=by
 unfold Kw;have h1:Jm (W.map DY.int)=true:=Ny λd hd=>by obtain⟨x,_,rfl⟩:=Az.mp hd;rw[JO]
 have h2:Jm (cs.map JX)=true:=Ny λd hd=>by obtain⟨c,_,rfl⟩:=Az.mp hd;unfold JX;have:=WU (c.2.2.map (·.2));rw[JO] at this;simp only[JO,Jm,this,Bool.and_self]
 simp only[JO,Jm,h1,h2,Bool.and_self]
end L2
set_option maxHeartbeats 4000000
namespace K64
open PySem PySem.Spec PyProof.Rows L2
theorem Jc{α:Type}{l:List (Addr×α)}{x:V}(h:(l.map λy=>V.ref y.1)[i]?=some x):∃y,l[i]?=some y∧x=V.ref y.1:=by
 rw[Aj] at h;cases e:l[i]? with
 | none=>rw[e] at h;cases h
 | some y=>rw[e] at h;exact⟨y,rfl,(AD h).symm⟩
def top(i:Nat):Stmt:=PySem.Challenge.pw_newsways_k64_letters_of_one_wish.main.body.getD i (.Pass ⟨0,0,0,0⟩)
abbrev Q8:Stmt:=top 10
abbrev Qi:Stmt:=top 11
abbrev Qx:Stmt:=top 12
abbrev Rf:Stmt:=top 13
abbrev OX:Stmt:=top 16
abbrev Re:Stmt:=top 17
abbrev Pb:Stmt:=top 18
abbrev O_:Stmt:=top 19
abbrev QP:Stmt:=top 20
abbrev Pd:Stmt:=top 21
abbrev Q_:Stmt:=top 22
abbrev Pc:Stmt:=top 23
abbrev Rb:Stmt:=top 25
abbrev Rg:Stmt:=top 24
abbrev Qv:Stmt:=top 27
abbrev Q7:Stmt:=top 29
abbrev OR:Stmt:=top 32
abbrev QY:Stmt:=top 33
abbrev Qw:Stmt:=top 34
abbrev QJ:Stmt:=top 35
abbrev NK:Stmt:=top 36
abbrev Q6:Stmt:=top 42
abbrev NI:Stmt:=top 43
abbrev Rc:Stmt:=top 44
abbrev QI:Stmt:=top 45
abbrev NP:Stmt:=top 47
abbrev NO:Stmt:=top 49
abbrev Qu:Stmt:=top 48
abbrev NQ:Stmt:=top 46
abbrev QZ:Stmt:=top 40
abbrev Ra:Stmt:=top 41
abbrev N2:Stmt:=top 51
abbrev QF:Stmt:=top 52
abbrev OY:Stmt:=top 53
abbrev QS:Stmt:=top 54
abbrev Q9:Stmt:=top 55
abbrev QA:Stmt:=top 56
abbrev QE:Stmt:=top 57
abbrev QG:Stmt:=top 58
abbrev QV:Stmt:=top 59
abbrev QB:Stmt:=top 60
abbrev QR:Stmt:=top 61
abbrev QD:Stmt:=top 62
abbrev MY:Stmt:=top 63
abbrev OU:Stmt:=top 64
abbrev QC:Stmt:=top 65
abbrev Pe:Stmt:=top 66
abbrev Pa:Stmt:=top 67
abbrev OZ:Stmt:=top 68
abbrev QQ:Stmt:=top 69
abbrev Pf:Stmt:=top 70
abbrev QT:Stmt:=top 71
abbrev QU:Stmt:=top 72
abbrev Ph:Stmt:=top 73
abbrev NJ:Stmt:=top 74
abbrev QH:Stmt:=top 75
abbrev LR:Stmt:=top 76
def Pi(m:Nat):Sp:=λvs H Q _=>∃(v v':V)(d:DY),vs=[v,v']∧m≤9∧RepY H d v∧RepY H d v'∧Jf d≤m∧∀H',Same H H'→Q (.bl true) H'
def Rw:Sp:=λvs H Q _=>∃(a:Addr)(p:List PP),vs=[.ref a]∧Nu H a p∧POk p∧∀H',Same H H'→Q (.bl true) H'
def spPoints:Sp:=λvs H Q _=>∃(a t:Addr)(fs:List Str)(lo sz wide:Int),vs=[.ref a,.ref t,.int wide]∧H a=some (.lst (fs.map V.str))∧fs.length≤3∧(∀f∈fs,FieldOk f)∧fs.Pairwise JP∧H t=some (.tup [.int lo,.int sz])∧1≤sz∧sz≤10^10∧1≤wide∧wide≤9∧
 ∀(r:Addr)(qs:List (Addr×List PP))(H':Hp),Same H H'→H' r=some (.lst (qs.map λq=>V.ref q.1))→qs.length≤8000→(∀q∈qs,Nu H' q.1 q.2∧POk q.2)→Q (.ref r) H'
def Rx:Sp:=λvs H Q _=>∃(a l c:Addr)(w:List WP)(os:List (Addr×List WP))(p:List PP),vs=[.ref a,.ref l,.ref c]∧WishAt H a w∧WsAt H l os∧Nu H c p∧POk p∧∀H',Same H H'→Q (.bl (Tn w p && os.all λo=>!Tn o.2 p)) H'
def LM(p:PP):DY:= .tup [.str p.1,.int p.2]
def LL(p:List PP):DY:= .tup (p.map LM)
theorem UN:∀ps:List (Addr×PP),(∀p∈ps,H p.1=some (.tup [.str p.2.1,.int p.2.2]))→(∀p∈ps,p.2.1.length≤8)→RepYs H ((ps.map (·.2)).map LM) (ps.map λp=>V.ref p.1)
 | [],_,_=>RepYs.nil
 | p::ps,h,hl=>by refine RepYs.cons ?_ (UN ps (λx hx=>h x (Ag _ hx)) λx hx=>hl x (Ag _ hx));refine M2 (h p Ai) (RepYs.cons ?_ (RepYs.cons (by rw[RepY]) RepYs.nil)) (by simp);rw[RepY];exact⟨rfl,A4 (hl p Ai) (by decide)⟩
theorem Yd{p:List PP}(h:Nu H a p)(ok:POk p):RepY H (LL p) (.ref a):=by obtain⟨ps,rfl,e,f⟩:=h;refine M2 e (UN ps f λp hp=>?_) (by have:=ok.len;rw[Ab] at*;omega);exact(ok.ok p.2 (AF hp)).eight
theorem YW(p:List PP):Jf (LL p)≤2:=by
 unfold LL;rw[Jf];have:Kd (p.map LM)≤1:=LA λd hd=>by obtain⟨p,_,rfl⟩:=Az.mp hd;unfold LM;simp only[Jf,Kd];omega
 omega
def Wl:List (List WP)→DY
 | []=> .non
 | p::_=>LL (MU p)
theorem M_{v:V}{ps:List (List WP)}(h:Ws H v ps)(ok:∀p∈ps,WOk p):RepY H (Wl ps) v:=by
 cases ps with
 | nil=> have:v= .non:=h;subst this;show RepY H .non .non;rw[RepY]
 | cons p ps=> obtain⟨t,rfl,h⟩:=h;exact Yd h (ziJ (ok p Ai))
theorem M7(ps:List (List WP)):Jf (Wl ps)≤2:=by
 cases ps with
 | nil=>show Jf .non≤2;rw[Jf];omega;all_goals simp
 | cons p ps=>exact YW _
section
variable{K:Ad}{mg:Str→Option Value}{base:Heap}
theorem IJ{N P:List Str}{sc:Scope}(h1:sc.kind= .function:=by rfl)(h2:sc.isCoroutine=false:=by rfl)(h3:sc.isGenerator=false:=by rfl)(h4:N.Nodup:=by decide+kernel)(h5:N.take P.length=P:=by rfl)(h6:∀x∈P,sc.names.lookup x=some .local∨sc.names.lookup x=some .cell:=by decide+kernel)(h7:∀y∈sc.names,y.2≠ .free:=by decide+kernel):FnScope N P sc:=⟨h1,h2,h3,h4,h5,h6,h7⟩
theorem zg1:FnScope ["thing"] ["thing"] (Iu Q8):=IJ
theorem ZT:FnScope ["thing"] ["thing"] (Iu Qi):=IJ
theorem Gp:FnScope ["thing","low","high"] ["thing"] (Iu Qx):=IJ
theorem Gq:FnScope ["one","other","low","high","other_low","other_high","reaches_down","reaches_up"] ["one","other"] (Iu Rf):=IJ
theorem zg2:FnScope ["thing"] ["thing"] (Iu OX):=IJ
theorem Gr:FnScope ["thing","field","low","high"] ["thing"] (Iu Re):=IJ
theorem zdY:FnScope ["parts"] ["parts"] (Iu Pb):=IJ
theorem ziD:FnScope ["thing"] ["thing"] (Iu O_):=IJ
theorem zfk:FnScope ["thing"] ["thing"] (Iu QP):=IJ
theorem zfl:FnScope ["thing"] ["thing"] (Iu Pd):=IJ
theorem zcO:FnScope ["thing"] ["thing"] (Iu Q_):=IJ
theorem zdj:FnScope ["wish"] ["wish"] (Iu Pc):=IJ
theorem Gs:FnScope ["one","other_spans","field","low","high"] ["one","other_spans"] (Iu Rb):=IJ
theorem zei:FnScope ["one","other"] ["one","other"] (Iu Rg):=IJ
theorem ziF:FnScope ["thing"] ["thing"] (Iu Qv):=IJ
theorem Gu:FnScope ["wish","others","spans","other"] ["wish","others"] (Iu Q7):=IJ
theorem ZU:FnScope ["thing"] ["thing"] (Iu OR):=IJ
theorem zgj:FnScope ["thing"] ["thing"] (Iu QY):=IJ
theorem ziE:FnScope ["web","thing"] ["web","thing"] (Iu Qw):=IJ
theorem Gv:FnScope ["web","p","posts"] ["web","p"] (Iu QJ):=IJ
theorem Gw:FnScope ["web","p","q","back_from_p","back_from_q","ahead","behind","turn"] ["web","p","q"] (Iu NK):=IJ
theorem Gx:FnScope ["web","thing","hand","place","wishes"] ["web","thing"] (Iu Q6):=IJ
theorem zfm:FnScope ["web","thing"] ["web","thing"] (Iu NI):=IJ
theorem zej:FnScope ["web","stands"] ["web","stands"] (Iu Rc):=IJ
theorem Gy:FnScope ["stands","thing","hand","place","wishes"] ["stands","thing"] (Iu QI):=IJ
theorem Gz:FnScope ["web","stands","p","q","beyond"] ["web","stands","p","q"] (Iu NP):=IJ
theorem G0:FnScope ["wish","others","covered"] ["wish","others"] (Iu NO):=IJ
theorem G1:FnScope ["web","stands","place","wish","said","unsaid","post","teller","others"] ["web","stands","place","wish"] (Iu Qu):=IJ
theorem G2:FnScope ["stands","hand","wish","others","place","wishes"] ["stands","hand","wish"] (Iu NQ):=IJ
theorem G3:FnScope ["web","stands","hand","wish","place","wishes"] ["web","stands","hand","wish"] (Iu QZ):=IJ
theorem G4:FnScope ["web","stands","hand","wish","place","wishes","come","gone"] ["web","stands","hand","wish"] (Iu Ra):=IJ
theorem G5:FnScope ["script","great","small","seed","number"] ["script"] (Iu N2):=IJ
theorem G6:FnScope ["well","many","number","cell"] ["well","many"] (Iu QF):=IJ
theorem G7:FnScope ["well","most","letters"] ["well","most"] (Iu OY):=IJ
theorem G8:FnScope ["well","many","letters","found","k","pick","first","letter","at","word"] ["well","many"] (Iu QS):=IJ
theorem G9:FnScope ["well","pick","sign","number"] ["well"] (Iu Q9):=IJ
theorem GA:FnScope ["well","pick","size"] ["well"] (Iu QA):=IJ
theorem GB:FnScope ["well","grid","wide","pick","low","high"] ["well","grid","wide"] (Iu QE):=IJ
theorem GC:FnScope ["well","names","grid","wide","parts","field","low","high"] ["well","names","grid","wide"] (Iu QG):=IJ
theorem GD:FnScope ["well","names","grid","wide","many","found","k","pick","wish","old","at"] ["well","names","grid","wide","many"] (Iu QV):=IJ
theorem GE:FnScope ["wish","field","other","low","high"] ["wish","field"] (Iu QB):=IJ
theorem GF:FnScope ["one","other","field","low","high","there"] ["one","other"] (Iu QR):=IJ
theorem GG:FnScope ["wish","found","field","low","high"] ["wish"] (Iu QD):=IJ
theorem GH:FnScope ["wishes","some","wish","top"] ["wishes"] (Iu MY):=IJ
theorem Wc:FnScope ["found","due"] ["found","due"] (Iu OU):=IJ
theorem GI:FnScope ["well","names","grid","wide","many","found","wish"] ["well","names","grid","wide","many"] (Iu QC):=IJ
theorem GJ:FnScope ["well","row","left","many"] ["well","row"] (Iu Pe):=IJ
theorem GK:FnScope ["well","most","pick","many"] ["well","most"] (Iu Pa):=IJ
theorem GL:FnScope ["web","p","found"] ["web","p"] (Iu OZ):=IJ
theorem GM:FnScope ["web","p","q","found","at","post"] ["web","p","q"] (Iu QQ):=IJ
theorem GN:FnScope ["well","row","left"] ["well","row"] (Iu Pf):=IJ
theorem GO:FnScope ["well","web","pool","many","found","hand"] ["well","web","pool","many"] (Iu QT):=IJ
theorem GP:FnScope ["stands","posts","found","hand","post","wishes"] ["stands","posts"] (Iu QU):=IJ
theorem zc3:FnScope ["stands"] ["stands"] (Iu Ph):=IJ
theorem GQ:FnScope ["web","ahead","behind","found","place","p","q","posts","old","new"] ["web","ahead","behind"] (Iu NJ):=IJ
theorem GR:FnScope ["stands","at","wishes","hand","post","old"] ["stands","at","wishes"] (Iu QH):=IJ
theorem GS:FnScope ["script","well","large","web","names","grid","wide","pool","stands","k","at","more","wish","hand","post","wishes","without","full","due","handed"] ["script"] (Iu LR):=IJ
section
variable(P:AY)(w:World)(K:Ad)(mg:Str→Option Value)(base:Heap)
abbrev Γ0:=IH P w K mg base 1 "is_whole" ["thing"] (TW K)
abbrev Γ1:=IH P w K mg base 2 "is_end" ["thing"] (Sv K)
abbrev Γ4:=IH P w K mg base 1 "is_field" ["thing"] (OG)
abbrev Γ2:=IH P w K mg base 3 "is_span" ["thing"] (UB K)
abbrev Γ6:=IH P w K mg base 1 "fields_ascend" ["parts"] (U7)
abbrev Γ5:=IH P w K mg base 4 "is_wish_part" ["thing"] (VS)
abbrev Γ7:=IH P w K mg base 5 "is_wish" ["thing"] (UC)
abbrev Γ9:=IH P w K mg base 6 "are_wishes" ["thing"] (TK)
abbrev Γ3:=IH P w K mg base 1 "span_reaches" ["one","other"] (TQ)
abbrev Γ12:=IH P w K mg base 2 "reaches_spans" ["one","other_spans"] (Vg)
abbrev Γ11:=IH P w K mg base 1 "spans_by_field" ["wish"] (Vh)
abbrev Γ16:=IH P w K mg base 2 "is_web" ["thing"] (TL)
abbrev Γ19:=IH P w K mg base 1 "way_back" ["web","p"] (V6)
abbrev Γ14:=IH P w K mg base 2 "is_name" ["thing"] (OG)
abbrev Γ18:=IH P w K mg base 2 "is_post" ["web","thing"] (UA)
abbrev Γ10:=IH P w K mg base 7 "are_unlike_wishes" ["thing"] (UG)
abbrev Γ21:=IH P w K mg base 8 "is_stand" ["web","thing"] (Vf)
abbrev Γ17:=IH P w K mg base 3 "check_web" ["thing"] (U9)
abbrev Γ22:=IH P w K mg base 9 "are_stands" ["web","thing"] (VE)
abbrev Γ20:=IH P w K mg base 2 "way_between" ["web","p","q"] (Sy)
abbrev Γ13:=IH P w K mg base 3 "wish_reaches" ["one","other"] (VG)
abbrev Γ15:=IH P w K mg base 3 "is_under" ["wish","others"] (UF)
abbrev Γ25:=IH P w K mg base 3 "wishes_beyond" ["web","stands","p","q"] (U8)
abbrev Γ26:=IH P w K mg base 4 "how_many_tops_under" ["wish","others"] (TV)
abbrev Γ24:=IH P w K mg base 1 "stand_of" ["stands","thing"] (V2)
abbrev Γ23:=IH P w K mg base 10 "check_stands" ["web","stands"] (VF)
abbrev Γ8:=IH P w K mg base 6 "check_wish" ["thing"] (Vc)
abbrev Γ27:=IH P w K mg base 5 "how_far" ["web","stands","place","wish"] (Sw)
abbrev Γ28:=IH P w K mg base 2 "stands_without" ["stands","hand","wish"] (V4)
abbrev Γ32:=IH P w K mg base 1 "_law_take" ["well","many"] (Te)
abbrev Γ33:=IH P w K mg base 2 "_law_name" ["well","most"] (Ta)
abbrev Γ35:=IH P w K mg base 2 "_law_base" ["well"] (SX)
abbrev Γ37:=IH P w K mg base 2 "_law_span" ["well","grid","wide"] (TU)
abbrev Γ38:=IH P w K mg base 3 "_law_wish" ["well","names","grid","wide"] (TX)
abbrev Γ40:=IH P w K mg base 1 "_law_part" ["wish","field"] (Tb)
abbrev Γ42:=IH P w K mg base 1 "_law_rank" ["wish"] (TM K)
abbrev Γ41:=IH P w K mg base 2 "_law_covers" ["one","other"] (S_)
abbrev Γ39:=IH P w K mg base 4 "_law_wishes" ["well","names","grid","wide","many"] (V7)
abbrev Γ48:=IH P w K mg base 1 "_law_near" ["web","p"] (TR)
abbrev Γ50:=IH P w K mg base 2 "_law_turned" ["well","row"] (UE)
abbrev Γ34:=IH P w K mg base 3 "_law_fields" ["well","many"] (Ve)
abbrev Γ46:=IH P w K mg base 2 "_law_picked" ["well","row"] (UD)
abbrev Γ49:=IH P w K mg base 2 "_law_beyond" ["web","p","q"] (Vb)
abbrev Γ43:=IH P w K mg base 4 "_law_greatest" ["wishes"] (Tf)
abbrev Γ52:=IH P w K mg base 1 "_law_wanted" ["stands","posts"] (V5)
abbrev Γ31:=IH P w K mg base 1 "_law_well" ["script"] (Ti K)
abbrev Γ47:=IH P w K mg base 2 "_law_web" ["well","most"] (Th)
abbrev Γ36:=IH P w K mg base 3 "_law_grid" ["well"] (SY)
abbrev Γ45:=IH P w K mg base 5 "_law_pool" ["well","names","grid","wide","many"] (TN)
abbrev Γ51:=IH P w K mg base 4 "_law_stands" ["well","web","pool","many"] (V3)
abbrev Γ55:=IH P w K mg base 1 "_law_with" ["stands","at","wishes"] (Tj)
abbrev Γ54:=IH P w K mg base 5 "_law_counted" ["web","ahead","behind"] (Vd)
abbrev Γ53:=IH P w K mg base 1 "_law_stands_kept" ["stands"] (SZ)
abbrev Γ44:=IH P w K mg base 11 "_law_alike" ["found","due"] (P9 9 P_)
abbrev Γ29:=IH P w K mg base 11 "letters_of_want" ["web","stands","hand","wish"] (Tg)
abbrev Γ30:=IH P w K mg base 11 "letters_of_unwant" ["web","stands","hand","wish"] (UH)
end
theorem zq0:0≤A1:=by decide
theorem LQ:1≤A1:=by decide
theorem Sb:4≤A1:=by decide
theorem Oy:5≤A1:=by decide
theorem zq6:6≤A1:=by decide
theorem zq8:8≤A1:=by decide
theorem RE:AT (["sign"]:List Str):=by decide+kernel
theorem Om:AT (["ahead","behind"]:List Str):=by decide+kernel
theorem RD:AT (["part"]:List Str):=by decide+kernel
theorem RC:AT (["wish"]:List Str):=by decide+kernel
theorem M5:AT (["field","low","high"]:List Str):=by decide+kernel
theorem Ob:AT (["at","post"]:List Str):=by decide+kernel
theorem RB:AT (["post","back_from_q"]:List Str):=by decide+kernel
theorem RA:AT (["post","back_from_p"]:List Str):=by decide+kernel
theorem R9:AT (["stand","web"]:List Str):=by decide+kernel
theorem M4:AT (["hand","place","wishes"]:List Str):=by decide+kernel
theorem Lh:AT (["hand","place","wishes","web","p","q"]:List Str):=by decide+kernel
theorem Mf:AT (["wishes","wish"]:List Str):=by decide+kernel
theorem Me:AT (["other","wish"]:List Str):=by decide+kernel
theorem Ol:AT (["other","others"]:List Str):=by decide+kernel
theorem Oj:AT (["stand","hand"]:List Str):=by decide+kernel
theorem Md:AT (["cell"]:List Str):=by decide+kernel
theorem Oi:AT (["k","well","letters"]:List Str):=by decide+kernel
theorem Oh:AT (["wish","some"]:List Str):=by decide+kernel
theorem Mc:AT (["one","wish"]:List Str):=by decide+kernel
theorem Og:AT (["k","found","due"]:List Str):=by decide+kernel
theorem Mb:AT (["k","well","left"]:List Str):=by decide+kernel
theorem Of:AT (["place","well","pick"]:List Str):=by decide+kernel
theorem Oe:AT (["place","web","p"]:List Str):=by decide+kernel
theorem Lg:AT (["hand","post","wishes"]:List Str):=by decide+kernel
theorem Od:AT (["one","old"]:List Str):=by decide+kernel
theorem Oc:AT (["one","new"]:List Str):=by decide+kernel
theorem Ja:2≤A1:=by decide
theorem MF:3≤A1:=by decide
variable{f:Addr}{fd:Bw}(B:Bl mg){tML':Tok}(qML':mg "MOST_LETTERS"=some (.int 8 tML')){tMR':Tok}(qMR':mg "MOST_ROADS"=some (.int 23 tMR')){tMH':Tok}(qMH':mg "MOST_HANDS"=some (.int 30 tMH')){tMW':Tok}(qMW':mg "MOST_WISHES"=some (.int 10 tMW'))
include B qML' qMR' qMH' qMW'
theorem zhn(F:Fun K "is_whole" "is_whole" Q8 f fd)  :FnOk P w K mg base IC 1 f fd ["thing"] (TW K):=by
 refine F.ok zg1 (λvs H Q E h=>?_) (λcdv A outer s H vs Q E hr h=>?_)
 · obtain⟨v,t,rfl,hty,q⟩:=h;rfl
 obtain⟨v,t,rfl,hty,q⟩:=h;refine⟨_,(Im (Iz (Kl (IB (Kc (n:="")) rfl B.isinstance_ JM (Ic (pv 0) (Ic (JD (v:= .ty "int") rfl B.int_ P4 rfl) Ie))) (J_ (X7 (IB (Kc (n:="")) rfl B.isinstance_ JM (Ic (pv 0) (Ic (JD (v:= .ty "bool") rfl B.bool_ PV rfl) Ie)))))))),?_⟩;cases hty
 all_goals first
  | exact⟨_,rfl,_,"int","int",true,rfl,.int _,rfl,_,rfl,Ii ⟨_,rfl,_,"int","bool",false,rfl,.int _,rfl,_,rfl,q⟩⟩
  | exact⟨_,rfl,_,"bool","int",true,rfl,.bl _,rfl,_,rfl,Ii ⟨_,rfl,_,"bool","bool",true,rfl,.bl _,rfl,_,rfl,q⟩⟩
  | exact⟨_,rfl,_,_,"int",false,rfl,(by first | exact .non | exact .str _ | exact .flt _ | (exact .lst (by assumption)) | (exact .frz (by assumption)) | (exact .tup (by assumption)) | (exact .dK (by assumption)) | (exact .dT (by assumption))),rfl,_,rfl,Ig q⟩
theorem zj5(F:Fun K "is_end" "is_end" Qi f fd)(GT:Γ0 P w K mg base):FnOk P w K mg base IC 2 f fd ["thing"] (Sv K):=by
 refine F.ok ZT (λvs H Q E h=>?_) (λcdv A outer s H vs Q E hr h=>?_)
 · obtain⟨v,t,rfl,hty,q⟩:=h;rfl
 obtain⟨v,t,rfl,hty,q⟩:=h;refine⟨_,(Im (Iz (Nj (KU (Kr (pv 0))) (J_ (Ip GT (hr.mono (by decide)) rfl (Ic (pv 0) Ie)))))),?_⟩;refine⟨_,rfl,_,rfl,?_⟩;cases hty
 case non=>exact Ii q
 all_goals refine Ig ?_
 case int i=>exact⟨_,rfl,_,_,rfl,.int _,q⟩
 all_goals exact⟨_,rfl,_,_,rfl,(by first | exact .bl _ | exact .str _ | exact .flt _ | (exact .lst (by assumption)) | (exact .frz (by assumption)) | (exact .tup (by assumption)) | (exact .dK (by assumption)) | (exact .dT (by assumption))),q⟩
theorem ziR(F:Fun K "is_span" "is_span" Qx f fd)(GU:Γ1 P w K mg base):FnOk P w K mg base IC 3 f fd ["thing"] (UB K):=by
 refine F.ok Gp (λvs H Q E h=>?_) (λcdv A outer s H vs Q E hr h=>?_)
 · obtain⟨v,t,rfl,hty,hp,q⟩:=h;rfl
 obtain⟨v,t,rfl,hty,hp,q⟩:=h;refine⟨_,(Ik (IL (PW.pt (Ky (J9 (Jz (IB (Kc (n:="")) rfl B.isinstance_ JM (Ic (pv 0) (Ic (JD (v:= .ty "tuple") rfl B.tuple_ LY rfl) Ie))))) (K2 (IG L5 (IB Jb rfl B.len_ IW (Ic (pv 0) Ie)) Ih (IK _))))) (Im (Iz J0)) IN)
  (Ik (Kf (pv 0) (JL rfl (ID (Iv (i:=1) Gp.nd rfl (Or.inl rfl)) (ID (Iv (i:=2) Gp.nd rfl (Or.inl rfl)) J3))))
  (Ik (IL (PW.pt (Ky (J9 (Jz (Ip GU (hr.mono (by decide)) rfl (Ic (pv 1) Ie)))) (K2 (J9 (Jz (Ip GU (hr.mono (by decide)) rfl (Ic (pv 2) Ie))))))) (Im (Iz J0)) IN)
  (Im (Iz (Nj (KU (Kr (pv 1))) (Nj (KU (Kr (pv 2))) (J_ (Lz Lq (pv 1) (pv 2) (IK _)))))))))),?_⟩
 have q0:KL H v=false→Q (.bl false) H:=λh=>by rw[←h];exact q
 cases hty
 case tup a xs e=>
  refine⟨_,rfl,_,"tuple","tuple",true,rfl,.tup e,rfl,_,rfl,Ig ⟨_,rfl,a,_,rfl,.inr (SqT.of e),rfl,_,rfl,?_⟩⟩;by_cases hl:xs.length=2
  · match xs,hl with
    | [x,y],_=>
     refine Ig ⟨_,rfl,a,_,rfl,SqT.of e,rfl,_,_,rfl,_,_,rfl,rfl,?_⟩;obtain⟨t1,t2,h1,h2⟩:=hp a x y rfl e;have es:KL H (.ref a)=(Kh x && Kh y && RJ x y):=by unfold KL;simp only[e]
     rw[es] at q;refine⟨_,rfl,_,_,rfl,h1,_,rfl,?_⟩;cases ex:Kh x with
     | false=> rw[ex] at q;exact Ii q
     | true=>
      rw[ex] at q;refine Ig ⟨_,rfl,_,_,rfl,h2,_,rfl,?_⟩;cases ey:Kh y with
      | false=> rw[ey] at q;exact Ii q
      | true=>
       rw[ey] at q;refine Ig ⟨_,rfl,_,rfl,?_⟩;cases x with
       | non=>exact Ii q
       | int i=>
        refine Ig ⟨_,rfl,_,rfl,?_⟩;cases y with
        | non=>exact Ii q
        | int j=>exact Ig ⟨_,rfl,_,rfl,_,_,rfl,rfl,q⟩
        | _=>exact absurd ey Ar
       | _=>exact absurd ex Ar
  · have es:KL H (.ref a)=false:=by
     unfold KL;simp only[e]
     match xs,hl with
     | [],_=>rfl
     | [_],_=>rfl
     | [_,_],h=>exact absurd rfl h
     | _::_::_::_,_=>rfl
    have ed:(!decide (V.int ((xs.length:Nat):Int)=V.int 2))=true:=by
     have:¬V.int ((xs.length:Nat):Int)=V.int 2:=λz=>by injection z with z;omega
     rw[decide_eq_false this];rfl
    rw[es] at q;show if(!decide (V.int ((xs.length:Nat):Int)=V.int 2))=true then _ else _
    rw[ed];exact Ii q
 case non=>exact⟨_,rfl,_,_,"tuple",false,rfl,.non,rfl,_,rfl,Ii (q0 rfl)⟩
 case bl b=>exact⟨_,rfl,_,_,"tuple",false,rfl,(.bl b),rfl,_,rfl,Ii (q0 rfl)⟩
 case int i=>exact⟨_,rfl,_,_,"tuple",false,rfl,(.int i),rfl,_,rfl,Ii (q0 rfl)⟩
 case str x=>exact⟨_,rfl,_,_,"tuple",false,rfl,(.str x),rfl,_,rfl,Ii (q0 rfl)⟩
 case flt x=>exact⟨_,rfl,_,_,"tuple",false,rfl,(.flt x),rfl,_,rfl,Ii (q0 rfl)⟩
 case lst a xs e=>exact⟨_,rfl,_,_,"tuple",false,rfl,(.lst e),rfl,_,rfl,Ii (q0 (by unfold KL;simp only[e]))⟩
 case frz a o xs e=>exact⟨_,rfl,_,_,"tuple",false,rfl,(.frz e),rfl,_,rfl,Ii (q0 (by unfold KL;simp only[e]))⟩
 case dK a kvs e=>exact⟨_,rfl,_,_,"tuple",false,rfl,(.dK e),rfl,_,rfl,Ii (q0 (by unfold KL;simp only[e]))⟩
 case dT a kvs e=>exact⟨_,rfl,_,_,"tuple",false,rfl,(.dT e),rfl,_,rfl,Ii (q0 (by unfold KL;simp only[e]))⟩
theorem zey(F:Fun K "span_reaches" "span_reaches" Rf f fd)  :FnOk P w K mg base IC 1 f fd ["one","other"] (TQ):=by
 refine F.ok Gq (λvs H Q E h=>?_) (λcdv A outer s H vs Q E hr h=>?_)
 · obtain⟨v,w,lo,hi,lo2,hi2,rfl,S1,S2,q⟩:=h;rfl
 obtain⟨v,w,lo,hi,lo2,hi2,rfl,S1,S2,q⟩:=h;refine⟨_,(Ik (Kf (pv 0) (JL rfl (ID (Iv (i:=2) Gq.nd rfl (Or.inl rfl)) (ID (Iv (i:=3) Gq.nd rfl (Or.inl rfl)) J3))))
  (Ik (Kf (pv 1) (JL rfl (ID (Iv (i:=4) Gq.nd rfl (Or.inl rfl)) (ID (Iv (i:=5) Gq.nd rfl (Or.inl rfl)) J3))))
  (Ik (I0 (i:=6) Gq.nd rfl (Or.inl rfl) (Nj (KU (Kr (pv 2))) (J_ (Kl (KU (Nq (pv 4))) (J_ (Lz Lq (pv 2) (pv 4) (IK _)))))))
  (Ik (I0 (i:=7) Gq.nd rfl (Or.inl rfl) (Nj (KU (Kr (pv 3))) (J_ (Kl (KU (Nq (pv 5))) (J_ (Lz Lq (pv 5) (pv 3) (IK _)))))))
  (Im (Iz (Kl (pv 6) (J_ (pv 7))))))))),?_⟩
 obtain⟨a,rfl,e1⟩:=S1;obtain⟨c,rfl,e2⟩:=S2;refine⟨_,rfl,a,_,rfl,SqT.of e1,rfl,_,_,rfl,_,_,rfl,rfl,?_⟩;refine⟨_,rfl,c,_,rfl,SqT.of e2,rfl,_,_,rfl,_,_,rfl,rfl,?_⟩;cases lo<;>cases lo2<;>cases hi<;>cases hi2
 all_goals
  refine⟨_,rfl,_,rfl,?_⟩
  first
   | refine Ii ?_
   | (refine Ig ⟨_,rfl,_,rfl,?_⟩;first | refine Ig ?_ | refine Ii ⟨_,rfl,_,rfl,_,_,rfl,rfl,?_⟩)
  refine⟨_,rfl,_,rfl,?_⟩
  first
   | refine Ii ?_
   | (refine Ig ⟨_,rfl,_,rfl,?_⟩;first | refine Ig ?_ | refine Ii ⟨_,rfl,_,rfl,_,_,rfl,rfl,?_⟩)
  refine⟨_,rfl,_,rfl,?_⟩
  first
   | exact Ig q
   | exact Ii ⟨_,rfl,q⟩
   | exact IR (λh=>⟨_,rfl,by rw[JT,KR,h] at q;exact q⟩) (λh=>by rw[JT,KR,EZ.mpr h] at q;exact q)
theorem zhq(F:Fun K "is_field" "is_field" OX f fd)  :FnOk P w K mg base IC 1 f fd ["thing"] (OG):=by
 refine F.ok zg2 (λvs H Q E h=>?_) (λcdv A outer s H vs Q E hr h=>?_)
 · obtain⟨x,rfl,F1,q⟩:=h;rfl
 obtain⟨x,rfl,F1,q⟩:=h;refine⟨_,(Ik (IL (PW.pt (Ky (J9 (Jz (IB (Kc (n:="")) rfl B.isinstance_ JM (Ic (pv 0) (Ic (JD (v:= .ty "str") rfl B.str_ P6 rfl) Ie))))) (K2 (J9 (YA Lq Lq Ih (IB VY rfl B.len_ IW (Ic (pv 0) Ie)) (MS (v:= .int 8) rfl qML' ⟨_,rfl⟩)))))) (Im (Iz J0)) IN)
  (Im (Iz (IB (Mw rfl) rfl B.all_ Mu (Ic (JZ (N':=["sign"]) (js:=[none]) rfl (Jq (N:=["thing"]) (outer:=Iu OX) (by decide+kernel)) (XB (pv 0)) (λ_ _ _ _ _=>(Iv (i:=0) RE rfl (Or.inl rfl))) (λ_ _ _ _ _=>Kn) (λ_ _ _ _ _=>(Qf UU UU No (pv 0) No))) Ie))))),?_⟩
 have l1:(1:Int)≤(x.length:Int):=by have:=F1.one;omega
 have l8:(x.length:Int)≤8:=by have:=F1.eight;omega
 refine⟨_,rfl,_,"str","str",true,rfl,.str x,rfl,_,rfl,Ig ⟨_,rfl,x,rfl,Lr (by have:=F1.eight;omega),_,_,rfl,rfl,_,rfl,?_⟩⟩;rw[decide_eq_true l1];refine Ii ⟨_,_,rfl,rfl,_,rfl,?_⟩;rw[decide_eq_true l8];refine Ig ⟨_,rfl,x,rfl,λp hp=>?_⟩;have s0:=Iq hp (.lst []);have sl:(L2.signs x).length=x.length:=by unfold L2.signs;rw[Ab,A6];rfl
 refine XR (xs:=L2.signs x) (λi σ' ys H'=>(∃v,σ'=[v])∧Same H H'∧H' p=some (.lst ys)∧ys=AL i (V.bl true)) ⟨⟨none,rfl⟩,s0,Ij,rfl⟩ ?_ ?_ ?_
 · rintro i σ' ys H' hi ⟨_,_,h1,h2⟩;refine⟨h1,?_⟩;rw[h2,Bz];have:=F1.eight;exact Je (by omega)
 · rintro i y σ' ys H' N hy ⟨⟨v,rfl⟩,s,h1,h2⟩ hN;unfold L2.signs at hy;rw[Aj] at hy;cases hc:x.cps.toList[i]? with
   | none=>rw[hc] at hy;cases hy
   | some c=>
    rw[hc] at hy;obtain rfl:V.str ⟨#[c]⟩=y:=AD hy;have ok:=F1.all c (Ak hc);refine⟨_,rfl,_,_,rfl,rfl,_,rfl,?_⟩;rw[RQ ok];refine Ii ⟨_,_,rfl,rfl,?_⟩;rw[RI ok];refine⟨h1,hN _ _ _ ⟨⟨_,rfl⟩,?_,Ij,by rw[h2];exact BS.symm⟩⟩;intro b o q';have:b≠p:=λz=>by rw[z,hp] at q';cases q'
    rw[Iy this];exact s b o q'
 · rintro σ' ys H' ⟨_,s,h1,h2⟩;refine⟨p,AL (L2.signs x).length true,rfl,SqL.of (by rw[h1,h2,CK]),?_⟩;have:(AL (L2.signs x).length true).all id=true:=by simp
   rw[this];exact q H' s
theorem zeA(F:Fun K "is_wish_part" "is_wish_part" Re f fd)(GV:Γ4 P w K mg base)(GW:Γ2 P w K mg base):FnOk P w K mg base IC 4 f fd ["thing"] (VS):=by
 refine F.ok Gr (λvs H Q E h=>?_) (λcdv A outer s H vs Q E hr h=>?_)
 · obtain⟨p,f,lo,hi,rfl,hp,F1,hle,q⟩:=h;rfl
 obtain⟨p,f,lo,hi,rfl,hp,F1,hle,q⟩:=h;refine⟨_,(Ik (IL (PW.pt (Ky (J9 (Jz (IB (Kc (n:="")) rfl B.isinstance_ JM (Ic (pv 0) (Ic (JD (v:= .ty "tuple") rfl B.tuple_ LY rfl) Ie))))) (K2 (IG L5 (IB Jb rfl B.len_ IW (Ic (pv 0) Ie)) Ih (IK _))))) (Im (Iz J0)) IN)
  (Ik (Kf (pv 0) (JL rfl (ID (Iv (i:=1) Gr.nd rfl (Or.inl rfl)) (ID (Iv (i:=2) Gr.nd rfl (Or.inl rfl)) (ID (Iv (i:=3) Gr.nd rfl (Or.inl rfl)) J3)))))
  (Im (Iz (Kl (Ip GV (hr.mono (by decide)) rfl (Ic (pv 1) Ie)) (J_ (Ip GW (hr.mono (by decide)) rfl (Ic (Jw (Ic (pv 2) (Ic (pv 3) Ie))) Ie)))))))),?_⟩
 refine⟨_,rfl,_,"tuple","tuple",true,rfl,.tup hp,rfl,_,rfl,Ig ⟨_,rfl,p,_,rfl,.inr (SqT.of hp),rfl,_,rfl,?_⟩⟩;refine Ig ⟨_,rfl,p,_,rfl,SqT.of hp,rfl,_,_,rfl,_,_,rfl,_,_,rfl,rfl,?_⟩;refine⟨_,rfl,f,rfl,F1,λH1 s1=>⟨_,rfl,Ii ⟨_,rfl,_,rfl,Ja,λt ht=>?_⟩⟩⟩;have S:SpanAt (upd H1 t (.tup [eV lo,eV hi])) (.ref t) lo hi:=⟨t,rfl,Ij⟩;refine⟨.ref t,"tuple",rfl,S.ty.1,S.ty.2,?_⟩;rw[Zq S,hle];exact q _ (s1.trans (Iq ht _))
theorem zd2(F:Fun K "fields_ascend" "fields_ascend" Pb f fd)  :FnOk P w K mg base IC 1 f fd ["parts"] (U7):=by
 refine F.ok zdY (λvs H Q E h=>?_) (λcdv A outer s H vs Q E hr h=>?_)
 · obtain⟨a,ps,rfl,ha,hl,hp,hlt,q⟩:=h;rfl
 obtain⟨a,ps,rfl,ha,hl,hp,hlt,q⟩:=h;refine⟨_,(Im (Iz (IB (Mw rfl) rfl B.all_ Mu (Ic (JZ (N':=["ahead","behind"]) (js:=[none,none]) rfl (Jq (N:=["parts"]) (outer:=Iu Pb) (by decide+kernel)) (XC rfl B.zip_ (Ic (pv 0) (Ic (KW Um (pv 0) (Lc Ih) Lb) Ie))) (λ_ _ _ _ _=>(MT K rfl (n:=2) rfl (ID (Iv (i:=0) Om rfl (Or.inl rfl)) (ID (Iv (i:=1) Om rfl (Or.inl rfl)) J3)))) (λ_ _ _ _ _=>Kn) (λ_ _ _ _ _=>(Lz zj2 (IE (PH K rfl) (pv 0) Ih (λ_ _=>rfl)) (IE (PH K rfl) (pv 1) Ih (λ_ _=>rfl)) (IK _)))) Ie)))),?_⟩;refine⟨_,rfl,_,rfl,_,rfl,?_⟩;dsimp only[Ua];refine Yh (SqT.of ha) λp1 H1 s1 q1=>?_;refine⟨a,p1,rfl,⟨_,s1.seqT (SqT.of ha)⟩,⟨_,q1⟩,λp hp'=>?_⟩;have s0:=Iq hp' (.lst []);have ld:((ps.map λp=>V.ref p.1).drop 1).length=ps.length - 1:=by rw[Dw,Ab]
 refine XU (n:=ps.length - 1) (xs:=ps.map λp=>V.ref p.1) (ys:=(ps.map λp=>V.ref p.1).drop 1) (by rw[Ab];omega) (by rw[ld];exact Af _) (.inr (by rw[ld];exact Af _))
  (λi σ' ys H'=>(∃v w,σ'=[v,w])∧Same H1 H'∧H' p=some (.lst ys)∧ys=AL i (V.bl true)) ⟨⟨none,none,rfl⟩,s0,Ij,rfl⟩ ?_ ?_ ?_
 · rintro i σ' zs H' hi ⟨_,s,h1,h2⟩;refine⟨(s1.trans s).seqT (SqT.of ha),s.seqT q1,h1,?_⟩;rw[h2,Bz];exact Je (by omega)
 · rintro i x y σ' zs H' r N hx hy hr' ⟨⟨v,w',rfl⟩,s,h1,h2⟩ hN;rw[Aj] at hx;rw[EK,Aj,Nat.add_comm] at hy;cases e1:ps[i]? with
   | none=>rw[e1] at hx;cases hx
   | some P1=>
    cases e2:ps[i+1]? with
    | none=>rw[e2] at hy;cases hy
    | some P2=>
     rw[e1] at hx;rw[e2] at hy;obtain rfl:V.ref P1.1=x:=AD hx;obtain rfl:V.ref P2.1=y:=AD hy;have s3:=Iq hr' (.tup [V.ref P1.1,V.ref P2.1]);have t3:=(s1.trans s).trans s3;have f1:=t3 _ _ (hp P1 (Ak e1));have f2:=t3 _ _ (hp P2 (Ak e2));refine⟨r,_,rfl,SqT.of Ij,rfl,_,_,rfl,_,_,rfl,rfl,?_⟩;refine⟨_,rfl,P1.1,_,0,_,rfl,rfl,SqT.of f1,RU,_,rfl,P2.1,_,0,_,rfl,rfl,SqT.of f2,RU,_,_,rfl,rfl,?_⟩;rw[decide_eq_true (show P1.2.1.cps.toList<P2.2.1.cps.toList from hlt i P1 P2 e1 e2)];refine⟨s3 _ _ h1,hN _ _ _ ⟨⟨_,_,rfl⟩,?_,Ij,by rw[h2];exact BS.symm⟩⟩;intro b o q';have:b≠p:=λz=>by rw[z,hp'] at q';cases q'
     rw[Iy this];exact s3 _ _ (s b o q')
 · rintro σ' zs H' ⟨_,s,h1,h2⟩;refine⟨p,AL (ps.length - 1) true,rfl,SqL.of (by rw[h1,h2,CK]),?_⟩;have:(AL (ps.length - 1) true).all id=true:=by simp
   rw[this];exact q H' (s1.trans s)
theorem ziQ(F:Fun K "is_wish" "is_wish" O_ f fd)(GX:Γ6 P w K mg base)(GY:Γ5 P w K mg base):FnOk P w K mg base IC 5 f fd ["thing"] (UC):=by
 refine F.ok ziD (λvs H Q E h=>?_) (λcdv A outer s H vs Q E hr h=>?_)
 · obtain⟨a,w',rfl,hw,wok,q⟩:=h;rfl
 obtain⟨a,w',rfl,hw,wok,q⟩:=h;refine⟨_,(Ik (IL (J9 (Jz (IB (Kc (n:="")) rfl B.isinstance_ JM (Ic (pv 0) (Ic (JD (v:= .ty "tuple") rfl B.tuple_ LY rfl) Ie))))) (Im (Iz J0)) IN)
  (Im (Iz (Kl (IB (Mw rfl) rfl B.all_ Mu (Ic (JZ (N':=["part"]) (js:=[none]) rfl (Jq (N:=["thing"]) (outer:=Iu O_) (by decide+kernel)) (MM (pv 0)) (λ_ _ _ _ _=>(Iv (i:=0) RD rfl (Or.inl rfl))) (λ_ _ _ _ _=>Kn) (λ_ _ _ _ _=>(Ip GY (hr.mono (by decide)) rfl (Ic (pv 0) Ie)))) Ie)) (J_ (Ip GX (hr.mono (by decide)) rfl (Ic (pv 0) Ie))))))),?_⟩
 obtain⟨ps,rfl,hA,hP⟩:=hw;have ll:ps.length≤100:=by have:=wok.len;rw[Ab] at this;exact this
 refine⟨_,rfl,_,"tuple","tuple",true,rfl,.tup hA,rfl,_,rfl,Ig ?_⟩;refine⟨_,rfl,a,rfl,⟨_,SqT.of hA⟩,λp hp=>?_⟩;refine XT (xs:=ps.map λp=>V.ref p.1) (λi σ' ys H'=>(∃v,σ'=[v])∧Same H H'∧H' p=some (.lst ys)∧ys=AL i (V.bl true)) ⟨⟨none,rfl⟩,Iq hp _,Ij,rfl⟩ ?_ ?_ ?_
 · rintro i σ' ys H' hi ⟨_,s,h1,h2⟩;refine⟨s.seqT (SqT.of hA),h1,?_⟩;rw[h2,Bz];rw[Ab] at hi;exact Je (by omega)
 · rintro i x σ' ys H' N hx ⟨⟨v,rfl⟩,s,h1,h2⟩ hN;obtain⟨P1,e1,rfl⟩:=Jc hx;have hm:=Ak e1;obtain⟨o1,o2⟩:=wok.ok P1.2 (AF hm);refine⟨_,rfl,P1.1,P1.2.1,P1.2.2.1,P1.2.2.2,rfl,s _ _ (hP P1 hm),o1,o2,λH2 s2=>?_⟩;refine⟨s2 _ _ h1,hN _ _ _ ⟨⟨_,rfl⟩,J7 (s.trans s2) hp,Ij,by rw[h2];exact BS.symm⟩⟩
 · rintro σ' ys H' ⟨_,s,h1,h2⟩;refine⟨p,AL (ps.map λp=>V.ref p.1).length true,rfl,SqL.of (by rw[h1,h2,CK]),_,rfl,?_⟩;rw[show(AL (ps.map λp=>V.ref p.1).length true).all id=true by simp];refine Ii ⟨_,rfl,a,ps.map (λp=>(p.1,p.2.1,[eV p.2.2.1,eV p.2.2.2])),rfl,?_,by rw[Ab];exact ll,?_,?_,λH2 s2=>q H2 (s.trans s2)⟩
   · rw[BF];exact s _ _ hA
   · intro r hr;rw[Az] at hr;obtain⟨P1,hm,rfl⟩:=hr;exact s _ _ (hP P1 hm)
   · intro i r1 r2 h3 h4;rw[Aj] at h3 h4;cases e1:ps[i]? with
     | none=>rw[e1] at h3;cases h3
     | some P1=>
      cases e2:ps[i+1]? with
      | none=>rw[e2] at h4;cases h4
      | some P2=> rw[e1] at h3;rw[e2] at h4;obtain rfl:=AD h3;obtain rfl:=AD h4;have l2:=(Al.mp e2).1;have:=Bs.mp wok.asc i (i+1) (by simp;omega) (by simp;omega) (by omega);simp only[BQ] at this;rw[(Al.mp e1).2,(Al.mp e2).2] at this;exact this
theorem zfC(F:Fun K "check_wish" "check_wish" QP f fd)(GZ:Γ7 P w K mg base):FnOk P w K mg base IC 6 f fd ["thing"] (Vc):=by
 refine F.ok zfk (λvs H Q E h=>?_) (λcdv A outer s H vs Q E hr h=>?_)
 · obtain⟨a,w',rfl,hw,wok,q⟩:=h;rfl
 obtain⟨a,w',rfl,hw,wok,q⟩:=h;refine⟨_,(Im (IL (J9 (Jz (Ip GZ (hr.mono (by decide)) rfl (Ic (pv 0) Ie)))) (Im My) IN)),?_⟩;exact⟨_,rfl,a,w',rfl,hw,wok,λH' s=>⟨_,rfl,Ig (q H' s)⟩⟩
theorem zfD(F:Fun K "are_wishes" "are_wishes" Pd f fd)(GZ:Γ7 P w K mg base):FnOk P w K mg base IC 6 f fd ["thing"] (TK):=by
 refine F.ok zfl (λvs H Q E h=>?_) (λcdv A outer s H vs Q E hr h=>?_)
 · obtain⟨l,ws,rfl,hw,q⟩:=h;rfl
 obtain⟨l,ws,rfl,hw,q⟩:=h;refine⟨_,(Im (Iz (Kl (IB (Kc (n:="")) rfl B.isinstance_ JM (Ic (pv 0) (Ic (JD (v:= .ty "list") rfl B.list_ K6 rfl) Ie))) (J_ (IB (Mw rfl) rfl B.all_ Mu (Ic (JZ (N':=["wish"]) (js:=[none]) rfl (Jq (N:=["thing"]) (outer:=Iu Pd) (by decide+kernel)) (Jx (pv 0)) (λ_ _ _ _ _=>(Iv (i:=0) RC rfl (Or.inl rfl))) (λ_ _ _ _ _=>Kn) (λ_ _ _ _ _=>(Ip GZ (hr.mono (by decide)) rfl (Ic (pv 0) Ie)))) Ie)))))),?_⟩;have hA:=hw.at';refine⟨_,rfl,_,"list","list",true,rfl,.lst hA,rfl,_,rfl,Ii ?_⟩;refine⟨_,rfl,l,rfl,⟨_,SqL.of hA⟩,λp hp=>?_⟩;refine Lx (xs:=ws.map λx=>V.ref x.1) (λi σ' ys H'=>(∃v,σ'=[v])∧Same H H'∧H' p=some (.lst ys)∧ys=AL i (V.bl true)) ⟨⟨none,rfl⟩,Iq hp _,Ij,rfl⟩ ?_ ?_ ?_
 · rintro i σ' ys H' hi ⟨_,s,h1,h2⟩;refine⟨s.seq (SqL.of hA),h1,?_⟩;rw[h2,Bz];rw[Ab] at hi;have:=hw.len;exact Je (by omega)
 · rintro i x σ' ys H' N hx ⟨⟨v,rfl⟩,s,h1,h2⟩ hN;obtain⟨P1,e1,rfl⟩:=Jc hx;obtain⟨o1,o2⟩:=hw.ok P1 (Ak e1);refine⟨_,rfl,P1.1,P1.2,rfl,o1.same s,o2,λH2 s2=>?_⟩;refine⟨s2 _ _ h1,hN _ _ _ ⟨⟨_,rfl⟩,J7 (s.trans s2) hp,Ij,by rw[h2];exact BS.symm⟩⟩
 · rintro σ' ys H' ⟨_,s,h1,h2⟩;refine⟨p,AL (ws.map λx=>V.ref x.1).length true,rfl,SqL.of (by rw[h1,h2,CK]),?_⟩;rw[show(AL (ws.map λx=>V.ref x.1).length true).all id=true by simp];exact q _ s
theorem zcQ(F:Fun K "are_unlike_wishes" "are_unlike_wishes" Q_ f fd)(G_:Γ9 P w K mg base):FnOk P w K mg base IC 7 f fd ["thing"] (UG):=by
 refine F.ok zcO (λvs H Q E h=>?_) (λcdv A outer s H vs Q E hr h=>?_)
 · obtain⟨l,ws,rfl,hw,nd,le,q⟩:=h;rfl
 obtain⟨l,ws,rfl,hw,nd,le,q⟩:=h;refine⟨_,(Im (Iz (Kl (Ip G_ (hr.mono (by decide)) rfl (Ic (pv 0) Ie)) (J_ (Lz JH (ziM (Kb hr) rfl (pv 0) rfl B.len_ rfl B.set_) (IB Jb rfl B.len_ IW (Ic (pv 0) Ie)) (IK _)))))),?_⟩;refine⟨_,rfl,l,ws,rfl,hw,λH1 s1=>?_⟩;have hw1:=hw.same s1;refine⟨_,rfl,Ii ?_⟩;refine⟨_,rfl,l,ws,rfl,hw1,nd,le,_,rfl,l,_,rfl,.inl (SqL.of hw1.at'),rfl,?_⟩;rw[Ab,decide_eq_true rfl];exact q H1 s1
theorem zdH(F:Fun K "spans_by_field" "spans_by_field" Pc f fd)  :FnOk P w K mg base IC 1 f fd ["wish"] (Vh):=by
 refine F.ok zdj (λvs H Q E h=>?_) (λcdv A outer s H vs Q E hr h=>?_)
 · obtain⟨a,w',rfl,hw,wok,q⟩:=h;rfl
 obtain⟨a,w',rfl,hw,wok,q⟩:=h;refine⟨_,(Im (Iz (WX (N':=["field","low","high"]) (js:=[none,none,none]) rfl (Jq (N:=["wish"]) (outer:=Iu Pc) (by decide+kernel)) (MM (pv 0)) (λ_ _ _ _ _=>(MT K rfl (n:=3) rfl (ID (Iv (i:=0) M5 rfl (Or.inl rfl)) (ID (Iv (i:=1) M5 rfl (Or.inl rfl)) (ID (Iv (i:=2) M5 rfl (Or.inl rfl)) J3))))) (λ_ _ _ _ _=>Kn) (λ_ _ _ _ _=>(pv 0)) (λ_ _ _ _ _=>(Jw (Ic (pv 1) (Ic (pv 2) Ie))))))),?_⟩;obtain⟨ps,rfl,hA,hP⟩:=hw;have ll:ps.length≤100:=by have:=wok.len;rw[Ab] at this;exact this
 refine⟨_,rfl,a,rfl,⟨_,SqT.of hA⟩,λd hd=>?_⟩;refine W9 (xs:=ps.map λp=>V.ref p.1) (λi σ' kvs H'=>(∃v1 v2 v3,σ'=[v1,v2,v3])∧Same H H'∧H' d=some (.dK kvs)∧kvs.length≤i∧∀f:Str,match Jt ((ps.map (·.2)).take i) f with
  | none=>IQ kvs (.inr f)=none
  | some s=>∃t,IQ kvs (.inr f)=some (.ref t)∧H' t=some (.tup [eV s.1,eV s.2])) ⟨⟨none,none,none,rfl⟩,Iq hd _,Ij,AI _,λf=>rfl⟩ ?_ ?_ ?_
 · rintro i σ' kvs H' hi ⟨_,s,h1,h2,_⟩;rw[Ab] at hi;exact⟨s.seqT (SqT.of hA),h1,Je (by omega)⟩
 · rintro i x σ' kvs H' N hx ⟨⟨v1,v2,v3,rfl⟩,s,h1,h2,h3⟩ hN;obtain⟨P1,e1,rfl⟩:=Jc hx;have hm:=Ak e1;refine⟨P1.1,_,rfl,SqT.of (s _ _ (hP P1 hm)),rfl,_,_,rfl,_,_,rfl,_,_,rfl,rfl,?_⟩;refine⟨_,rfl,_,rfl,_,rfl,Ja,λu hu=>?_⟩;have su:=Iq hu (.tup [eV P1.2.2.1,eV P1.2.2.2]);have eu:(upd H' u (.tup [eV P1.2.2.1,eV P1.2.2.2])) u=some (.tup [eV P1.2.2.1,eV P1.2.2.2]):=Ij;have h1':=su _ _ h1;generalize upd H' u (.tup [eV P1.2.2.1,eV P1.2.2.2])=H2 at*;have du:u≠d:=Nl eu h1' (by intro z;cases z);refine⟨Sum.inr P1.2.1,rfl,h1',hN _ _ _ ⟨⟨_,_,_,rfl⟩,J7 (s.trans su) hd,Ij,?_,λf=>?_⟩⟩
   · have:=VM kvs (Sum.inr P1.2.1:IT) (V.ref u);omega
   · have ew:(ps.map (·.2))[i]?=some P1.2:=by rw[Aj,e1];rfl
     have fr:=wok.fresh ew;rw[JI ew,zgX _ _ _ fr,Z7];by_cases hf:f=P1.2.1
     · subst hf;rw[if_pos rfl,if_pos rfl];exact⟨u,rfl,by rw[Iy du];exact eu⟩
     · rw[if_neg hf,if_neg (λz=>hf (by injection z))];have:=h3 f;cases hs:Jt ((ps.map (·.2)).take i) f with
       | none=>rw[hs] at this;exact this
       | some sp=> rw[hs] at this;obtain⟨t,t1,t2⟩:=this;exact⟨t,t1,by rw[Iy (Nl (su _ _ t2) h1' (by intro z;cases z))];exact su _ _ t2⟩
 · rintro σ' kvs H' ⟨_,s,h1,h2,h3⟩;have et:(ps.map (·.2)).take (ps.map λp=>V.ref p.1).length=ps.map (·.2):=AX (by simp);refine q d H' s hd ⟨kvs,h1,by simpa using h2,λf=>?_⟩;have:=h3 f;rw[et] at this;exact this
theorem zd1(F:Fun K "reaches_spans" "reaches_spans" Rb f fd)(Ha:Γ3 P w K mg base):FnOk P w K mg base IC 2 f fd ["one","other_spans"] (Vg):=by
 refine F.ok Gs (λvs H Q E h=>?_) (λcdv A outer s H vs Q E hr h=>?_)
 · obtain⟨a,d,w',w2,rfl,hw,hd,q⟩:=h;rfl
 obtain⟨a,d,w',w2,rfl,hw,hd,q⟩:=h;refine⟨_,(Ik (JS AO rfl (MM (pv 0)) (JL rfl (ID (Iv (i:=2) Gs.nd rfl (Or.inl rfl)) (ID (Iv (i:=3) Gs.nd rfl (Or.inl rfl)) (ID (Iv (i:=4) Gs.nd rfl (Or.inl rfl)) J3)))) (Im (IL (PW.pt (Ky (Lu (zj1 (Sh hr) (pv 2) (pv 1)) (by with_unfolding_all rfl)) (K2 (J9 (Jz (Ip Ha (hr.mono (by decide)) rfl (Ic (Jw (Ic (pv 3) (Ic (pv 4) Ie))) (Ic (XX (Sh hr) (pv 1) (pv 2) (λ_ _=>rfl)) Ie)))))))) (Im (Iz J0)) IN)))
  (Im (Iz J0))),?_⟩
 obtain⟨ps,rfl,hA,hP⟩:=hw
 let Pv1:Nat→L2.St→Hp→Prop:=λi σ H'=>(∃y2 y3 y4,σ=[some (.ref a),some (.ref d),y2,y3,y4])∧Same H H'∧II ((ps.map (·.2)).take i) w2=true
 refine⟨_,rfl,a,rfl,⟨_,SqT.of hA⟩,OI (K:=K) (a:=a) (xs:=ps.map λp=>V.ref p.1) Pv1 ⟨⟨none,none,none,rfl⟩,Same.refl _,rfl⟩ (λi σ H' _ ⟨_,s,_⟩=>s.seqT (SqT.of hA)) ?_ ?_⟩
 · rintro i x σ H' hx ⟨⟨y2,y3,y4,rfl⟩,s,hr'⟩;obtain⟨P1,e1,rfl⟩:=Jc hx;have hm:=Ak e1;have ew:(ps.map (·.2))[i]?=some P1.2:=by rw[Aj,e1];rfl
   obtain⟨kvs,k1,k2,k3⟩:=hd.same s;have kf:=k3 P1.2.1;refine⟨P1.1,_,rfl,SqT.of (s _ _ (hP P1 hm)),rfl,_,_,rfl,_,_,rfl,_,_,rfl,rfl,?_⟩;have out:L9 w2 P1.2=false→II (ps.map (·.2)) w2=false:=λh=>by unfold II;rw[List.all_eq_false];exact⟨P1.2,AF hm,by rw[h];exact Ar⟩
   refine⟨_,rfl,_,rfl,d,_,rfl,DGet.k (k:=Sum.inr P1.2.1) k1,_,rfl,?_⟩;cases hs:Jt w2 P1.2.1 with
   | none=> rw[hs] at kf;rw[kf];refine Ii ?_;have o1:=out (VD hs);rw[o1] at q;exact q _ s
   | some sp=>
    rw[hs] at kf;obtain⟨t,t1,t2⟩:=kf;rw[t1];refine Ig ⟨_,rfl,_,rfl,Ja,λu hu=>?_⟩;have su:=Iq hu (.tup [eV P1.2.2.1,eV P1.2.2.2]);have gd:DGet (upd H' u (.tup [eV P1.2.2.1,eV P1.2.2.2])) d (.str P1.2.1) (some (.ref t)):=by have:=DGet.k (k:=Sum.inr P1.2.1) (su _ _ k1);rw[t1] at this;exact this
    refine⟨_,rfl,_,rfl,d,_,rfl,gd,.ref u,.ref t,P1.2.2.1,P1.2.2.2,sp.1,sp.2,rfl,⟨u,rfl,Ij⟩,⟨t,rfl,su _ _ t2⟩,_,rfl,?_⟩;cases hb:JT P1.2.2.1 P1.2.2.2 sp.1 sp.2 with
    | false=> refine Ii ?_;have o1:=out ((QX hs).trans hb);rw[o1] at q;exact q _ (s.trans su)
    | true=> refine Ig ⟨⟨_,_,_,rfl⟩,s.trans su,?_⟩;rw[JI ew];unfold II at*;rw[List.all_append,hr',Bool.true_and,C9,List.all_nil,QX hs,hb];rfl
 · rintro σ H' ⟨_,s,hr'⟩;rw[show(ps.map (·.2)).take (ps.map λp=>V.ref p.1).length=ps.map (·.2) from AX (by simp)] at hr';rw[hr'] at q;exact q _ s
theorem zex(F:Fun K "wish_reaches" "wish_reaches" Rg f fd)(Hb:Γ12 P w K mg base)(Hc:Γ11 P w K mg base):FnOk P w K mg base IC 3 f fd ["one","other"] (VG):=by
 refine F.ok zei (λvs H Q E h=>?_) (λcdv A outer s H vs Q E hr h=>?_)
 · obtain⟨a,b,w',w2,rfl,hw,hw2,wok,q⟩:=h;rfl
 obtain⟨a,b,w',w2,rfl,hw,hw2,wok,q⟩:=h;refine⟨_,(Im (Iz (Ip Hb (hr.mono (by decide)) rfl (Ic (pv 0) (Ic (Ip Hc (hr.mono (by decide)) rfl (Ic (pv 1) Ie)) Ie))))),?_⟩;exact⟨_,rfl,_,rfl,b,w2,rfl,hw2,wok,λd H1 s1 n1 D1=>⟨a,d,w',w2,rfl,hw.same s1,D1,λH2 s2=>q H2 (s1.trans s2)⟩⟩
theorem ziT(F:Fun K "is_name" "is_name" Qv f fd)(GV:Γ4 P w K mg base):FnOk P w K mg base IC 2 f fd ["thing"] (OG):=by
 refine F.ok ziF (λvs H Q E h=>?_) (λcdv A outer s H vs Q E hr h=>?_)
 · obtain⟨x,rfl,hx,q⟩:=h;rfl
 obtain⟨x,rfl,hx,q⟩:=h;refine⟨_,(Im (Iz (Ip GV (hr.mono (by decide)) rfl (Ic (pv 0) Ie)))),?_⟩;exact⟨_,rfl,x,rfl,hx,λH' s=>q H' s⟩
theorem zho(F:Fun K "is_under" "is_under" Q7 f fd)(Hc:Γ11 P w K mg base)(Hb:Γ12 P w K mg base):FnOk P w K mg base IC 3 f fd ["wish","others"] (UF):=by
 refine F.ok Gu (λvs H Q E h=>?_) (λcdv A outer s H vs Q E hr h=>?_)
 · obtain⟨a,l,w',ws,rfl,hw,wok,hl,q⟩:=h;rfl
 obtain⟨a,l,w',ws,rfl,hw,wok,hl,q⟩:=h;refine⟨_,(Ik (I0 (i:=2) Gu.nd rfl (Or.inl rfl) (Ip Hc (hr.mono (by decide)) rfl (Ic (pv 0) Ie)))
  (Ik (JS AO rfl (Jx (pv 1)) (Iv (i:=3) Gu.nd rfl (Or.inl rfl)) (Im (IL (PW.pt (Mr (Jz (Ip Hb (hr.mono (by decide)) rfl (Ic (pv 3) (Ic (pv 2) Ie)))) (M1 (IG (O9 (Kb hr)) (pv 3) (pv 0) (IK _))))) (Im (Iz J0)) IN)))
  (Im (Iz J0)))),?_⟩
 have ev:(!Kj (ws.map (·.2)) w')=ws.any λk=>II k.2 w' && !decide (k.2=w'):=by unfold Kj;rw[Bool.not_not,C8];rfl
 rw[ev] at q;clear ev;refine⟨_,rfl,a,w',rfl,hw,wok,λsd H1 s1 hsd D1=>?_⟩;have hA:=hl.at'
 let Pv2:Nat→L2.St→Hp→Prop:=λi σ H'=>(∃y,σ=[some (.ref a),some (.ref l),some (.ref sd),y])∧Same H1 H'∧((ws.take i).any λk=>II k.2 w' && !decide (k.2=w'))=false
 refine⟨_,rfl,l,rfl,⟨_,SqL.of (s1 _ _ hA)⟩,Lv (K:=K) (a:=l) (xs:=ws.map λx=>V.ref x.1) Pv2 ⟨⟨none,rfl⟩,Same.refl _,rfl⟩ (λi σ H' _ ⟨_,s,_⟩=>SqL.of (s _ _ (s1 _ _ hA))) ?_ ?_⟩
 · rintro i x σ H' hx ⟨⟨y,rfl⟩,s,hr'⟩;obtain⟨K1,e1,rfl⟩:=Jc hx;have hm:=Ak e1;have w1:=((hl.ok K1 hm).1).same (s1.trans s);have step:(II K1.2 w' && !decide (K1.2=w'))=false→((ws.take (i+1)).any λk=>II k.2 w' && !decide (k.2=w'))=false:=λh=>by
    rw[JI e1,List.any_append,hr',Bool.false_or,BV,List.any_nil,h];rfl
   refine⟨_,rfl,_,rfl,K1.1,sd,K1.2,w',rfl,w1,D1.same s,λH2 s2=>⟨_,rfl,?_⟩⟩;cases rc:II K1.2 w' with
   | false=> refine Ig ⟨⟨_,rfl⟩,s.trans s2,step ?_⟩;rw[rc];rfl
   | true=>
    refine Ii ⟨_,rfl,_,rfl,dW K1.2,dW w',Kz (w1.same s2),Kz (hw.same (s1.trans (s.trans s2))),BD (M0 _) (by decide),?_⟩;rw[Ms];by_cases e:K1.2=w'
    · rw[decide_eq_true e];refine⟨_,rfl,Ig ⟨⟨_,rfl⟩,s.trans s2,step ?_⟩⟩;rw[rc,decide_eq_true e];rfl
    · rw[decide_eq_false e];refine⟨_,rfl,Ii ?_⟩;have:(ws.any λk=>II k.2 w' && !decide (k.2=w'))=true:=Cf.mpr ⟨K1,hm,by rw[rc,decide_eq_false e];rfl⟩;rw[this] at q;exact q _ (s1.trans (s.trans s2))
 · rintro σ H' ⟨_,s,hr'⟩;rw[Ab,AS] at hr';rw[hr'] at q;exact q _ (s1.trans s)
theorem zj4(F:Fun K "is_web" "is_web" OR f fd)(GT:Γ0 P w K mg base):FnOk P w K mg base IC 2 f fd ["thing"] (TL):=by
 refine F.ok ZU (λvs H Q E h=>?_) (λcdv A outer s H vs Q E hr h=>?_)
 · obtain⟨a,W,rfl,⟨ha,hW⟩,q⟩:=h;rfl
 obtain⟨a,W,rfl,⟨ha,hW⟩,q⟩:=h;refine⟨_,(Ik (IL (PW.pt (Ky (J9 (Jz (IB (Kc (n:="")) rfl B.isinstance_ JM (Ic (pv 0) (Ic (JD (v:= .ty "list") rfl B.list_ K6 rfl) Ie))))) (K2 (IG Nm (IB Jb rfl B.len_ IW (Ic (pv 0) Ie)) (MS (v:= .int 23) rfl qMR' ⟨_,rfl⟩) (IK _))))) (Im (Iz J0)) IN)
  (Im (Iz (IB (Mw rfl) rfl B.all_ Mu (Ic (JZ (N':=["at","post"]) (js:=[none,none]) rfl (Jq (N:=["thing"]) (outer:=Iu OR) (by decide+kernel)) (XY rfl B.enumerate_ (Ic (pv 0) Ie)) (λ_ _ _ _ _=>(MT K rfl (n:=2) rfl (ID (Iv (i:=0) Ob rfl (Or.inl rfl)) (ID (Iv (i:=1) Ob rfl (Or.inl rfl)) J3)))) (λ_ _ _ _ _=>Kn) (λ_ _ _ _ _=>(Kl (Ip GT (hr.mono (by decide)) rfl (Ic (pv 1) Ie)) (J_ (Qf Lq Lq Ih (pv 1) (pv 0)))))) Ie))))),?_⟩
 have h23:¬(23:Int)<((W.map V.int).length:Int):=by rw[Ab];have:=hW.1;omega
 refine⟨_,rfl,_,"list","list",true,rfl,.lst ha,rfl,_,rfl,Ig ⟨_,rfl,a,_,rfl,.inl (SqL.of ha),_,_,rfl,rfl,_,rfl,?_⟩⟩;rw[decide_eq_false h23];refine Ig ⟨_,rfl,a,rfl,⟨_,SqL.of ha⟩,λp hp=>?_⟩;have s0:=Iq hp (.lst []);refine Yu (xs:=W.map V.int) (λi σ' ys H'=>(∃v w,σ'=[v,w])∧Same H H'∧H' p=some (.lst ys)∧ys=AL i (V.bl true)) ⟨⟨none,none,rfl⟩,s0,Ij,rfl⟩ ?_ ?_ ?_
 · rintro i σ' ys H' hi ⟨_,s,h1,h2⟩;refine⟨SqL.of (s _ _ ha),h1,?_⟩;rw[h2,Bz];rw[Ab] at hi;have:=hW.1;exact Je (by omega)
 · rintro i y r σ' ys H' N hy hr' ⟨⟨v,w',rfl⟩,s,h1,h2⟩ hN;rw[Aj] at hy;cases e1:W[i]? with
   | none=>rw[e1] at hy;cases hy
   | some n=>
    rw[e1] at hy;obtain rfl:V.int n=y:=AD hy;obtain⟨n0,n1⟩:=hW.2 i n e1;have s3:=Iq hr' (.tup [V.int i,V.int n]);refine⟨r,_,rfl,SqT.of Ij,rfl,_,_,rfl,_,_,rfl,rfl,?_⟩;refine⟨_,rfl,.int n,"int",rfl,.int n,_,rfl,Ii ⟨_,rfl,_,_,rfl,rfl,_,rfl,?_⟩⟩;rw[decide_eq_true n0];refine Ii ⟨_,rfl,_,_,rfl,rfl,?_⟩;dsimp only;rw[decide_eq_true n1];refine⟨s3 _ _ h1,hN _ _ _ ⟨⟨_,_,rfl⟩,?_,Ij,by rw[h2];exact BS.symm⟩⟩;intro b o q';have:b≠p:=λz=>by rw[z,hp] at q';cases q'
    rw[Iy this];exact s3 _ _ (s b o q')
 · rintro σ' ys H' ⟨_,s,h1,h2⟩;refine⟨p,AL (W.map V.int).length true,rfl,SqL.of (by rw[h1,h2,CK]),?_⟩;have:(AL (W.map V.int).length true).all id=true:=by simp
   rw[this];exact q H' s
theorem zgB(F:Fun K "check_web" "check_web" QY f fd)(Hd:Γ16 P w K mg base):FnOk P w K mg base IC 3 f fd ["thing"] (U9):=by
 refine F.ok zgj (λvs H Q E h=>?_) (λcdv A outer s H vs Q E hr h=>?_)
 · obtain⟨a,W,rfl,hw,q⟩:=h;rfl
 obtain⟨a,W,rfl,hw,q⟩:=h;refine⟨_,(Im (IL (J9 (Jz (Ip Hd (hr.mono (by decide)) rfl (Ic (pv 0) Ie)))) (Im My) IN)),?_⟩;exact⟨_,rfl,a,W,rfl,hw,λH' s=>⟨_,rfl,Ig (q H' s)⟩⟩
theorem ziS(F:Fun K "is_post" "is_post" Qw f fd)(GT:Γ0 P w K mg base):FnOk P w K mg base IC 2 f fd ["web","thing"] (UA):=by
 refine F.ok ziE (λvs H Q E h=>?_) (λcdv A outer s H vs Q E hr h=>?_)
 · obtain⟨a,W,p,rfl,⟨ha,hW⟩,⟨p0,p1⟩,q⟩:=h;rfl
 obtain⟨a,W,p,rfl,⟨ha,hW⟩,⟨p0,p1⟩,q⟩:=h;refine⟨_,(Im (Iz (Kl (Ip GT (hr.mono (by decide)) rfl (Ic (pv 1) Ie)) (J_ (Qf Lq Lq Ih (pv 1) (IB Jb rfl B.len_ IW (Ic (pv 0) Ie))))))),?_⟩;refine⟨_,rfl,.int p,"int",rfl,.int p,_,rfl,Ii ⟨_,rfl,_,_,rfl,rfl,_,rfl,?_⟩⟩;rw[decide_eq_true p0];refine Ii ⟨_,rfl,a,_,rfl,.inl (SqL.of ha),_,_,rfl,rfl,?_⟩;dsimp only;rw[decide_eq_true (by rw[Ab];exact p1)];exact q
theorem zg9(F:Fun K "way_back" "way_back" QJ f fd)  :FnOk P w K mg base IC 1 f fd ["web","p"] (V6):=by
 refine F.ok Gv (λvs H Q E h=>?_) (λcdv A outer s H vs Q E hr h=>?_)
 · obtain⟨a,W,p,rfl,⟨ha,hW⟩,hp,q⟩:=h;rfl
 obtain⟨a,W,p,rfl,⟨ha,hW⟩,hp,q⟩:=h;refine⟨_,(Ik (I0 (i:=2) Gv.nd rfl (Or.inl rfl) (Js (Ic (pv 1) Ie)))
  (Ik (UL AO (IG Nm (IE IV (pv 2) (Ps PB Ih) (λ_ _=>rfl)) Ih (IK _)) (Im (K0 (KE AU Bf Bh Ld (pv 2) (Ic (IE IV (pv 0) (Iw Mq (IE IV (pv 2) (Ps PB Ih) (λ_ _=>rfl)) Ih) (λ_ _=>rfl)) Ie)))))
  (Im (Iz (pv 2))))),?_⟩
 refine⟨_,rfl,LQ,λl hl=>?_⟩;have s0:=Iq hl (.lst [V.int p])
 let Pv4:Nat→L2.St→Hp→Prop:=λm σ H1=>∃pre x,σ=[some (.ref a),some (.int p),some (.ref l)]∧Same H H1∧H1 l=some (.lst ((pre++[x]).map V.int))∧WB.Post W x∧WB.bk W p=pre++WB.bk W x∧m=x.toNat
 let Pv3:L2.St→Hp→Prop:=λσ H1=>σ=[some (.ref a),some (.int p),some (.ref l)]∧Same H H1∧H1 l=some (.lst ((WB.bk W p).map V.int))
 refine VI Pv4
  Pv3 ?_ ?_ ?_
 · exact⟨_,[],p,rfl,s0,Ij,hp,rfl,rfl⟩
 · rintro m σ H1 Z ⟨pre,x,rfl,s1,e1,hx,eb,rfl⟩ hZ;have hlast:Jp ((pre++[x]).map V.int) (-1)=some (.int x):=Xq _ _;refine⟨_,rfl,_,rfl,l,_,_,_,rfl,rfl,SqL.of e1,hlast,_,_,rfl,rfl,_,rfl,IR (λh=>?_) (λh=>?_)⟩
   · have h0:0<x:=of_decide_eq_true h;have lt:=WB.par_lt hW hx h0;refine⟨λσ H2=>∃pre y,σ=[some (.ref a),some (.int p),some (.ref l)]∧Same H H2∧H2 l=some (.lst ((pre++[y]).map V.int))∧WB.Post W y∧WB.bk W p=pre++WB.bk W y∧y.toNat<x.toNat,?_,?_⟩
     · rintro σ' H' ⟨pre',y,r1,r2,r3,r4,r5,r6⟩;exact⟨_,r6,pre',y,r1,r2,r3,r4,r5,rfl⟩
     · have at1:Jp (W.map V.int) (x - 1)=some (.int (WB.par W x)):=by
        obtain⟨k,hk⟩:=Cj (show 0≤x - 1 by omega);have:=WB.par_at hx h0;rw[hk] at this ⊢;exact JN (by rw[Aj];rw[show((k:Int)).toNat=k from rfl] at this;rw[this];rfl)
       have len:((pre++[x]).map V.int).length<A1:=by have h1:=WB.bk_len hW hp;rw[eb,Aw] at h1;obtain⟨t,et⟩:=WB.bk_cons hW hx;rw[et,AB] at h1;rw[Ab,Aw,CN];exact Je (by omega)
       refine⟨_,rfl,.inl ⟨rfl,_,SqL.of e1⟩,_,rfl,_,rfl,_,rfl,l,_,_,_,rfl,rfl,SqL.of e1,hlast,_,_,rfl,rfl,a,_,_,_,rfl,rfl,SqL.of (s1 _ _ ha),at1,l,_,_,rfl,rfl,e1,len,?_⟩;refine⟨pre++[x],WB.par W x,rfl,?_,?_,WB.par_post hW hx h0,?_,by omega⟩
       · intro b o hb;rw[Iy (J2 hb hl)];exact s1 _ _ hb
       · rw[Ij,Ao,Ao,Ao];rfl
       · rw[eb,WB.bk_pos hW hx h0,BI];rfl
   · have h0:x=0:=by have:=hx.1;have:¬ 0<x:=λz=>h (decide_eq_true z);omega
     subst h0;refine hZ _ _ ⟨rfl,s1,?_⟩;rw[eb,WB.bk_zero];exact e1
 · rintro σ H1 ⟨rfl,s1,e1⟩;exact⟨_,rfl,q l H1 s1 hl e1⟩
theorem zeV(F:Fun K "way_between" "way_between" NK f fd)(He:Γ19 P w K mg base):FnOk P w K mg base IC 2 f fd ["web","p","q"] (Sy):=by
 refine F.ok Gw (λvs H Q E h=>?_) (λcdv A outer s H vs Q E hr h=>?_)
 · obtain⟨a,W,p,q',rfl,⟨ha,hW⟩,hp,hq,q⟩:=h;rfl
 obtain⟨a,W,p,q',rfl,⟨ha,hW⟩,hp,hq,q⟩:=h;refine⟨_,(Ik (I0 (i:=3) Gw.nd rfl (Or.inr rfl) (Ip He (hr.mono (by decide)) rfl (Ic (pv 0) (Ic (pv 1) Ie))))
  (Ik (I0 (i:=4) Gw.nd rfl (Or.inr rfl) (Ip He (hr.mono (by decide)) rfl (Ic (pv 0) (Ic (pv 2) Ie))))
  (Ik (LX (N':=["post","back_from_q"]) (js:=[none,some 4]) (i:=5) Gw.nd rfl (Or.inl rfl) rfl (Jq (N:=["web","p","q","back_from_p","back_from_q","ahead","behind","turn"]) (outer:=Iu NK) (by decide+kernel)) (Jx (pv 3)) (λ_ _ _ _ _=>(Iv (i:=0) RB rfl (Or.inl rfl))) (λ_ _ _ _ _=>Ks (IG (UV K rfl) (pv 0) (pv 1) (by with_unfolding_all rfl))) (λ_ _ _ _ _=>(pv 0)))
  (Ik (LX (N':=["post","back_from_p"]) (js:=[none,some 3]) (i:=6) Gw.nd rfl (Or.inl rfl) rfl (Jq (N:=["web","p","q","back_from_p","back_from_q","ahead","behind","turn"]) (outer:=Iu NK) (by decide+kernel)) (Jx (pv 4)) (λ_ _ _ _ _=>(Iv (i:=0) RA rfl (Or.inl rfl))) (λ_ _ _ _ _=>Ks (IG (UV K rfl) (pv 0) (pv 1) (by with_unfolding_all rfl))) (λ_ _ _ _ _=>(pv 0)))
  (Ik (I0 (i:=7) Gw.nd rfl (Or.inl rfl) (IE IV (pv 3) (IB Jb rfl B.len_ IW (Ic (pv 5) Ie)) (λ_ _=>rfl)))
  (Im (Iz (Iw LV (Iw LV (pv 5) (Js (Ic (pv 7) Ie))) (X8 (pv 6)))))))))),?_⟩
 refine⟨_,rfl,_,rfl,a,W,p,rfl,⟨ha,hW⟩,hp,λlp H1 s1 n1 e1=>?_⟩;refine⟨_,rfl,_,rfl,a,W,q',rfl,⟨s1 _ _ ha,hW⟩,hq,λlq H2 s2 n2 e2=>?_⟩;have e1':=s2 _ _ e1;refine⟨_,rfl,lp,rfl,⟨_,SqL.of e1'⟩,λla hla=>?_⟩;refine OJ (cap:=[some (.ref lq)]) (WB.bk W p) (λx=>x) (WB.off (WB.bk W q')) (A4 (WB.bk_len hW hp) (by decide)) (SqL.of e1') hla rfl ?_ ?_ ?_
 · exact λn H' R s r=>⟨_,rfl,_,rfl,QM (SqL.of (s _ _ e2)) ⟨_,rfl,r⟩⟩
 · exact λn H' R s r=>⟨_,rfl,r⟩
 intro H3 s3 e3;have t3:=s2.trans s3;have e2':=s3 _ _ e2;refine⟨_,rfl,lq,rfl,⟨_,SqL.of e2'⟩,λlb hlb=>?_⟩;refine OJ (cap:=[some (.ref lp)]) (WB.bk W q') (λx=>x) (WB.off (WB.bk W p)) (A4 (WB.bk_len hW hq) (by decide)) (SqL.of e2') hlb rfl ?_ ?_ ?_
 · exact λn H' R s r=>⟨_,rfl,_,rfl,QM (SqL.of (s _ _ (t3 _ _ e1))) ⟨_,rfl,r⟩⟩
 · exact λn H' R s r=>⟨_,rfl,r⟩
 intro H4 s4 e4;rw[List.map_id'] at e3 e4;have t4:=t3.trans s4;have e3':=s4 _ _ e3;obtain⟨c,va,vb,sp⟩:=WB.split hW hq p hp
 have ea:=sp.ahead;have eb:=sp.flip.ahead;have lA:va.length≤24:=by rw[←ea];exact A4 (AC _ _) (WB.bk_len hW hp)
 have lB:vb.length≤24:=by rw[←eb];exact A4 (AC _ _) (WB.bk_len hW hq)
 rw[ea] at e3 e3';rw[eb] at e4;have hturn:Jp ((WB.bk W p).map V.int) (((va.map V.int).length:Nat):Int)=some (.int c):=JN (by rw[Ab,Aj,sp.turn hW];rfl);refine⟨_,rfl,_,rfl,la,_,rfl,.inl (SqL.of e3'),lp,_,_,_,rfl,rfl,SqL.of (t4 _ _ e1),hturn,?_⟩;refine⟨_,rfl,_,rfl,LQ,λl1 hl1=>?_⟩;have s5:=Iq hl1 (.lst [V.int c]);refine⟨la,l1,_,_,rfl,rfl,s5 _ _ e3',Ij,(by rw[Ab];exact Lr (by simp;omega)),λl2 hl2=>?_⟩;have s6:=Iq hl2 (.lst (va.map V.int++[V.int c]));refine⟨_,rfl,lb,_,rfl,SqL.of (s6 _ _ (s5 _ _ e4)),λl3 hl3=>?_⟩;have s7:=Iq hl3 (.lst (vb.map V.int).reverse);refine⟨l2,l3,_,_,rfl,rfl,s7 _ _ Ij,Ij,(by simp only[Aw,Ab,E4,CN];exact Lr (by omega)),λl4 hl4=>?_⟩;have s8:=Iq hl4 (.lst ((va.map V.int++[V.int c])++(vb.map V.int).reverse));have t8:Same H _:=s1.trans (t4.trans (s5.trans (s6.trans (s7.trans s8))));refine q l4 _ t8 ?_ ?_
 · cases hz:H l4 with
   | none=>rfl
   | some o=>exact absurd ((s1.trans (t4.trans (s5.trans (s6.trans s7)))) _ _ hz) (by rw[hl4];intro z;cases z)
 · rw[Ij,sp.way hW];simp
theorem zhp(F:Fun K "is_stand" "is_stand" Q6 f fd)(Hf:Γ14 P w K mg base)(Hg:Γ18 P w K mg base)(Hh:Γ10 P w K mg base):FnOk P w K mg base IC 8 f fd ["web","thing"] (Vf):=by
 refine F.ok Gx (λvs H Q E h=>?_) (λcdv A outer s H vs Q E hr h=>?_)
 · obtain⟨a,W,x,rfl,hW,hx,q⟩:=h;rfl
 obtain⟨a,W,x,rfl,hW,hx,q⟩:=h;refine⟨_,(Ik (IL (PW.pt (Ky (J9 (Jz (IB (Kc (n:="")) rfl B.isinstance_ JM (Ic (pv 1) (Ic (JD (v:= .ty "tuple") rfl B.tuple_ LY rfl) Ie))))) (K2 (IG L5 (IB Jb rfl B.len_ IW (Ic (pv 1) Ie)) Ih (IK _))))) (Im (Iz J0)) IN)
  (Ik (Kf (pv 1) (JL rfl (ID (Iv (i:=2) Gx.nd rfl (Or.inl rfl)) (ID (Iv (i:=3) Gx.nd rfl (Or.inl rfl)) (ID (Iv (i:=4) Gx.nd rfl (Or.inl rfl)) J3)))))
  (Im (Iz (Kl (Ip Hf (hr.mono (by decide)) rfl (Ic (pv 2) Ie)) (Kl (Ip Hg (hr.mono (by decide)) rfl (Ic (pv 0) (Ic (pv 3) Ie))) (Kl (Ip Hh (hr.mono (by decide)) rfl (Ic (pv 4) Ie)) (J_ (Lz Lq (IB Jb rfl B.len_ IW (Ic (pv 4) Ie)) (MS (v:= .int 10) rfl qMW' ⟨_,rfl⟩) (IK _)))))))))),?_⟩
 refine⟨_,rfl,_,"tuple","tuple",true,rfl,.tup hx.at',rfl,_,rfl,Ig ⟨_,rfl,x.a,_,rfl,.inr (SqT.of hx.at'),rfl,_,rfl,?_⟩⟩;refine Ig ⟨_,rfl,x.a,_,rfl,SqT.of hx.at',rfl,_,_,rfl,_,_,rfl,_,_,rfl,rfl,?_⟩;refine⟨_,rfl,x.hand,rfl,hx.name,λH1 s1=>⟨_,rfl,Ii ⟨_,rfl,_,rfl,a,W,x.post,rfl,⟨s1 _ _ hW.1,hW.2⟩,hx.post,_,rfl,Ii ?_⟩⟩⟩;refine⟨_,rfl,x.l,x.ws,rfl,hx.ws.same s1,hx.nd,by have:=hx.few;omega,λH2 s2=>⟨_,rfl,Ii ⟨_,rfl,x.l,_,rfl,.inl (SqL.of ((hx.ws.same s1).same s2).at'),_,_,rfl,rfl,?_⟩⟩⟩;dsimp only;rw[decide_eq_true (by have:=hx.few;rw[Ab];omega)];exact q H2 (s1.trans s2)
theorem zfE(F:Fun K "are_stands" "are_stands" NI f fd)(Hi:Γ21 P w K mg base):FnOk P w K mg base IC 9 f fd ["web","thing"] (VE):=by
 refine F.ok zfm (λvs H Q E h=>?_) (λcdv A outer s H vs Q E hr h=>?_)
 · obtain⟨a,l,W,xs,rfl,hW,hx,q⟩:=h;rfl
 obtain⟨a,l,W,xs,rfl,hW,hx,q⟩:=h;refine⟨_,(Ik (IL (PW.pt (Ky (J9 (Jz (IB (Kc (n:="")) rfl B.isinstance_ JM (Ic (pv 1) (Ic (JD (v:= .ty "list") rfl B.list_ K6 rfl) Ie))))) (K2 (IG Nm (IB Jb rfl B.len_ IW (Ic (pv 1) Ie)) (MS (v:= .int 30) rfl qMH' ⟨_,rfl⟩) (IK _))))) (Im (Iz J0)) IN)
  (Ik (IL (J9 (Jz (IB (Mw rfl) rfl B.all_ Mu (Ic (JZ (N':=["stand","web"]) (js:=[none,some 0]) rfl (Jq (N:=["web","thing"]) (outer:=Iu NI) (by decide+kernel)) (Jx (pv 1)) (λ_ _ _ _ _=>(Iv (i:=0) R9 rfl (Or.inl rfl))) (λ_ _ _ _ _=>Kn) (λ_ _ _ _ _=>(Ip Hi (hr.mono (by decide)) rfl (Ic (pv 1) (Ic (pv 0) Ie))))) Ie)))) (Im (Iz J0)) IN)
  (Im (Iz (Lz JH (Y5 (N':=["hand","place","wishes"]) (js:=[none,none,none]) rfl (Jq (N:=["web","thing"]) (outer:=Iu NI) (by decide+kernel)) (Jx (pv 1)) (λ_ _ _ _ _=>(MT K rfl (n:=3) rfl (ID (Iv (i:=0) M4 rfl (Or.inl rfl)) (ID (Iv (i:=1) M4 rfl (Or.inl rfl)) (ID (Iv (i:=2) M4 rfl (Or.inl rfl)) J3))))) (λ_ _ _ _ _=>Kn) (λ_ _ _ _ _=>(pv 0)) rfl B.len_) (IB Jb rfl B.len_ IW (Ic (pv 1) Ie)) (IK _)))))),?_⟩
 have h30:¬(30:Int)<((xs.map λx=>V.ref x.a).length:Int):=by rw[Ab];have:=hx.len;omega
 refine⟨_,rfl,_,"list","list",true,rfl,.lst hx.at',rfl,_,rfl,Ig ⟨_,rfl,l,_,rfl,.inl (SqL.of hx.at'),_,_,rfl,rfl,_,rfl,?_⟩⟩;rw[decide_eq_false h30];refine Ig ⟨_,rfl,l,rfl,⟨_,SqL.of hx.at'⟩,λr hr=>?_⟩;refine Lx (xs:=xs.map λx=>V.ref x.a) (λi σ' ys H'=>(∃v,σ'=[v,some (.ref a)])∧Same H H'∧H' r=some (.lst ys)∧ys=AL i (V.bl true)) ⟨⟨none,rfl⟩,Iq hr _,Ij,rfl⟩ ?_ ?_ ?_
 · rintro i σ' ys H' hi ⟨_,s,h1,h2⟩;refine⟨SqL.of (s _ _ hx.at'),h1,?_⟩;rw[h2,Bz];rw[Ab] at hi;have:=hx.len;exact Je (by omega)
 · rintro i y σ' ys H' N hy ⟨⟨v,rfl⟩,s,h1,h2⟩ hN;rw[Aj] at hy;cases e1:xs[i]? with
   | none=>rw[e1] at hy;cases hy
   | some x1=>
    rw[e1] at hy;cases hy;refine⟨_,rfl,_,rfl,a,W,x1,rfl,⟨s _ _ hW.1,hW.2⟩,(hx.ok x1 (Ak e1)).same s,λH2 s2=>⟨s2 _ _ h1,hN _ _ _ ⟨⟨_,rfl⟩,?_,Ij,?_⟩⟩⟩
    · exact J7 (s.trans s2) hr
    · rw[h2,BS]
 · rintro σ' ys H' ⟨_,s,h1,h2⟩;rw[Ab] at h2;refine⟨r,AL xs.length true,rfl,SqL.of (by rw[h1,h2,CK]),_,rfl,?_⟩;rw[show(AL xs.length true).all id=true by simp];refine Ig ?_;have hx':=hx.same s;refine⟨_,rfl,l,rfl,⟨_,SqL.of hx'.at'⟩,λz hz=>?_⟩;refine Yg (xs:=xs.map λx=>V.ref x.a) (λi σ' ks H2=>(∃v1 v2 v3,σ'=[v1,v2,v3])∧Same H' H2∧ks=(xs.map (·.hand)).take i) (λφ=>⟨⟨none,none,none,rfl⟩,Iq hz _,rfl⟩) ?_ ?_ ?_
   · rintro i σ' ks H2 hi ⟨_,s2,rfl⟩;refine⟨SqL.of (s2 _ _ hx'.at'),?_⟩;rw[AA,Ab];have:=hx.len;omega
   · rintro i y σ' ks H2 N hy ⟨⟨v1,v2,v3,rfl⟩,s2,rfl⟩ hN;rw[Aj] at hy;cases e1:xs[i]? with
     | none=>rw[e1] at hy;cases hy
     | some x1=> rw[e1] at hy;cases hy;have h1:=(hx'.ok x1 (Ak e1)).same s2;refine⟨x1.a,_,rfl,SqT.of h1.at',rfl,_,_,rfl,_,_,rfl,_,_,rfl,rfl,?_⟩;exact⟨_,rfl,x1.hand,rfl,rfl,λφ=>hN _ _ _ ⟨⟨_,_,_,rfl⟩,J7 s2 hz,ZP hx.nd e1⟩⟩
   · rintro σ' ks H2 ⟨_,s2,rfl⟩;refine⟨_,rfl,l,_,rfl,.inl (SqL.of (s2 _ _ hx'.at')),rfl,?_⟩;rw[AA,Ab,Ab,Nat.min_self,decide_eq_true rfl];exact q H2 (s.trans s2)
theorem zeB(F:Fun K "check_stands" "check_stands" Rc f fd)(Hj:Γ17 P w K mg base)(Hk:Γ22 P w K mg base):FnOk P w K mg base IC 10 f fd ["web","stands"] (VF):=by
 refine F.ok zej (λvs H Q E h=>?_) (λcdv A outer s H vs Q E hr h=>?_)
 · obtain⟨a,l,W,xs,rfl,hW,hx,q⟩:=h;rfl
 obtain⟨a,l,W,xs,rfl,hW,hx,q⟩:=h;refine⟨_,(Ik (K0 (Ip Hj (hr.mono (by decide)) rfl (Ic (pv 0) Ie)))
  (Im (IL (J9 (Jz (Ip Hk (hr.mono (by decide)) rfl (Ic (pv 0) (Ic (pv 1) Ie))))) (Im My) IN))),?_⟩
 refine⟨_,rfl,a,W,rfl,hW,λH1 s1=>?_⟩;dsimp only;exact⟨_,rfl,_,rfl,a,l,W,xs,rfl,⟨s1 _ _ hW.1,hW.2⟩,hx.same s1,λH2 s2=>⟨_,rfl,Ig (q H2 (s1.trans s2))⟩⟩
theorem zha(F:Fun K "stand_of" "stand_of" QI f fd)  :FnOk P w K mg base IC 1 f fd ["stands","thing"] (V2):=by
 refine F.ok Gy (λvs H Q E h=>?_) (λcdv A outer s H vs Q E hr h=>?_)
 · obtain⟨l,W,xs,x,rfl,hx,mx,q⟩:=h;rfl
 obtain⟨l,W,xs,x,rfl,hx,mx,q⟩:=h;refine⟨_,(Ik (JS AO rfl (Jx (pv 0)) (JL rfl (ID (Iv (i:=2) Gy.nd rfl (Or.inl rfl)) (ID (Iv (i:=3) Gy.nd rfl (Or.inl rfl)) (ID (Iv (i:=4) Gy.nd rfl (Or.inl rfl)) J3)))) (Im (IL (IG JH (pv 2) (pv 1) (IK _)) (Im (Iz (Jw (Ic (pv 3) (Ic (pv 4) Ie))))) IN)))
  (Im My)),?_⟩
 let Pv5:Nat→L2.St→Hp→Prop:=λi σ H'=>(∃y2 y3 y4,σ=[some (.ref l),some (.str x.hand),y2,y3,y4])∧Same H H'∧∀z∈xs.take i,z.hand≠x.hand
 refine⟨_,rfl,l,rfl,⟨_,SqL.of hx.at'⟩,Lv (K:=K) (a:=l) (xs:=xs.map λx=>V.ref x.a) Pv5 ?_ ?_ ?_ ?_⟩
 · exact⟨⟨none,none,none,rfl⟩,Same.refl _,λz hz=>by simp at hz⟩
 · rintro i σ H' hi ⟨_,s,_⟩;exact SqL.of (s _ _ hx.at')
 · rintro i v σ H1 hv ⟨⟨y2,y3,y4,rfl⟩,s1,no⟩;rw[Aj] at hv;cases ew:xs[i]? with
   | none=>rw[ew] at hv;cases hv
   | some x1=>
    rw[ew] at hv;cases hv;have o1:=(hx.ok x1 (Ak ew)).same s1;refine⟨x1.a,_,rfl,SqT.of o1.at',rfl,_,_,rfl,_,_,rfl,_,_,rfl,rfl,?_⟩;refine⟨_,rfl,_,rfl,rfl,_,rfl,IR (λh=>?_) (λh=>?_)⟩
    · have e:x1.hand=x.hand:=by have:=of_decide_eq_true h;injection this
      obtain rfl:=N6 hx.nd (Ak ew) mx e;refine⟨_,rfl,_,rfl,Ja,λr hr=>?_⟩;exact q r _ (s1.trans (Iq hr _)) Ij
    · refine⟨⟨_,_,_,rfl⟩,s1,λz hz=>?_⟩;rw[JI ew] at hz;rcases A9.mp hz with y | y
      · exact no z y
      · rw[Am.mp y];exact λe=>h (decide_eq_true (by rw[e]))
 · rintro σ H1 ⟨_,s1,no⟩;rw[Ab,AS] at no;exact absurd rfl (no x mx)
theorem zd0(F:Fun K "wishes_beyond" "wishes_beyond" NP f fd)(Hl:Γ20 P w K mg base):FnOk P w K mg base IC 3 f fd ["web","stands","p","q"] (U8):=by
 refine F.ok Gz (λvs H Q E h=>?_) (λcdv A outer s H vs Q E hr h=>?_)
 · obtain⟨a,l,W,xs,p,q',rfl,hW,hx,hp,hq,q⟩:=h;rfl
 obtain⟨a,l,W,xs,p,q',rfl,hW,hx,hp,hq,q⟩:=h;refine⟨_,(Ik (LX (N':=["hand","place","wishes","web","p","q"]) (js:=[none,none,none,some 0,some 2,some 3]) (i:=4) Gz.nd rfl (Or.inl rfl) rfl (Jq (N:=["web","stands","p","q","beyond"]) (outer:=Iu NP) (by decide+kernel)) (Jx (pv 1)) (λ_ _ _ _ _=>(MT K rfl (n:=3) rfl (ID (Iv (i:=0) Lh rfl (Or.inl rfl)) (ID (Iv (i:=1) Lh rfl (Or.inl rfl)) (ID (Iv (i:=2) Lh rfl (Or.inl rfl)) J3))))) (λ_ _ _ _ _=>Ks (IG (X4 K rfl) (pv 5) (Ip Hl (hr.mono (by decide)) rfl (Ic (pv 3) (Ic (pv 1) (Ic (pv 4) Ie)))) (by with_unfolding_all rfl))) (λ_ _ _ _ _=>(pv 2)))
  (Im (Iz (X6 (N':=["wishes","wish"]) (js:=[none,none]) rfl (Jq (N:=["web","stands","p","q","beyond"]) (outer:=Iu NP) (by decide+kernel)) (Jx (pv 4)) (λ_ _ _ _ _=>(Iv (i:=0) Mf rfl (Or.inl rfl))) (λ_ _ _ _ _=>Kn) (λ_ _ _ _ _=>(U4 K rfl (pv 0))) (λ_ _ _ _ _=>(Iv (i:=1) Mf rfl (Or.inl rfl))) (λ_ _ _ _ _=>Kn) (λ_ _ _ _ _=>(pv 1)))))),?_⟩
 refine⟨_,rfl,l,rfl,⟨_,SqL.of hx.at'⟩,λr hr=>?_⟩;have hl:=hx.len;refine Lx (xs:=xs.map λx=>V.ref x.a) (λi σ' vs H'=>(∃v1 v2 v3,σ'=[v1,v2,v3,some (.ref a),some (.int p),some (.int q')])∧Same H H'∧H' r=some (.lst vs)∧vs=((xs.take i).filter λx=>WB.has (WB.wayB W x.post p) q').map λx=>V.ref x.l) ⟨⟨none,none,none,rfl⟩,Iq hr _,Ij,rfl⟩ ?_ ?_ ?_
 · rintro i σ' vs H' hi ⟨_,s,h1,rfl⟩;refine⟨SqL.of (s _ _ hx.at'),h1,?_⟩;have:=AC (λx:Stand=>WB.has (WB.wayB W x.post p) q') (xs.take i);rw[AA] at this;rw[Ab];exact Je (by omega)
 · rintro i x σ' vs H' N hy ⟨⟨v1,v2,v3,rfl⟩,s,h1,rfl⟩ hN;rw[Aj] at hy;cases e1:xs[i]? with
   | none=>rw[e1] at hy;cases hy
   | some x1=>
    rw[e1] at hy;cases hy;have o1:=(hx.ok x1 (Ak e1)).same s;refine⟨x1.a,_,rfl,SqT.of o1.at',rfl,_,_,rfl,_,_,rfl,_,_,rfl,rfl,?_⟩;refine⟨_,rfl,_,rfl,_,rfl,_,rfl,a,W,x1.post,p,rfl,hW.same s,o1.post,hp,λlw H2 s2 n2 e2=>Tu (SqL.of e2) ⟨_,rfl,?_⟩⟩;have st:((xs.take (i+1)).filter λx=>WB.has (WB.wayB W x.post p) q')=(xs.take i).filter (λx=>WB.has (WB.wayB W x.post p) q')++(if WB.has (WB.wayB W x1.post p) q' then [x1] else []):=by rw[JI e1,AV];congr 1;rw[Bx];rfl
    rw[show(WB.wayB W x1.post p).any (λy=>y==q')=WB.has (WB.wayB W x1.post p) q' from rfl];cases c:WB.has (WB.wayB W x1.post p) q' with
    | true=> rw[c] at st;refine Ii ⟨_,rfl,s2 _ _ h1,hN _ _ _ ⟨⟨_,_,_,rfl⟩,J7 (s.trans s2) hr,Ij,?_⟩⟩;rw[st,Ao];rfl
    | false=> rw[c] at st;refine Ig (hN _ _ _ ⟨⟨_,_,_,rfl⟩,s.trans s2,s2 _ _ h1,?_⟩);rw[st];simp
 · rintro σ' vs H' ⟨_,s,h1,rfl⟩;rw[Ab,AS] at h1;refine⟨_,rfl,r,rfl,⟨_,SqL.of h1⟩,λr2 hr2=>?_⟩;refine Zh (W:=W) (xs.filter λx=>WB.has (WB.wayB W x.post p) q') (SqL.of h1) hr2 rfl (A4 (AC _ _) hl) (λx hx'=>(hx.ok x (Av.mp hx').1).same s) (λq hq y H2 R e hR=>⟨_,rfl,q.l,rfl,e,hR⟩) (λu v H2 R hR=>⟨_,rfl,hR⟩) λH2 s2 e2=>?_;exact q r2 H2 (s.trans s2) (s.free hr2) (WsAt.wants (hx.same (s.trans s2)) e2)
theorem zcp(F:Fun K "how_many_tops_under" "how_many_tops_under" NO f fd)(Hm:Γ13 P w K mg base)(Hn:Γ15 P w K mg base):FnOk P w K mg base IC 4 f fd ["wish","others"] (TV):=by
 refine F.ok G0 (λvs H Q E h=>?_) (λcdv A outer s H vs Q E hr h=>?_)
 · obtain⟨a,l,w',ws,rfl,hw,wok,hl,q⟩:=h;rfl
 obtain⟨a,l,w',ws,rfl,hw,wok,hl,q⟩:=h;refine⟨_,(Ik (ZO (N':=["other","wish"]) (js:=[none,some 0]) (i:=2) (Kb hr) G0.nd rfl (Or.inl rfl) rfl (Jq (N:=["wish","others","covered"]) (outer:=Iu NO) (by decide+kernel)) (Jx (pv 1)) (λ_ _ _ _ _=>(Iv (i:=0) Me rfl (Or.inl rfl))) (λ_ _ _ _ _=>Ks (Jz (Ip Hm (hr.mono (by decide)) rfl (Ic (pv 1) (Ic (pv 0) Ie))))) (λ_ _ _ _ _=>(pv 0)) (λ_ _ _ _ _=>J0))
  (Im (Iz (IB Jb rfl B.len_ IW (Ic (JZ (N':=["other","others"]) (js:=[none,some 1]) rfl (Jq (N:=["wish","others","covered"]) (outer:=Iu NO) (by decide+kernel)) (XA (pv 2)) (λ_ _ _ _ _=>(Iv (i:=0) Ol rfl (Or.inl rfl))) (λ_ _ _ _ _=>Ks (J9 (Jz (Ip Hn (hr.mono (by decide)) rfl (Ic (pv 0) (Ic (pv 1) Ie)))))) (λ_ _ _ _ _=>(pv 0))) Ie))))),?_⟩
 have hA:=hl.at';refine⟨_,rfl,l,rfl,⟨_,SqL.of hA⟩,λp hp=>⟨λi m σ' ks H'=>m=ws.length - i∧i≤ws.length∧(∃v,σ'=[v,some (.ref a)])∧Dd ((ws.take i).filter λk=>II w' k.2) ks∧Same H H'∧∃o,H' p=some o,⟨ws.length,λφ=>⟨by simp,AI _,⟨none,rfl⟩,Dd.nil,Iq hp _,_,Ij⟩⟩,?_⟩⟩;rintro i m σ' ks H1 ⟨rfl,hi,⟨v,rfl⟩,dd,s1,o,ho⟩;have mk:∀k∈ks,k∈ws:=λk hk=>Da (Av.mp (dd.sub k hk)).1;have wk:∀k∈ks,WishAt H1 k.1 k.2:=λk hk=>((hl.ok k (mk k hk)).1).same s1;have lk:ks.length≤800:=by have h1:=dd.len;have h2:=hl.len;have h3:=AC (λk:Addr×List WP=>II w' k.2) (ws.take i);rw[AA] at h3;omega
 refine⟨wk,by omega,?_⟩;by_cases hlt:i<ws.length
 · refine .inr ⟨⟨_,_,SqL.of (s1 _ _ hA),by rw[Aj,Au hlt];rfl⟩,λx H2 y=>?_⟩;obtain⟨rfl,y⟩:=y;have y:=y _ (SqL.of (s1 _ _ hA));rw[Aj,Au hlt] at y;obtain rfl:V.ref ws[i].1=x:=AD y;have hX:=hl.ok _ (Fl hlt);have ew:ws[i]?=some ws[i]:=Au hlt;generalize ws[i]=X1 at*;have st:((ws.take (i+1)).filter λk=>II w' k.2)=(ws.take i).filter (λk=>II w' k.2)++(if II w' X1.2 then [X1] else []):=by
    rw[JI ew,AV];congr 1;rw[Bx];rfl
   refine⟨_,rfl,_,rfl,a,X1.1,w',X1.2,rfl,hw.same s1,(hX.1).same s1,hX.2,λH3 s3=>⟨_,rfl,?_⟩⟩;cases c:II w' X1.2 with
   | true=> rw[c] at st;refine Ii ⟨_,rfl,X1.1,X1.2,rfl,rfl,((hX.1).same s1).same s3,λk hk=>(wk k hk).same s3,by rw[s3 _ _ ho,ho],λφ=>⟨ws.length - (i+1),by omega,rfl,hlt,⟨_,rfl⟩,?_,J7 (s1.trans s3) hp,_,Ij⟩⟩;rw[st];exact dd.put _
   | false=> rw[c] at st;refine Ig ⟨by rw[s3 _ _ ho,ho],ws.length - (i+1),by omega,rfl,hlt,⟨_,rfl⟩,?_,s1.trans s3,_,s3 _ _ ho⟩;rw[st];simpa using dd
 · obtain rfl:i=ws.length:=by omega
   rw[AS] at dd;refine .inl ⟨⟨_,SqL.of (s1 _ _ hA),by rw[Ab];exact Af _⟩,λep=>?_⟩;have s2:=J7 (o:= .ext (Ka p (ks.map (·.1)) ep)) s1 hp;have e2:(upd H1 p (.ext (Ka p (ks.map (·.1)) ep))) p=some (.ext (Ka p (ks.map (·.1)) ep)):=Ij;have wk2:∀k∈ks,WishAt (upd H1 p (.ext (Ka p (ks.map (·.1)) ep))) k.1 k.2∧WOk k.2:=λk hk=>⟨((hl.ok k (mk k hk)).1).same s2,(hl.ok k (mk k hk)).2⟩;generalize upd H1 p (.ext (Ka p (ks.map (·.1)) ep))=H2 at*;have hl2:=hl.same s2;refine IZ ?_;intro σ1;refine⟨_,rfl,p,_,ep,rfl,e2,λr hr'=>?_⟩;refine XS (λi σ' ys H'=>(∃v,σ'=[v,some (.ref l)])∧Same H2 H'∧H' r=some (.lst ys)∧ys=((ks.take i).filter λk=>Kj (ws.map (·.2)) k.2).map λx=>V.ref x.1) ⟨⟨none,rfl⟩,Iq hr' _,Ij,rfl⟩ ?_ ?_ ?_
   · rintro i σ' ys H' hi ⟨_,s,h1,h2⟩;refine⟨s _ _ e2,h1,?_⟩;rw[h2,Ab];have h3:=AC (λk:Addr×List WP=>Kj (ws.map (·.2)) k.2) (ks.take i);rw[AA] at h3;exact Je (by omega)
   · rintro i x σ' ys H3 N hx ⟨⟨v,rfl⟩,s3,h1,h2⟩ hN;rw[Aj] at hx;cases ew:ks[i]? with
     | none=>rw[ew] at hx;cases hx
     | some X1=>
      rw[ew] at hx;obtain rfl:X1.1=x:=AD hx;obtain⟨x1,x2⟩:=wk2 X1 (Ak ew);refine⟨_,rfl,_,rfl,X1.1,l,X1.2,ws,rfl,x1.same s3,x2,hl2.same s3,λH4 s4=>⟨_,rfl,?_⟩⟩;have st:((ks.take (i+1)).filter λk=>Kj (ws.map (·.2)) k.2)=(ks.take i).filter (λk=>Kj (ws.map (·.2)) k.2)++(if Kj (ws.map (·.2)) X1.2 then [X1] else []):=by rw[JI ew,AV];congr 1;rw[Bx];rfl
      cases c:Kj (ws.map (·.2)) X1.2 with
      | false=> rw[c] at st;exact Ig (hN _ _ _ ⟨⟨_,rfl⟩,s3.trans s4,s4 _ _ h1,by rw[h2,st];simp⟩)
      | true=> rw[c] at st;exact Ii ⟨_,rfl,s4 _ _ h1,hN _ _ _ ⟨⟨_,rfl⟩,J7 (s3.trans s4) hr',Ij,by rw[h2,st];simp⟩⟩
   · rintro σ' ys H3 ⟨_,s3,h1,rfl⟩;rw[Ab,AS] at h1;refine⟨r,_,rfl,.inl (SqL.of h1),?_⟩;have ec:((ks.filter λk=>Kj (ws.map (·.2)) k.2).map (·.2)).length=JK (ws.map (·.2)) w':=by
      refine P7 ?_ λv=>?_
      · exact dd.nd.sublist ((D7 (l:=ks)).map _)
      · rw[Az];constructor
        · rintro⟨k,hk,rfl⟩;obtain⟨k1,k2⟩:=Av.mp hk;obtain⟨k3,k4⟩:=Av.mp (dd.sub k k1);exact⟨AF k3,k4,isTopV_iff.mp k2⟩
        · rintro⟨v1,v2,v3⟩;obtain⟨y,hy,rfl⟩:=Az.mp v1;have:y.2∈ks.map (·.2):=(dd.mem _).mpr (AF (Av.mpr ⟨hy,v2⟩));obtain⟨k,hk,ek⟩:=Az.mp this;exact⟨k,Av.mpr ⟨hk,by rw[ek];exact isTopV_iff.mpr v3⟩,ek⟩
     rw[Ab] at ec;rw[Ab,ec];exact q H3 (s2.trans s3)
theorem ziU(F:Fun K "how_far" "how_far" Qu f fd)(Ho:Γ25 P w K mg base)(Hl:Γ20 P w K mg base)(Hq:Γ26 P w K mg base)(Hn:Γ15 P w K mg base):FnOk P w K mg base IC 5 f fd ["web","stands","place","wish"] (Sw):=by
 refine F.ok G1 (λvs H Q E h=>?_) (λcdv A outer s H vs Q E hr h=>?_)
 · obtain⟨a,l,v,W,xs,c,w',rfl,hW,hx,hc,hv,wok,q⟩:=h;rfl
 obtain⟨a,l,v,W,xs,c,w',rfl,hW,hx,hc,hv,wok,q⟩:=h;refine⟨_,(Ik (I0 (i:=4) G1.nd rfl (Or.inl rfl) Ih)
  (Ik (I0 (i:=5) G1.nd rfl (Or.inl rfl) Ih)
  (Ik (JS AO rfl (Le rfl B.range_ (Ic (Iw Jg (IB Jb rfl B.len_ IW (Ic (pv 0) Ie)) Ih) Ie)) (Iv (i:=6) G1.nd rfl (Or.inl rfl)) (Im (IL (IG L5 (pv 6) (pv 2) (IK _)) (Ik (I0 (i:=7) G1.nd rfl (Or.inl rfl) (IE IV (Ip Hl (hr.mono (by decide)) rfl (Ic (pv 0) (Ic (pv 6) (Ic (pv 2) Ie)))) Ih (λ_ _=>rfl)))
  (Ik (I0 (i:=8) G1.nd rfl (Or.inl rfl) (Ip Ho (hr.mono (by decide)) rfl (Ic (pv 0) (Ic (pv 1) (Ic (pv 6) (Ic (pv 7) Ie))))))
  (Im (IL (PW.pt (Mr (IG (Nz (Kb hr)) (pv 3) (pv 8) (by with_unfolding_all rfl)) (M1 (J9 (Jz (Ip Hn (hr.mono (by decide)) rfl (Ic (pv 3) (Ic (pv 8) Ie)))))))) (Ik (SR (i:=4) G1.nd rfl (Or.inl rfl) Ih SH)
  (Im (SR (i:=5) G1.nd rfl (Or.inl rfl) (Ip Hq (hr.mono (by decide)) rfl (Ic (pv 3) (Ic (pv 8) Ie))) SH))) IN)))) IN)))
  (Im (Iz (Jw (Ic (pv 4) (Ic (pv 5) Ie)))))))),?_⟩
 have lm:(W.map V.int).length=W.length:=Ab _;have lw:=hW.2.1;refine IZ ?_;intro σ2;refine IZ ?_;intro σ3
 let Pv6:Nat→L2.St→Hp→Prop:=λi σ H'=>(∃y6 y7 y8,σ=[some (.ref a),some (.ref l),some (.int c),some (.ref v),some (.int (Jo W xs c w' (LG i):Nat)),some (.int (Jn W xs c w' (LG i):Nat)),y6,y7,y8])∧Same H H'
 refine⟨_,rfl,a,_,rfl,.inl (SqL.of hW.1),_,_,rfl,rfl,((W.length+1:Nat):Int),by rw[lm];rfl,by omega,by omega,N5 (lo:=0) (n:=W.length+1) Pv6 ?_ ?_ ?_⟩
 · exact⟨⟨none,none,none,rfl⟩,Same.refl _⟩
 · rintro i σ H1 hi ⟨⟨y6,y7,y8,rfl⟩,s1⟩;have e0:(0:Int)+(i:Int)=(i:Int):=by omega
   have px:WB.Post W (i:Int):=⟨by omega,by omega⟩;have fs:Jo W xs c w' (LG (i+1))=Jo W xs c w' (LG i)+(if(i:Int)=c then 0 else Nk W xs w' (i:Int) (Jj W (i:Int) c)):=by unfold Jo;rw[UK];exact Uw (xs:=xs) (w:=w') _
   have fu:Jn W xs c w' (LG (i+1))=Jn W xs c w' (LG i)+(if(i:Int)=c then 0 else MK W xs w' (i:Int) (Jj W (i:Int) c)):=by unfold Jn;rw[UK];exact Uw (xs:=xs) (w:=w') _
   rw[e0];refine IZ ?_;intro σ4;refine⟨_,rfl,_,rfl,rfl,_,rfl,?_⟩;by_cases hic:(i:Int)=c
   · rw[if_pos hic,Fo] at fs fu;rw[decide_eq_true (congrArg V.int hic)];exact Ig ⟨⟨_,_,_,by rw[fs,fu];rfl⟩,s1⟩
   · rw[if_neg hic] at fs fu;rw[decide_eq_false (λz=>hic (by injection z))];refine Ii ?_;obtain⟨n1,n2,_,n4⟩:=O7 hW.2 px hc hic;refine⟨_,rfl,_,rfl,_,rfl,a,W,(i:Int),c,rfl,hW.same s1,px,hc,λlw' H2 s2 n2' e2=>?_⟩;have at1:Jp ((WB.wayB W (i:Int) c).map V.int) 1=some (.int (Jj W (i:Int) c)):=JN (j:=1) (by rw[Aj,n4];rfl);refine⟨lw',_,1,_,rfl,rfl,SqL.of e2,at1,?_⟩;have t2:=s1.trans s2;refine IZ ?_;intro σ5;refine⟨_,rfl,_,rfl,_,rfl,_,rfl,a,l,W,xs,(i:Int),Jj W (i:Int) c,rfl,hW.same t2,hx.same t2,px,n1,λol H3 s3 n3 W3=>?_⟩;have t3:=t2.trans s3;have es:Nk W xs w' (i:Int) (Jj W (i:Int) c)=if Jv (J5 W xs (i:Int) (Jj W (i:Int) c)) w'=true then 1 else 0:=rfl
     have eg:MK W xs w' (i:Int) (Jj W (i:Int) c)=if Jv (J5 W xs (i:Int) (Jj W (i:Int) c)) w'=true then JK (J5 W xs (i:Int) (Jj W (i:Int) c)) w' else 0:=rfl
     rw[es] at fs;rw[eg] at fu;have eO:(JE (λx=>WB.has (WB.wayB W x (i:Int)) (Jj W (i:Int) c)) xs).map (·.2)=J5 W xs (i:Int) (Jj W (i:Int) c):=rfl;have ed:Jv (J5 W xs (i:Int) (Jj W (i:Int) c)) w'=(!((J5 W xs (i:Int) (Jj W (i:Int) c)).any λk=>decide (k=w')) && Kj (J5 W xs (i:Int) (Jj W (i:Int) c)) w'):=rfl;generalize JE (λx=>WB.has (WB.wayB W x (i:Int)) (Jj W (i:Int) c)) xs=ws at*;rw[←eO] at fs fu ed;refine IZ ?_;intro σ6;refine⟨_,rfl,_,rfl,Qs (hv.same t3) W3 ⟨_,rfl,?_⟩⟩;cases c1:((ws.map (·.2)).any λk=>decide (k=w')) with
     | true=> rw[c1] at ed;rw[ed,if_neg (by simp),Fo] at fs fu;exact Ig (Ig ⟨⟨_,_,_,by rw[fs,fu];rfl⟩,t3⟩)
     | false=>
      rw[c1] at ed;refine Ii ⟨_,rfl,_,rfl,v,ol,w',ws,rfl,hv.same t3,wok,W3,λH4 s4=>⟨_,rfl,?_⟩⟩;have t4:=t3.trans s4;cases c2:Kj (ws.map (·.2)) w' with
      | false=> rw[c2] at ed;rw[ed,if_neg (by decide),Fo] at fs fu;exact Ig ⟨⟨_,_,_,by rw[fs,fu];rfl⟩,t4⟩
      | true=> rw[c2] at ed;rw[ed,if_pos (by decide)] at fs fu;refine Ii ⟨_,rfl,_,_,rfl,rfl,?_⟩;refine⟨_,rfl,_,rfl,_,rfl,v,ol,w',ws,rfl,hv.same t4,wok,W3.same s4,λH5 s5=>⟨_,_,rfl,rfl,?_⟩⟩;exact⟨⟨_,_,_,by rw[fs,fu];rfl⟩,t4.trans s5⟩
 · rintro σ H1 ⟨⟨y6,y7,y8,rfl⟩,s1⟩;refine⟨_,rfl,_,rfl,Ja,λr hr=>?_⟩;exact q r _ (s1.trans (Iq hr _)) Ij
theorem zdG(F:Fun K "stands_without" "stands_without" NQ f fd)(Hr:Γ24 P w K mg base):FnOk P w K mg base IC 2 f fd ["stands","hand","wish"] (V4):=by
 refine F.ok G2 (λvs H Q E h=>?_) (λcdv A outer s H vs Q E hr h=>?_)
 · obtain⟨l,v,W,xs,x,w',rfl,hx,mx,hv,wok,q⟩:=h;rfl
 obtain⟨l,v,W,xs,x,w',rfl,hx,mx,hv,wok,q⟩:=h;refine⟨_,(Ik (LX (N':=["stand","hand"]) (js:=[none,some 1]) (i:=3) G2.nd rfl (Or.inl rfl) rfl (Jq (N:=["stands","hand","wish","others","place","wishes"]) (outer:=Iu NQ) (by decide+kernel)) (Jx (pv 0)) (λ_ _ _ _ _=>(Iv (i:=0) Oj rfl (Or.inl rfl))) (λ_ _ _ _ _=>Ks (IG L5 (IE (PH K rfl) (pv 0) Ih (λ_ _=>rfl)) (pv 1) (IK _))) (λ_ _ _ _ _=>(pv 0)))
  (Ik (Kf (Ip Hr (hr.mono (by decide)) rfl (Ic (pv 0) (Ic (pv 1) Ie))) (JL rfl (ID (Iv (i:=4) G2.nd rfl (Or.inl rfl)) (ID (Iv (i:=5) G2.nd rfl (Or.inl rfl)) J3))))
  (Im (Iz (Iw LV (pv 3) (Js (Ic (Jw (Ic (pv 1) (Ic (pv 4) (Ic (JZ (N':=["other","wish"]) (js:=[none,some 2]) rfl (Jq (N:=["stands","hand","wish","others","place","wishes"]) (outer:=Iu NQ) (by decide+kernel)) (Jx (pv 5)) (λ_ _ _ _ _=>(Iv (i:=0) Me rfl (Or.inl rfl))) (λ_ _ _ _ _=>Ks (IG (Qb K rfl (Kb hr)) (pv 0) (pv 1) (IK _))) (λ_ _ _ _ _=>(pv 0))) Ie)))) Ie))))))),?_⟩
 have hl:=hx.len;refine⟨_,rfl,l,rfl,⟨_,SqL.of hx.at'⟩,λr hr=>?_⟩;refine Lx (xs:=xs.map λx=>V.ref x.a) (λi σ' vs H'=>(∃v1,σ'=[v1,some (.str x.hand)])∧Same H H'∧H' r=some (.lst vs)∧vs=((xs.take i).filter λz=>decide (z.hand≠x.hand)).map λx=>V.ref x.a) ⟨⟨none,rfl⟩,Iq hr _,Ij,rfl⟩ ?_ ?_ ?_
 · rintro i σ' vs H' hi ⟨_,s,h1,rfl⟩;refine⟨SqL.of (s _ _ hx.at'),h1,?_⟩;have:=AC (λz:Stand=>decide (z.hand≠x.hand)) (xs.take i);rw[AA] at this;rw[Ab];exact Je (by omega)
 · rintro i y σ' vs H' N hy ⟨⟨v1,rfl⟩,s,h1,rfl⟩ hN;rw[Aj] at hy;cases e1:xs[i]? with
   | none=>rw[e1] at hy;cases hy
   | some x1=>
    rw[e1] at hy;cases hy;have o1:=(hx.ok x1 (Ak e1)).same s;have st:((xs.take (i+1)).filter λz=>decide (z.hand≠x.hand))=(xs.take i).filter (λz=>decide (z.hand≠x.hand))++(if decide (x1.hand≠x.hand) then [x1] else []):=by rw[JI e1,AV];congr 1;rw[Bx];rfl
    refine⟨_,rfl,x1.a,_,0,_,rfl,rfl,SqT.of o1.at',rfl,_,rfl,rfl,_,rfl,?_⟩;by_cases c:x1.hand=x.hand
    · rw[decide_eq_true (congrArg V.str c)];rw[decide_eq_false (by simpa using c)] at st;refine Ig (hN _ _ _ ⟨⟨_,rfl⟩,s,h1,?_⟩);rw[st];simp
    · rw[decide_eq_false (λz=>c (by injection z))];rw[decide_eq_true (by simpa using c)] at st;refine Ii ⟨_,rfl,h1,hN _ _ _ ⟨⟨_,rfl⟩,J7 s hr,Ij,?_⟩⟩;rw[st];simp
 · rintro σ' vs H1 ⟨_,s1,h1,rfl⟩;rw[Ab,AS] at h1;refine⟨_,rfl,_,rfl,l,W,xs,x,rfl,hx.same s1,mx,λt H2 s2 e2=>?_⟩;refine⟨t,_,rfl,SqT.of e2,rfl,_,_,rfl,_,_,rfl,rfl,?_⟩;have t2:=s1.trans s2;have x2:=(hx.ok x mx).same t2;have hv2:=hv.same t2;refine⟨_,rfl,_,rfl,_,rfl,_,rfl,x.l,rfl,⟨_,SqL.of x2.ws.at'⟩,λnl hnl=>?_⟩;have few:=x2.few;refine SK hnl rfl x2.ws hv2 λH3 s3 h3=>?_;refine⟨MF,λtp htp=>?_⟩;have s4:=Iq htp (.tup [V.str x.hand,V.int x.post,V.ref nl]);have e4:(upd H3 tp (.tup [V.str x.hand,V.int x.post,V.ref nl])) tp=some (.tup [V.str x.hand,V.int x.post,V.ref nl]):=Ij;generalize upd H3 tp (.tup [V.str x.hand,V.int x.post,V.ref nl])=H4 at*;refine⟨LQ,λl1 hl1=>?_⟩;have s5:=Iq hl1 (.lst [V.ref tp]);have e5:(upd H4 l1 (.lst [V.ref tp])) l1=some (.lst [V.ref tp]):=Ij;generalize upd H4 l1 (.lst [V.ref tp])=H5 at*;have t15:=s2.trans (s3.trans (s4.trans s5));have t5:=s1.trans t15;have ll:(xs.filter λz=>decide (z.hand≠x.hand)).length<xs.length:=D5.mpr ⟨x,mx,by simp⟩;refine⟨r,l1,_,_,rfl,rfl,t15 _ _ h1,e5,Lr (by rw[Ab];show _+1≤_;omega),λr2 hr2=>?_⟩;have s6:=Iq hr2 (.lst (((xs.filter λz=>decide (z.hand≠x.hand)).map λx=>V.ref x.a)++[V.ref tp]));have t6:=t5.trans s6;have W6:StAt _ W ⟨tp,x.hand,x.post,nl,x.ws.filter λy=>decide (y.2≠w')⟩:=⟨(s5.trans s6) _ _ e4,⟨(s4.trans (s5.trans s6)) _ _ h3,λy hy=>((x2.ws.same (s3.trans (s4.trans (s5.trans s6)))).ok y (Av.mp hy).1),A4 (AC _ _) x2.ws.len⟩,x2.nd.sublist ((D7 (l:=x.ws)).map _),A4 (AC _ _) x2.few,x2.name,x2.post⟩;refine q r2 (xs.filter (λz=>decide (z.hand≠x.hand))++[⟨tp,x.hand,x.post,nl,x.ws.filter λy=>decide (y.2≠w')⟩]) _ t6 (t5.free hr2) ⟨by rw[Ij,Ao];rfl,λz hz=>?_,?_,by rw[Aw];show _+1≤30;omega⟩ λf u=>?_
   · rcases A9.mp hz with y | y
     · exact(hx.ok z (Av.mp y).1).same t6
     · rw[Am.mp y];exact W6
   · rw[Ao,BJ];refine⟨hx.nd.sublist ((D7 (l:=xs)).map _),by simp,λa ha b hb e=>?_⟩;obtain⟨z,hz,rfl⟩:=Az.mp ha;have:=of_decide_eq_true (Av.mp hz).2;rw[Am.mp hb] at e;exact this e
   · rw[vals_iff];constructor
     · rintro⟨z,hz,h1,h2⟩;rcases A9.mp hz with y | y
       · obtain⟨y1,y2⟩:=Av.mp y;exact⟨z,y1,h1,h2,λe=>absurd e (of_decide_eq_true y2)⟩
       · rw[Am.mp y] at h1 h2;obtain⟨y',hy',rfl⟩:=Az.mp h2;obtain⟨y1,y2⟩:=Av.mp hy';exact⟨x,mx,h1,AF y1,λ_=>of_decide_eq_true y2⟩
     · rintro⟨z,hz,g1,g2,g3⟩;by_cases e:z.hand=x.hand
       · have ez:=N6 hx.nd hz mx e;rw[ez] at g1 g2 g3;obtain⟨y',hy',rfl⟩:=Az.mp g2;exact⟨_,Ah _ (Am.mpr rfl),g1,AF (Av.mpr ⟨hy',decide_eq_true (g3 rfl)⟩)⟩
       · exact⟨z,AH _ (Av.mpr ⟨hz,decide_eq_true e⟩),g1,g2⟩
theorem zdb(F:Fun K "letters_of_want" "letters_of_want" QZ f fd)(Hs:Γ23 P w K mg base)(Hr:Γ24 P w K mg base)(Ht:Γ8 P w K mg base)(Hu:Γ27 P w K mg base):FnOk P w K mg base IC 11 f fd ["web","stands","hand","wish"] (Tg):=by
 refine F.ok G3 (λvs H Q E h=>?_) (λcdv A outer s H vs Q E hr h=>?_)
 · obtain⟨a,l,v,W,xs,x,w',rfl,hW,hx,mx,hv,wok,nw,lt,q⟩:=h;rfl
 obtain⟨a,l,v,W,xs,x,w',rfl,hW,hx,mx,hv,wok,nw,lt,q⟩:=h;refine⟨_,(Ik (K0 (Ip Hs (hr.mono (by decide)) rfl (Ic (pv 0) (Ic (pv 1) Ie))))
  (Ik (Kf (Ip Hr (hr.mono (by decide)) rfl (Ic (pv 1) (Ic (pv 2) Ie))) (JL rfl (ID (Iv (i:=4) G3.nd rfl (Or.inl rfl)) (ID (Iv (i:=5) G3.nd rfl (Or.inl rfl)) J3))))
  (Ik (K0 (Ip Ht (hr.mono (by decide)) rfl (Ic (pv 3) Ie)))
  (Ik (IL (IG (SO (Kb hr)) (pv 3) (pv 5) (by with_unfolding_all rfl)) (Im My) IN)
  (Ik (IL (IG Sq (IB Jb rfl B.len_ IW (Ic (pv 5) Ie)) (MS (v:= .int 10) rfl qMW' ⟨_,rfl⟩) (IK _)) (Im My) IN)
  (Im (Iz (Ip Hu (hr.mono (by decide)) rfl (Ic (pv 0) (Ic (pv 1) (Ic (pv 4) (Ic (pv 3) Ie)))))))))))),?_⟩
 refine⟨_,rfl,_,rfl,a,l,W,xs,rfl,hW,hx,λH1 s1=>?_⟩;dsimp only;refine⟨_,rfl,_,rfl,l,W,xs,x,rfl,hx.same s1,mx,λt H2 s2 e2=>?_⟩;refine⟨t,_,rfl,SqT.of e2,rfl,_,_,rfl,_,_,rfl,rfl,?_⟩;have t2:=s1.trans s2;refine⟨_,rfl,v,w',rfl,hv.same t2,wok,λH3 s3=>?_⟩;dsimp only;have t3:=t2.trans s3;have x3:=(hx.ok x mx).same t3;refine⟨_,rfl,_,rfl,Sj (hv.same t3) x3.ws ⟨_,rfl,?_⟩⟩;rw[show((x.ws.map (·.2)).any λk=>decide (k=w'))=false by rw[←Cv,any_mem];exact nw];refine Ig ?_;refine⟨_,rfl,x.l,_,rfl,.inl (SqL.of x3.ws.at'),_,_,rfl,rfl,_,rfl,?_⟩;rw[decide_eq_false (by rw[Ab];omega)];refine Ig ?_;exact⟨_,rfl,_,rfl,_,rfl,_,rfl,a,l,v,W,xs,x.post,w',rfl,hW.same t3,hx.same t3,x3.post,hv.same t3,wok,λr H4 s4 e4=>q r H4 (t3.trans s4) e4⟩
theorem zcP(F:Fun K "letters_of_unwant" "letters_of_unwant" Ra f fd)(Hs:Γ23 P w K mg base)(Hr:Γ24 P w K mg base)(Hu:Γ27 P w K mg base)(Hv:Γ28 P w K mg base)(GZ:Γ7 P w K mg base):FnOk P w K mg base IC 11 f fd ["web","stands","hand","wish"] (UH):=by
 refine F.ok G4 (λvs H Q E h=>?_) (λcdv A outer s H vs Q E hr h=>?_)
 · obtain⟨a,l,v,W,xs,x,w',rfl,hW,hx,mx,hv,wok,iw,q⟩:=h;rfl
 obtain⟨a,l,v,W,xs,x,w',rfl,hW,hx,mx,hv,wok,iw,q⟩:=h;refine⟨_,(Ik (K0 (Ip Hs (hr.mono (by decide)) rfl (Ic (pv 0) (Ic (pv 1) Ie))))
  (Ik (Kf (Ip Hr (hr.mono (by decide)) rfl (Ic (pv 1) (Ic (pv 2) Ie))) (JL rfl (ID (Iv (i:=4) G4.nd rfl (Or.inl rfl)) (ID (Iv (i:=5) G4.nd rfl (Or.inl rfl)) J3))))
  (Ik (IL (PW.pt (Ky (J9 (Jz (Ip GZ (hr.mono (by decide)) rfl (Ic (pv 3) Ie)))) (K2 (IG (Nz (Kb hr)) (pv 3) (pv 5) (by with_unfolding_all rfl))))) (Im My) IN)
  (Ik (Kf (Ip Hu (hr.mono (by decide)) rfl (Ic (pv 0) (Ic (Ip Hv (hr.mono (by decide)) rfl (Ic (pv 1) (Ic (pv 2) (Ic (pv 3) Ie)))) (Ic (pv 4) (Ic (pv 3) Ie))))) (JL rfl (ID (Iv (i:=6) G4.nd rfl (Or.inl rfl)) (ID (Iv (i:=7) G4.nd rfl (Or.inl rfl)) J3))))
  (Im (Iz (Jw (Ic (pv 7) (Ic (pv 6) Ie))))))))),?_⟩
 refine⟨_,rfl,_,rfl,a,l,W,xs,rfl,hW,hx,λH1 s1=>?_⟩;dsimp only;refine⟨_,rfl,_,rfl,l,W,xs,x,rfl,hx.same s1,mx,λt H2 s2 e2=>?_⟩;refine⟨t,_,rfl,SqT.of e2,rfl,_,_,rfl,_,_,rfl,rfl,?_⟩;have t2:=s1.trans s2;refine⟨_,rfl,v,w',rfl,hv.same t2,wok,λH3 s3=>⟨_,rfl,Ig ?_⟩⟩;have t3:=t2.trans s3;have x3:=(hx.ok x mx).same t3;refine⟨_,rfl,_,rfl,Qs (hv.same t3) x3.ws ⟨_,rfl,?_⟩⟩;rw[any_mem.mpr iw];refine Ig ?_;refine⟨_,rfl,_,rfl,_,rfl,_,rfl,l,v,W,xs,x,w',rfl,hx.same t3,mx,hv.same t3,wok,λr ys H4 s4 nr Y4 le=>?_⟩;have t4:=t3.trans s4;refine⟨_,rfl,_,rfl,a,r,v,W,ys,x.post,w',rfl,hW.same t4,Y4,x3.post,hv.same t4,wok,λu H5 s5 e5=>?_⟩;refine⟨u,_,rfl,SqT.of e5,rfl,_,_,rfl,_,_,rfl,rfl,?_⟩;refine⟨_,rfl,_,rfl,Ja,λr2 hr2=>?_⟩;exact q r2 ys _ (t4.trans (s5.trans (Iq hr2 _))) le Ij
theorem zhd(F:Fun K "_law_well" "_law_well" N2 f fd)  :FnOk P w K mg base IC 1 f fd ["script"] (Ti K):=by
 refine F.ok G5 (λvs H Q E h=>?_) (λcdv A outer s H vs Q E hr h=>?_)
 · obtain⟨a,ns,rfl,hS,h63,q⟩:=h;rfl
 obtain⟨a,ns,rfl,hS,h63,q⟩:=h;refine⟨_,(Ik (LX (N':=["cell"]) (js:=[none]) (i:=1) G5.nd rfl (Or.inl rfl) rfl (Jq (N:=["script","great","small","seed","number"]) (outer:=Iu N2) (by decide+kernel)) (Jx (KW Nt (pv 0) Lb (Lc Ih))) (λ_ _ _ _ _=>(Iv (i:=0) Md rfl (Or.inl rfl))) (λ_ _ _ _ _=>Ks (IG Sq (IB Qo rfl B.abs_ P3 (Ic (pv 0) Ie)) (Iw Ly Ih Ih) (IK _))) (λ_ _ _ _ _=>(Iw L6 (IB Qo rfl B.abs_ P3 (Ic (pv 0) Ie)) (Iw MQ (Iw Ly Ih Ih) (Iw Ly Ih Ih)))))
  (Ik (LX (N':=["cell"]) (js:=[none]) (i:=2) G5.nd rfl (Or.inl rfl) rfl (Jq (N:=["script","great","small","seed","number"]) (outer:=Iu N2) (by decide+kernel)) (Jx (KW Nt (pv 0) Lb (Lc Ih))) (λ_ _ _ _ _=>(Iv (i:=0) Md rfl (Or.inl rfl))) (λ_ _ _ _ _=>Ks (IG MH (IB Qo rfl B.abs_ P3 (Ic (pv 0) Ie)) (Iw Ly Ih Ih) (IK _))) (λ_ _ _ _ _=>(Iw L6 (pv 0) Ih)))
  (Ik (I0 (i:=3) G5.nd rfl (Or.inl rfl) (Iw Jg Ih (IB Jb rfl B.len_ IW (Ic (pv 2) Ie))))
  (Ik (JS AO rfl (Jx (pv 2)) (Iv (i:=4) G5.nd rfl (Or.inl rfl)) (Im (I0 (i:=3) G5.nd rfl (Or.inl rfl) (Iw L6 (Iw Jg (Iw Jg (Iw MQ (pv 3) Ih) (Iw MQ (pv 4) Ih)) Ih) Ih))))
  (Im (Iz (Js (Ic (pv 1) (Ic (pv 2) (Ic (pv 3) (Ic Ih Ie))))))))))),?_⟩
 have cut:Jd (ns.map V.int) none (some 63)=ns.map V.int:=by unfold Jd;rw[show HT.sIx (ns.map V.int).length 0 none=0 from rfl,show HT.sIx (ns.map V.int).length (ns.map V.int).length (some 63)=min 63 (ns.map V.int).length from HT.sIx_nat _ _ 63];rw[FR];exact AX (by rw[Ab];omega)
 have m60:Sc (10^(60:Int).toNat) (10^(60:Int).toNat):=⟨by decide,by decide⟩;refine⟨_,rfl,_,rfl,a,_,rfl,hS,λp1 hp1=>⟨p1,rfl,⟨_,SqL.of Ij⟩,λp hp=>?_⟩⟩;refine OJ (cap:=[]) ns (λn=>(if n<0 then -n else n)%(10^(60:Int).toNat*10^(60:Int).toNat)) (λn=>decide ((10:Int)^(18:Int).toNat≤(if n<0 then -n else n))) (by omega) (SqL.of (by rw[Ij,cut])) hp ?_ ?_ ?_ ?_
 · rfl
 · exact λn H' R s r=>⟨_,rfl,_,rfl,_,_,rfl,rfl,JU (by decide) (by decide),_,_,rfl,rfl,_,rfl,r⟩
 · exact λn H' R s r=>⟨_,rfl,_,rfl,_,_,rfl,rfl,JU (by decide) (by decide),_,_,rfl,rfl,JU (by decide) (by decide),_,_,rfl,rfl,m60,_,_,rfl,rfl,(by show(0:Int)<10^(60:Int).toNat*10^(60:Int).toNat;decide),r⟩
 intro H1 s1 h1;have t1:Same H H1:=(Iq hp1 _).trans s1;have pn1:H p=none:=(Iq hp1 _).free hp;refine⟨_,rfl,_,rfl,a,_,rfl,t1.seq hS,λp2 hp2=>⟨p2,rfl,⟨_,SqL.of Ij⟩,λp' hp'=>?_⟩⟩;refine OJ (cap:=[]) ns (λn=>n%2147483563) (λn=>decide ((if n<0 then -n else n)<(10:Int)^(18:Int).toNat)) (by omega) (SqL.of (by rw[Ij,cut])) hp' ?_ ?_ ?_ ?_
 · rfl
 · exact λn H' R s r=>⟨_,rfl,_,rfl,_,_,rfl,rfl,JU (by decide) (by decide),_,_,rfl,rfl,_,rfl,r⟩
 · exact λn H' R s r=>⟨_,rfl,_,_,rfl,rfl,(by show(0:Int)<2147483563;decide),r⟩
 intro H2 s2 h2;have t12:Same H1 H2:=(Iq hp2 _).trans s2;have t2:Same H H2:=t1.trans t12;have g2:=t12 _ _ h1;have n2:H1 p'=none:=(Iq hp2 _).free hp';have lb:∀x∈(ns.filter λn=>decide ((if n<0 then -n else n)<(10:Int)^(18:Int).toNat)).map (λn=>n%2147483563),0≤x∧x<wM:=λx hx=>by obtain⟨y,_,rfl⟩:=Az.mp hx;exact⟨B_ _ (by decide),BG _ (by decide)⟩
 have ll:=AC (λn=>decide ((if n<0 then -n else n)<(10:Int)^(18:Int).toNat)) ns
 have gg:=AC (λn=>decide ((10:Int)^(18:Int).toNat≤(if n<0 then -n else n))) ns
 generalize hls:(ns.filter λn=>decide ((if n<0 then -n else n)<(10:Int)^(18:Int).toNat)).map (λn=>n%2147483563)=ls at*
 have lz:ls.length≤63:=by rw[←hls,Ab];omega
 generalize hgs:(ns.filter λn=>decide ((10:Int)^(18:Int).toNat≤(if n<0 then -n else n))).map (λn=>(if n<0 then -n else n)%(10^(60:Int).toNat*10^(60:Int).toNat))=gs at*
 have gz:gs.length≤63:=by rw[←hgs,Ab];omega
 refine⟨_,rfl,p',_,rfl,.inl (SqL.of h2),_,_,rfl,rfl,?_⟩
 let Pv7:Nat→L2.St→Hp→Prop:=λi σ H'=>∃(st:Int)(x4:Option V),σ=[some (.ref a),some (.ref p),some (.ref p'),some (.int st),x4]∧H'=H2∧0≤st∧st<wM
 refine⟨_,rfl,p',rfl,⟨_,SqL.of h2⟩,Lv (K:=K) (a:=p') (xs:=ls.map V.int) Pv7 ⟨_,none,rfl,rfl,by omega,by rw[Ab];unfold wM;omega⟩ (λi σ H' _ ⟨_,_,_,e,_⟩=>by rw[e];exact SqL.of h2) ?_ ?_⟩
 · rintro i x σ H' hx ⟨st,x4,rfl,rfl,z0,z1⟩;rw[Aj] at hx;cases hn:ls[i]? with
   | none=>rw[hn] at hx;cases hx
   | some y=> rw[hn] at hx;obtain rfl:V.int y=x:=AD hx;obtain⟨y0,y1⟩:=lb y (Ak hn);have sm:∀z:Int,z.natAbs<2^100→z.natAbs<2^1000:=λz h=>AG h (by decide);refine⟨_,rfl,_,_,rfl,rfl,⟨sm _ (by unfold wM at z1;omega),by decide⟩,_,rfl,_,_,rfl,rfl,⟨sm _ (by unfold wM at y1;omega),by decide⟩,_,_,rfl,rfl,_,_,rfl,rfl,_,_,rfl,rfl,(by show(0:Int)<2147483563;decide),_,_,rfl,rfl,B_ _ (by decide),BG _ (by decide)⟩
 · rintro σ H' ⟨st,x4,rfl,rfl,z0,z1⟩;refine⟨_,rfl,_,rfl,_,rfl,Sb,λp5 hp5=>?_⟩;have s5:=Iq hp5 (.lst [V.ref p,V.ref p',V.int st,V.int 0]);exact q p5 p p' _ ⟨⟨gs,ls,st,0,Ij,s5 _ _ g2,s5 _ _ h2,gz,lz,lb,z0,z1,by decide,by decide⟩,J2 h1 n2,(J2 g2 hp5).symm,(J2 h2 hp5).symm⟩ (t2.trans s5) (t2.free hp5) pn1
theorem zhe(F:Fun K "_law_take" "_law_take" QF f fd)  :FnOk P w K mg base IC 1 f fd ["well","many"] (Te):=by
 refine F.ok G6 (λvs H Q E h=>?_) (λcdv A outer s H vs Q E hr h=>?_)
 · obtain⟨b,g,l,n,many,rfl,Bg,hn,hm,hm2,q⟩:=h;rfl
 obtain⟨b,g,l,n,many,rfl,Bg,hn,hm,hm2,q⟩:=h;refine⟨_,(Ik (IL (IG (O9 (Kb hr)) (IE IV (pv 0) Ih (λ_ _=>rfl)) (Js Ie) (IK _)) (Ik (I0 (i:=2) G6.nd rfl (Or.inl rfl) (IE IV (IE IV (pv 0) Ih (λ_ _=>rfl)) Ih (λ_ _=>rfl)))
  (Ik (Kf (Iw OQ (pv 2) (pv 1)) (Np (IE IV (pv 0) Ih (λ_ _=>rfl)) Ih NG))
  (Ik (IL (IG MH (pv 2) (pv 1) (IK _)) (Im (K0 (KE AU El Em Qq (IE IV (pv 0) Ih (λ_ _=>rfl)) (Ic Ih Ie)))) IN)
  (Im (Iz (Iw L6 (pv 2) (pv 1))))))) IN)
  (Ik (Kf (Iw Jg (IE IV (pv 0) Ih (λ_ _=>rfl)) Ih) (Np (pv 0) Ih NG))
  (Ik (I0 (i:=3) G6.nd rfl (Or.inl rfl) Ih)
  (Ik (IL (IG (O9 (Kb hr)) (IE IV (pv 0) Ih (λ_ _=>rfl)) (Js Ie) (IK _)) (Im (I0 (i:=3) G6.nd rfl (Or.inl rfl) (Iw Jg (IE IV (IE IV (pv 0) Ih (λ_ _=>rfl)) (Iw L6 (IE IV (pv 0) Ih (λ_ _=>rfl)) (IB Jb rfl B.len_ IW (Ic (IE IV (pv 0) Ih (λ_ _=>rfl)) Ie))) (λ_ _=>rfl)) Ih))) IN)
  (Ik (I0 (i:=2) G6.nd rfl (Or.inl rfl) (Iw L6 (Iw Ly (Iw Jg (IE IV (pv 0) Ih (λ_ _=>rfl)) (Iw MQ (pv 3) (Iw Jg (Iw MQ (IE IV (pv 0) Ih (λ_ _=>rfl)) Ih) Ih))) Ih) Ih))
  (Ik (Kf (Iw L6 (Iw Jg (Iw Jg (Iw MQ (IE IV (pv 0) Ih (λ_ _=>rfl)) Ih) (pv 2)) (IE IV (pv 0) Ih (λ_ _=>rfl))) Ih) (Np (pv 0) Ih NG))
  (Im (Iz (Iw L6 (Iw OQ (pv 2) Ih) (pv 1)))))))))),?_⟩
 obtain⟨gs,ls,sd,c,e1,e2,e3,z1,z2,z4,z5,z6,z7,z8⟩:=id Bg.ex;refine⟨_,rfl,b,_,0,_,rfl,rfl,SqL.of e1,rfl,K9,λp hp=>?_⟩;have s1:=Iq hp (.lst []);have B2:=Bg.same s1;have e1':=s1 _ _ e1;have e2':=s1 _ _ e2;have e3':=s1 _ _ e3;refine SA (SqL.of e2') (SqL.of Ij) ⟨_,rfl,?_⟩;generalize upd H p (.lst [])=H2 at*;have S2:SameB b g H H2:=s1.sameB;clear s1;have bg:=Bg.bg;have bl:=Bg.bl;have gl:=Bg.gl;cases gs with
 | cons x r=>
  refine Ii ?_;refine⟨_,rfl,b,_,0,_,rfl,rfl,SqL.of e1',rfl,g,_,0,_,rfl,rfl,SqL.of e2',RU,?_⟩;refine⟨_,rfl,_,rfl,_,_,rfl,rfl,⟨hm,Int.lt_of_lt_of_le hm2 (by decide)⟩,_,rfl,b,_,0,_,rfl,rfl,SqL.of e1',rfl,g,_,0,0,rfl,rfl,e2',Wk,?_⟩;have f2:(upd H2 g (.lst (((x::r).map V.int).set 0 (V.int (x / many))))) g=some (.lst (((x / many)::r).map V.int)):=Ij;have f1:(upd H2 g (.lst (((x::r).map V.int).set 0 (V.int (x / many))))) b=some (.lst [V.ref g,V.ref l,V.int sd,V.int c]):=by rw[Iy bg];exact e1'
  have f3:(upd H2 g (.lst (((x::r).map V.int).set 0 (V.int (x / many))))) l=some (.lst (ls.map V.int)):=by rw[Iy (CL gl)];exact e3'
  have S3:SameB b g H (upd H2 g (.lst (((x::r).map V.int).set 0 (V.int (x / many))))):=λa o h1 h2 h3=>by rw[Iy h3];exact S2 a o h1 h2 h3
  dsimp only;generalize upd H2 g (.lst (((x::r).map V.int).set 0 (V.int (x / many))))=H3 at*;refine⟨_,rfl,_,rfl,_,_,rfl,rfl,_,rfl,IR (λ_=>?_) (λ_=>?_)⟩
  · refine⟨_,rfl,b,_,0,_,rfl,rfl,SqL.of f1,rfl,.inl ⟨rfl,_,SqL.of f2⟩,g,_,0,0,_,rfl,rfl,f2,by decide,by decide,(PF (Wk (x:=V.int (x / many)) (r:=r.map V.int))).1,rfl,?_⟩;refine⟨_,rfl,_,rfl,_,_,rfl,rfl,hm,q _ _ (B_ _ (by omega)) (BG _ hm) ⟨⟨r,ls,sd,c,?_,Ij,?_,by simp only[AB] at z1;omega,z2,z4,z5,z6,z7,by omega⟩,gl,bg,bl⟩ ?_⟩
    · rw[Iy bg];exact f1
    · rw[Iy (CL gl)];exact f3
    · intro a o h1 h2 h3;rw[Iy h3];exact S3 a o h1 h2 h3
  · exact⟨_,rfl,_,rfl,_,_,rfl,rfl,hm,q _ _ (B_ _ (by omega)) (BG _ hm) ⟨⟨x / many::r,ls,sd,c,f1,f2,f3,by simp only[AB] at z1 ⊢;omega,z2,z4,z5,z6,z7,by omega⟩,gl,bg,bl⟩ S3⟩
 | nil=>
  refine Ig ?_;refine⟨_,rfl,b,_,3,_,rfl,rfl,SqL.of e1',rfl,_,_,rfl,rfl,_,rfl,b,_,3,3,rfl,rfl,e1',rfl,?_⟩;have f1:(upd H2 b (.lst ([V.ref g,V.ref l,V.int sd,V.int c].set 3 (V.int (c+1))))) b=some (.lst [V.ref g,V.ref l,V.int sd,V.int (c+1)]):=Ij;have f2:(upd H2 b (.lst ([V.ref g,V.ref l,V.int sd,V.int c].set 3 (V.int (c+1))))) g=some (.lst []):=by rw[Iy (CL bg)];exact e2'
  have f3:(upd H2 b (.lst ([V.ref g,V.ref l,V.int sd,V.int c].set 3 (V.int (c+1))))) l=some (.lst (ls.map V.int)):=by rw[Iy (CL bl)];exact e3'
  have S3:SameB b g H (upd H2 b (.lst ([V.ref g,V.ref l,V.int sd,V.int c].set 3 (V.int (c+1))))):=λa o h1 h2 h3=>by rw[Iy h2];exact S2 a o h1 h2 h3
  dsimp only;generalize upd H2 b (.lst ([V.ref g,V.ref l,V.int sd,V.int c].set 3 (V.int (c+1))))=H3 at*;have c1:0≤c+1:=by omega
  have c2:c+1≤2^41:=by omega
  refine IZ ?_;intro σ7;dsimp only;refine Lw (λσ' H'=>∃(cell:Int),σ'=[some (.ref b),some (.int many),none,some (.int cell)]∧1≤cell∧cell≤wM∧H' b=some (.lst [V.ref g,V.ref l,V.int sd,V.int (c+1)])∧H' g=some (.lst [])∧H' l=some (.lst (ls.map V.int))∧SameB b g H H') (λZ hZ=>?_) ?_
  · refine⟨_,rfl,b,_,1,_,rfl,rfl,SqL.of f1,rfl,K9,λp4 hp4=>?_⟩;have s4:=Iq hp4 (.lst []);have k1:=s4 _ _ f1;have k2:=s4 _ _ f2;have k3:=s4 _ _ f3;have S4:=S3.trans s4.sameB;refine SA (SqL.of k3) (SqL.of Ij) ⟨_,rfl,?_⟩;generalize upd H3 p4 (.lst [])=H4 at*;cases ls with
    | nil=>exact Ig (hZ _ _ ⟨1,rfl,by decide,by decide,k1,k2,k3,S4⟩)
    | cons y ys=>
     refine Ii ?_;have lpos:(0:Int)<(((y::ys).map V.int).length:Int):=by rw[Ab,AB];omega
     have i0:=B_ (c+1) (Int.ne_of_gt lpos);have i1:=BG (c+1) lpos;obtain⟨v,hv,hvm⟩:=Ww (ls:=y::ys) i0 (by rw[Ab] at i1 ⊢;exact i1);obtain⟨v0,v1⟩:=z4 v hvm;refine⟨_,rfl,b,_,1,_,rfl,rfl,SqL.of k1,rfl,_,rfl,b,_,3,_,rfl,rfl,SqL.of k1,rfl,_,rfl,b,_,1,_,rfl,rfl,SqL.of k1,rfl,l,_,rfl,.inl (SqL.of k3),_,_,rfl,rfl,lpos,l,_,_,_,rfl,rfl,SqL.of k3,hv,_,_,rfl,rfl,?_⟩;exact hZ _ _ ⟨v+1,rfl,by omega,by omega,k1,k2,k3,S4⟩
  rintro σ' H4 ⟨cell,rfl,l0,l1,k1,k2,k3,S4⟩;have sm:∀z:Int,z.natAbs<2^900→z.natAbs<2^1000:=λz h=>AG h (by decide);have b3:(c+1).natAbs<2^900:=BD (show(c+1).natAbs≤2^41 by omega) (by decide);have b4:((c+1)*3163+1).natAbs<2^900:=BD (show((c+1)*3163+1).natAbs≤2^60 by omega) (by decide);have b5:cell.natAbs<2^900:=BD (show cell.natAbs≤2^60 by unfold wM at l1;omega) (by decide);have big:(sd+cell*((c+1)*3163+1)).natAbs<2^1000:=by
   have a5:cell*((c+1)*3163+1)≤2^60*2^60:=FV (by unfold wM at l1;omega) (by omega) (by omega) (by decide);have a6:0≤cell*((c+1)*3163+1):=Int.mul_nonneg (by omega) (by omega);generalize cell*((c+1)*3163+1)=y at*;have a8:(sd+y).natAbs<2^125:=by unfold wM at z6;omega
   exact AG a8 (by decide)
  refine⟨_,rfl,b,_,2,_,rfl,rfl,SqL.of k1,rfl,_,rfl,_,rfl,b,_,3,_,rfl,rfl,SqL.of k1,rfl,_,_,rfl,rfl,⟨sm _ b3,by decide⟩,_,_,rfl,rfl,_,_,rfl,rfl,⟨sm _ b5,sm _ b4⟩,_,_,rfl,rfl,_,_,rfl,rfl,⟨by decide,by decide,big⟩,_,_,rfl,rfl,(by show(0:Int)<2147483563;decide),?_⟩;dsimp only;generalize(sd+cell*((c+1)*3163+1))^(5:Int).toNat=y;have y0:=B_ y (show(2147483563:Int)≠0 by decide);have y1:=BG y (show(0:Int)<2147483563 by decide);generalize y%2147483563=u at*;have b6:sd.natAbs<2^1000:=sm _ (BD (show sd.natAbs≤2^60 by unfold wM at z6;omega) (by decide));refine⟨_,rfl,b,_,2,_,rfl,rfl,SqL.of k1,rfl,_,_,rfl,rfl,⟨b6,by decide⟩,_,rfl,_,_,rfl,rfl,_,rfl,b,_,3,_,rfl,rfl,SqL.of k1,rfl,_,_,rfl,rfl,_,_,rfl,rfl,(by show(0:Int)<2147483563;decide),?_⟩;refine⟨_,rfl,b,_,2,2,rfl,rfl,k1,rfl,?_⟩;dsimp only;generalize sd*40692+u+(c+1)=v;have v0:=B_ v (show(2147483563:Int)≠0 by decide);have v1:=BG v (show(0:Int)<2147483563 by decide);generalize v%2147483563=t at*;refine⟨_,rfl,_,_,rfl,rfl,⟨by decide,by decide⟩,_,rfl,_,_,rfl,rfl,hm,?_⟩;refine q _ _ (B_ _ (by omega)) (BG _ hm) ⟨⟨[],ls,t,c+1,Ij,?_,?_,by simp,z2,z4,v0,v1,c1,by omega⟩,gl,bg,bl⟩ ?_
  · rw[Iy (CL bg)];exact k2
  · rw[Iy (CL bl)];exact k3
  · intro a o h1 h2 h3;rw[Iy h2];exact S4 a o h1 h2 h3
theorem zhk(F:Fun K "_law_name" "_law_name" OY f fd)(Hw:Γ32 P w K mg base):FnOk P w K mg base IC 2 f fd ["well","most"] (Ta):=by
 refine F.ok G7 (λvs H Q E h=>?_) (λcdv A outer s H vs Q E hr h=>?_)
 · obtain⟨b,g,l,n,most,rfl,Bg,hn,m1,m8,q⟩:=h;rfl
 obtain⟨b,g,l,n,most,rfl,Bg,hn,m1,m8,q⟩:=h;refine⟨_,(Ik (I0 (i:=2) G7.nd rfl (Or.inr rfl) No)
  (Im (Iz (KE PySem.F.plainAttrs_str PySem.F.slot_str_join PySem.F.type_str_join Yw No (Ic (JZ (N':=["k","well","letters"]) (js:=[none,some 0,some 2]) rfl (Jq (N:=["well","most","letters"]) (outer:=Iu OY) (by decide+kernel)) (Le rfl B.range_ (Ic (Iw Jg Ih (Ip Hw (hr.mono (by decide)) rfl (Ic (pv 0) (Ic (pv 1) Ie)))) Ie)) (λ_ _ _ _ _=>(Iv (i:=0) Oi rfl (Or.inl rfl))) (λ_ _ _ _ _=>Kn) (λ_ _ _ _ _=>(IE SI (pv 2) (Ip Hw (hr.mono (by decide)) rfl (Ic (pv 1) (Ic Ih Ie))) (λ_ _=>rfl)))) Ie))))),?_⟩
 refine IZ ?_;intro σ8;refine⟨rfl,_,rfl,_,rfl,b,g,l,n,most,rfl,Bg,by omega,by omega,Ki (by omega),λr H2 r0 r1 B2 S2=>?_⟩;refine⟨_,_,rfl,rfl,_,rfl,by omega,by omega,λp hp=>?_⟩;obtain⟨pb,pg,pl⟩:=B2.free hp;have s3:=Iq hp (.lst []);have np:H p=none:=B2.back S2 p hp;refine Mx (n:=(1+r).toNat) (λi σ' ys H'=>(∃v,σ'=[v,some (.ref b),some (.str "abcdefghijklmnopqrstuvwxyz")])∧SameB b g H H'∧Well H' b g l (n+1+i)∧H' p=some (.lst ys)∧∃cs:List Nat,ys=(cs.map λc=>(⟨#[c]⟩:Str)).map V.str∧cs.length=i∧∀c∈cs,LW c=true) ?_ ?_ ?_ ?_
 · exact⟨⟨none,rfl⟩,S2.trans s3.sameB,(B2.same s3).mono (by omega),Ij,[],rfl,rfl,λc hc=>by simp at hc⟩
 · rintro i σ' ys H' hi ⟨_,_,_,h1,cs,rfl,h2,_⟩;exact⟨h1,by rw[Ab,Ab,h2];exact Je (by omega)⟩
 · rintro i σ' ys H4 N hi ⟨⟨v,rfl⟩,S4,B4,h1,cs,rfl,h2,h3⟩ hN;refine⟨_,rfl,_,rfl,b,g,l,_,26,rfl,B4,by omega,by decide,by decide,λk H5 k0 k1 B5 S5=>?_⟩;obtain⟨c,hc,ok⟩:=Sf k0 k1;have h5:=S5 _ _ h1 pb pg;refine⟨_,_,c,rfl,rfl,(by show 26≤A1;decide),hc,h5,hN _ _ _ ⟨⟨_,rfl⟩,?_,?_,Ij,cs++[c],?_,?_,?_⟩⟩
   · exact(S4.trans S5).off np
   · exact(B5.off pb pg pl).mono (by omega)
   · rw[Ao,Ao];rfl
   · rw[Aw,h2];rfl
   · intro c' hc';rcases A9.mp hc' with z | z
     · exact h3 c' z
     · rw[Am.mp z];exact ok
 · rintro σ' ys H4 ⟨_,S4,B4,h1,cs,rfl,h2,h3⟩;refine⟨_,_,_,rfl,rfl,SqL.of h1,Yt cs (by omega),q _ _ (ziY (by omega) (by omega) h3) (B4.mono (by omega)) S4⟩
theorem zfz(F:Fun K "_law_fields" "_law_fields" QS f fd)(Hx:Γ33 P w K mg base)(Hw:Γ32 P w K mg base):FnOk P w K mg base IC 3 f fd ["well","many"] (Ve):=by
 refine F.ok G8 (λvs H Q E h=>?_) (λcdv A outer s H vs Q E hr h=>?_)
 · obtain⟨b,g,l,n,many,rfl,Bg,hn,m1,m6,q⟩:=h;rfl
 obtain⟨b,g,l,n,many,rfl,Bg,hn,m1,m6,q⟩:=h;refine⟨_,(Ik (I0 (i:=2) G8.nd rfl (Or.inl rfl) No)
  (Ik (I0 (i:=3) G8.nd rfl (Or.inl rfl) (Js (Ic (Ip Hx (hr.mono (by decide)) rfl (Ic (pv 0) (Ic Ih Ie))) Ie)))
  (Ik (JS AO rfl (Le rfl B.range_ (Ic (Ip Hw (hr.mono (by decide)) rfl (Ic (pv 0) (Ic (pv 1) Ie))) Ie)) (Iv (i:=4) G8.nd rfl (Or.inl rfl)) (Ik (I0 (i:=5) G8.nd rfl (Or.inl rfl) (Ip Hw (hr.mono (by decide)) rfl (Ic (pv 0) (Ic Ih Ie))))
  (Ik (I0 (i:=6) G8.nd rfl (Or.inl rfl) (IE IV (pv 3) (Ip Hw (hr.mono (by decide)) rfl (Ic (pv 0) (Ic (IB Jb rfl B.len_ IW (Ic (pv 3) Ie)) Ie))) (λ_ _=>rfl)))
  (Ik (I0 (i:=7) G8.nd rfl (Or.inl rfl) (IE SI (pv 2) (Ip Hw (hr.mono (by decide)) rfl (Ic (pv 0) (Ic Ih Ie))) (λ_ _=>rfl)))
  (Ik (I0 (i:=8) G8.nd rfl (Or.inl rfl) (Ip Hw (hr.mono (by decide)) rfl (Ic (pv 0) (Ic (IB VY rfl B.len_ IW (Ic (pv 6) Ie)) Ie))))
  (Ik (I0 (i:=9) G8.nd rfl (Or.inl rfl) (KW PZ (IE IV (Js (Ic (Iw OV (pv 7) (pv 6)) (Ic (Iw OV (pv 6) (pv 7)) (Ic (Iw OV (Iw OV (KW PZ (pv 6) Lb (Lc (pv 8))) (pv 7)) (KW PZ (pv 6) (Lc (Iw Jg (pv 8) Ih)) Lb)) (Ic (pv 7) Ie))))) (pv 5) (λ_ _=>rfl)) Lb (Lc Ih)))
  (Ik (IL (IG JH (pv 5) Ih (IK _)) (Im (I0 (i:=9) G8.nd rfl (Or.inl rfl) (Ip Hx (hr.mono (by decide)) rfl (Ic (pv 0) (Ic Ih Ie))))) IN)
  (Im (IL (IG QO (pv 9) (pv 3) (by with_unfolding_all rfl)) (Im (K0 (KE AU Bf Bh Ld (pv 3) (Ic (pv 9) Ie)))) IN)))))))))
  (Im (Iz (IB zgN rfl B.sorted_ Vn (Ic (pv 3) Ie))))))),?_⟩
 refine IZ ?_;intro σ9;refine⟨_,rfl,b,g,l,n,7,rfl,Bg,by omega,by decide,by decide,λx0 H1 ok0 B1 S1=>?_⟩;refine⟨LQ,λr hr'=>?_⟩;obtain⟨rb,rg,rl⟩:=B1.free hr';have nr:H r=none:=B1.back S1 r hr';have s2:=Iq hr' (.lst [V.str x0]);have e2:(upd H1 r (.lst [V.str x0])) r=some (.lst [V.str x0]):=Ij;have B2:=B1.same s2;have S2:=S1.trans s2.sameB;generalize upd H1 r (.lst [V.str x0])=H2 at*;refine⟨_,rfl,_,rfl,b,g,l,_,many,rfl,B2,by omega,by omega,Ki (by omega),λc H3 c0 c1 B3 S3=>?_⟩;have e3:=S3 _ _ e2 rb rg;have S03:=S2.trans S3
 let Pv8:Nat→L2.St→Hp→Prop:=λi σ H'=>(∃y4 y5 y6 y7 y8 y9,σ=[some (.ref b),some (.int many),some (.str "abcdefghijklmnopqrstuvwxyz"),some (.ref r),y4,y5,y6,y7,y8,y9])∧SameB b g H H'∧Well H' b g l (n+13+20*i)∧∃ts:List Str,H' r=some (.lst (ts.map V.str))∧ts.Nodup∧1≤ts.length∧ts.length≤i+1∧∀t∈ts,FieldOk t
 refine⟨c,rfl,by omega,by omega,N5 (lo:=0) (n:=c.toNat) Pv8 ?_ ?_ ?_⟩
 · exact⟨⟨none,none,none,none,none,none,rfl⟩,S03,B3.mono (by omega),[x0],e3,by simp,by simp,by simp,λt ht=>by rw[Am.mp ht];exact ok0⟩
 · rintro i σ H4 hi ⟨⟨y4,y5,y6,y7,y8,y9,rfl⟩,S4,B4,ts,e4,nd,l1,l2,ok⟩;refine⟨_,rfl,b,g,l,_,4,rfl,B4,by omega,by decide,by decide,λpick H5 p0 p1 B5 S5=>?_⟩;have e5:=S5 _ _ e4 rb rg;refine⟨_,rfl,_,rfl,_,rfl,r,_,rfl,.inl (SqL.of e5),b,g,l,_,_,rfl,B5,by omega,by rw[Ab];omega,Ki (by rw[Ab];omega),λk H6 k0 k1 B6 S6=>?_⟩;have e6:=S6 _ _ e5 rb rg;rw[Ab] at k1;obtain⟨j,rfl⟩:∃j:Nat,k=(j:Int):=⟨k.toNat,by omega⟩;obtain⟨first,ef⟩:∃f,ts[j]?=some f:=⟨ts[j]'(by omega),Au (by omega)⟩
   have hf:Jp (ts.map V.str) (j:Int)=some (V.str first):=JN (by rw[Aj,ef];rfl)
   have okf:=ok first (Ak ef)
   refine⟨r,_,_,_,rfl,rfl,SqL.of e6,hf,?_⟩;refine⟨_,rfl,_,rfl,b,g,l,_,26,rfl,B6,by omega,by decide,by decide,λk H7 k0 k1 B7 S7=>?_⟩;have e7:=S7 _ _ e6 rb rg;obtain⟨c,hc,okc⟩:=Sf k0 k1;refine⟨_,_,c,rfl,rfl,(by show 26≤A1;decide),hc,?_⟩;have okl:FieldOk (⟨#[c]⟩:Str):=⟨by show 1≤1;decide,by show 1≤8;decide,λc' hc'=>by
    have:c'=c:=by simpa using hc'
    rw[this];exact okc⟩
   generalize(⟨#[c]⟩:Str)=letter at*;have f1:=okf.one;have f8:=okf.eight;have g1:=okl.one;have g8:=okl.eight;have sz:(100:Nat)≤A1:=by decide
   refine⟨_,rfl,_,rfl,_,rfl,by omega,b,g,l,_,_,rfl,B7,by omega,by omega,Ki (by omega),λat' H8 a0 a1 B8 S8=>?_⟩;have e8:=S8 _ _ e7 rb rg;have S48:=S4.trans (S5.trans (S6.trans (S7.trans S8)));refine⟨_,rfl,_,rfl,_,_,rfl,rfl,by omega,_,rfl,_,rfl,_,_,rfl,rfl,by omega,_,rfl,_,rfl,_,rfl,first,rfl,by omega,λz1 a1' _ a3 _=>?_⟩
   refine⟨_,rfl,_,_,rfl,rfl,by omega,_,rfl,_,rfl,_,_,rfl,rfl,_,rfl,first,rfl,by omega,λz2 b1 _ b3 _=>?_⟩
   have la:(z1++letter).length=z1.length+letter.length:=by show(z1.cps++letter.cps).size=_;rw[EV];rfl
   refine⟨_,_,rfl,rfl,by omega,_,rfl,Sb,λwl hwl=>?_⟩;have s9:=Iq hwl (.lst [V.str (letter++first),V.str (first++letter),V.str (z1++letter++z2),V.str letter])
   have e9:(upd H8 wl (.lst [V.str (letter++first),V.str (first++letter),V.str (z1++letter++z2),V.str letter])) wl=some (.lst [V.str (letter++first),V.str (first++letter),V.str (z1++letter++z2),V.str letter]):=Ij
   have e8:=s9 _ _ e8;have B9:=B8.same s9;have S49:=S48.trans s9.sameB;generalize upd H8 wl (.lst [V.str (letter++first),V.str (first++letter),V.str (z1++letter++z2),V.str letter])=H9 at*
   have mem2:∀(x y:Str)(c:Nat),c∈(x++y).cps.toList→c∈x.cps.toList∨c∈y.cps.toList:=λx y c hc=>by have:c∈(x.cps++y.cps).toList:=hc;rw[Array.toList_append] at this;exact A9.mp this
   have len2:∀x y:Str,(x++y).length=x.length+y.length:=λx y=>by show(x.cps++y.cps).size=_;rw[EV];rfl
   obtain⟨W,hW,w1,w100,wl'⟩:∃W:Str,Jp [V.str (letter++first),V.str (first++letter),V.str (z1++letter++z2),V.str letter] pick=some (.str W)∧1≤W.length∧W.length≤100∧∀c∈W.cps.toList,LW c=true:=by
    have:pick=0∨pick=1∨pick=2∨pick=3:=by omega
    rcases this with rfl | rfl | rfl | rfl
    · refine⟨_,rfl,by rw[len2];omega,by rw[len2];omega,λc hc=>?_⟩;rcases mem2 _ _ c hc with z | z
      · exact okl.all c z
      · exact okf.all c z
    · refine⟨_,rfl,by rw[len2];omega,by rw[len2];omega,λc hc=>?_⟩;rcases mem2 _ _ c hc with z | z
      · exact okf.all c z
      · exact okl.all c z
    · refine⟨_,rfl,by rw[len2,len2];omega,by rw[len2,len2];omega,λc hc=>?_⟩;rcases mem2 _ _ c hc with z | z
      · rcases mem2 _ _ c z with z | z
        · exact okf.all c (a3 c z)
        · exact okl.all c z
      · exact okf.all c (b3 c z)
    · exact⟨_,rfl,g1,by omega,okl.all⟩
   refine⟨_,rfl,wl,_,_,_,rfl,rfl,SqL.of e9,hW,_,rfl,W,rfl,by omega,λword v1 v2 v3 v4=>?_⟩;have okw:FieldOk word:=⟨v4 8 rfl rfl (by decide) w1,by have:=v2 8 rfl (by decide);omega,λc hc=>wl' c (v3 c hc)⟩;refine IZ ?_;intro σ10;dsimp only;refine Lw (λσ' H'=>∃word:Str,σ'=[some (.ref b),some (.int many),some (.str "abcdefghijklmnopqrstuvwxyz"),some (.ref r),some (.int (0+(i:Int))),some (.int pick),some (.str first),some (.str letter),some (.int at'),some (.str word)]∧FieldOk word∧SameB b g H H'∧Well H' b g l (n+13+20*i+17)∧H' r=some (.lst (ts.map V.str))) (λZ hZ=>?_) ?_
   · refine⟨_,rfl,rfl,_,rfl,IR (λ_=>?_) (λ_=>?_)⟩
     · exact⟨_,rfl,b,g,l,_,8,rfl,B9,by omega,by decide,by decide,λx H10 ok10 B10 S10=>hZ _ _ ⟨x,rfl,ok10,S49.trans S10,B10.mono (by omega),S10 _ _ e8 rb rg⟩⟩
     · exact hZ _ _ ⟨word,rfl,okw,S49,B9.mono (by omega),e8⟩
   rintro σ' H10 ⟨word',rfl,okw',S10,B10,e10⟩;have fl:(ts.map V.str).all Lp=true:=by rw[List.all_map];exact List.all_eq_true.mpr λx _=>rfl
   refine⟨_,rfl,_,rfl,r,_,rfl,.inl (SqL.of e10),rfl,fl,_,rfl,?_⟩;have inE:Nb (.str word') (ts.map V.str)=decide (word'∈ts):=by
    unfold Nb;rw[C8,Bi,Cf,decide_eq_true_iff];constructor
    · rintro⟨x,hx,e⟩;have:x=word':=by simpa [L4] using e
      exact this ▸ hx
    · exact λh=>⟨word',h,by simp[L4]⟩
   rw[inE];by_cases hm:word'∈ts
   · rw[decide_eq_true hm];exact Ig ⟨⟨_,_,_,_,_,_,rfl⟩,S10,B10.mono (by omega),ts,e10,nd,l1,by omega,ok⟩
   · rw[decide_eq_false hm];refine Ii ⟨_,rfl,.inl ⟨rfl,_,SqL.of e10⟩,_,rfl,r,_,_,rfl,rfl,e10,(by rw[Ab];exact Je (by omega)),?_⟩;refine⟨⟨_,_,_,_,_,_,rfl⟩,S10.off nr,(B10.off rb rg rl).mono (by omega),ts++[word'],by rw[Ij,Ao];rfl,?_,by rw[Aw];omega,by rw[Aw];simp;omega,λt ht=>?_⟩
     · rw[BJ];exact⟨nd,by simp,λa ha b hb=>by rw[Am.mp hb];exact λz=>hm (z ▸ ha)⟩
     · rcases A9.mp ht with z | z
       · exact ok t z
       · rw[Am.mp z];exact okw'
 · rintro σ H4 ⟨⟨y4,y5,y6,y7,y8,y9,rfl⟩,S4,B4,ts,e4,nd,l1,l2,ok⟩;refine⟨_,rfl,r,ts,rfl,SqL.of e4,by omega,λz ms mp mso hz=>?_⟩;have s5:=Iq hz (.lst (ms.map V.str));exact q z ms _ (B4.back S4 z hz) Ij (ZZ mso (mp.nodup_iff.mpr nd)) (λf hf=>ok f (mp.mem_iff.mp hf)) (by rw[mp.length_eq];exact l1) (by rw[mp.length_eq];omega) ((B4.same s5).mono (by omega)) (S4.trans s5.sameB)
theorem zhm(F:Fun K "_law_base" "_law_base" Q9 f fd)(Hw:Γ32 P w K mg base):FnOk P w K mg base IC 2 f fd ["well"] (SX):=by
 refine F.ok G9 (λvs H Q E h=>?_) (λcdv A outer s H vs Q E hr h=>?_)
 · obtain⟨b,g,l,n,rfl,Bg,hn,q⟩:=h;rfl
 obtain⟨b,g,l,n,rfl,Bg,hn,q⟩:=h;refine⟨_,(Ik (I0 (i:=1) G9.nd rfl (Or.inl rfl) (Ip Hw (hr.mono (by decide)) rfl (Ic (pv 0) (Ic Ih Ie))))
  (Ik (I0 (i:=2) G9.nd rfl (Or.inl rfl) (Iw Mq Ih (Iw Mp Ih (Ip Hw (hr.mono (by decide)) rfl (Ic (pv 0) (Ic Ih Ie))))))
  (Ik (IL (IG JH (pv 1) Ih (IK _)) (Im (Iz Ih)) IN)
  (Ik (I0 (i:=3) G9.nd rfl (Or.inl rfl) (Ip Hw (hr.mono (by decide)) rfl (Ic (pv 0) (Ic Ih Ie))))
  (Ik (IL (IG JH (pv 1) Ih (IK _)) (Im (I0 (i:=3) G9.nd rfl (Or.inl rfl) (Iw Jg (Iw Mp (Iw Jg (Iw Mp (pv 3) Ih) (Ip Hw (hr.mono (by decide)) rfl (Ic (pv 0) (Ic Ih Ie)))) Ih) (Ip Hw (hr.mono (by decide)) rfl (Ic (pv 0) (Ic Ih Ie)))))) IN)
  (Im (Iz (Iw Mp (pv 2) (Iw L6 (pv 3) (Iw Mq (Iw Ly Ih Ih) Ih)))))))))),?_⟩
 have Pk:(10:Int)^(15:Int).toNat=1000000000000000:=by decide
 refine⟨_,rfl,b,g,l,n,3,rfl,Bg,by omega,by decide,by decide,λpick H1 p0 p1 B1 S1=>?_⟩;refine⟨_,rfl,b,g,l,_,2,rfl,B1,by omega,by decide,by decide,λc H2 c0 c1 B2 S2=>?_⟩;have S02:=S1.trans S2;refine⟨_,_,rfl,rfl,.inl ⟨by decide,by decide⟩,_,_,rfl,rfl,?_⟩;refine⟨_,rfl,rfl,_,rfl,IR (λ_=>q _ _ (by decide) (by decide) (B2.mono (by omega)) S02) (λ_=>?_)⟩;refine⟨_,rfl,b,g,l,_,100000,rfl,B2,by omega,by decide,by decide,λm H3 m0 m1 B3 S3=>?_⟩;have S03:=S02.trans S3;refine IZ ?_;intro σ11;dsimp only;refine Lw (λσ' H'=>∃m:Int,σ'=[some (.ref b),some (.int pick),some (.int (1 - 2*c)),some (.int m)]∧0≤m∧SameB b g H H'∧Well H' b g l (n+5)) (λZ hZ=>?_) ?_
 · refine⟨_,rfl,rfl,_,rfl,IR (λ_=>?_) (λ_=>hZ _ _ ⟨m,rfl,m0,S03,B3.mono (by omega)⟩)⟩;refine⟨_,rfl,_,_,rfl,rfl,.inl ⟨by omega,by omega⟩,_,rfl,b,g,l,_,100000,rfl,B3,by omega,by decide,by decide,λm2 H4 m20 m21 B4 S4=>?_⟩;refine⟨_,_,rfl,rfl,_,_,rfl,rfl,.inl ⟨by omega,by omega⟩,_,rfl,b,g,l,_,100000,rfl,B4,by omega,by decide,by decide,λm3 H5 m30 m31 B5 S5=>?_⟩;exact⟨_,_,rfl,rfl,hZ _ _ ⟨_,rfl,by omega,S03.trans (S4.trans S5),B5.mono (by omega)⟩⟩
 rintro σ' H4 ⟨m,rfl,m0,S4,B4⟩;refine⟨_,rfl,_,rfl,_,_,rfl,rfl,JU (by decide) (by decide),_,_,rfl,rfl,_,_,rfl,rfl,(by show(0:Int)<10^(15:Int).toNat - 1000;decide),?_⟩;dsimp only;rw[Pk];have y0:=B_ m (show(1000000000000000 - 1000:Int)≠0 by decide);have y1:=BG m (show(0:Int)<1000000000000000 - 1000 by decide);generalize m%(1000000000000000 - 1000)=y at*;have hc:c=0∨c=1:=by omega
 refine⟨_,_,rfl,rfl,.inl ⟨by omega,by omega⟩,q _ _ ?_ ?_ B4 S4⟩
 all_goals
  rcases hc with rfl | rfl
  all_goals omega
theorem zhl(F:Fun K "_law_grid" "_law_grid" QA f fd)(Hw:Γ32 P w K mg base)(Hy:Γ35 P w K mg base):FnOk P w K mg base IC 3 f fd ["well"] (SY):=by
 refine F.ok GA (λvs H Q E h=>?_) (λcdv A outer s H vs Q E hr h=>?_)
 · obtain⟨b,g,l,n,rfl,Bg,hn,q⟩:=h;rfl
 obtain⟨b,g,l,n,rfl,Bg,hn,q⟩:=h;refine⟨_,(Ik (I0 (i:=1) GA.nd rfl (Or.inl rfl) (Ip Hw (hr.mono (by decide)) rfl (Ic (pv 0) (Ic Ih Ie))))
  (Ik (I0 (i:=2) GA.nd rfl (Or.inl rfl) Ih)
  (Ik (IL (IG JH (pv 1) Ih (IK _)) (Im (I0 (i:=2) GA.nd rfl (Or.inl rfl) (Iw Jg Ih (Ip Hw (hr.mono (by decide)) rfl (Ic (pv 0) (Ic Ih Ie)))))) IN)
  (Ik (IL (IG JH (pv 1) Ih (IK _)) (Im (I0 (i:=2) GA.nd rfl (Or.inl rfl) (Iw Jg Ih (Iw Mp (Ip Hw (hr.mono (by decide)) rfl (Ic (pv 0) (Ic Ih Ie))) (Ip Hw (hr.mono (by decide)) rfl (Ic (pv 0) (Ic Ih Ie))))))) IN)
  (Im (Iz (Jw (Ic (IB (Zz rfl) rfl B.max_ Wz (Ic (Iw Mq (Iw Ly Ih Ih) (Iw Ly Ih Ih)) (Ic (IB (Q0 rfl) rfl B.min_ P5 (Ic (Iw Mq (Iw Ly Ih Ih) (Iw Ly Ih Ih)) (Ic (Ip Hy (hr.mono (by decide)) rfl (Ic (pv 0) Ie)) Ie))) Ie))) (Ic (pv 2) Ie))))))))),?_⟩
 have Pk:(10:Int)^(15:Int).toNat=1000000000000000:=by decide
 have e13:(10:Int)^(13:Int).toNat=10000000000000:=by decide
 refine⟨_,rfl,b,g,l,n,4,rfl,Bg,by omega,by decide,by decide,λpick H1 p0 p1 B1 S1=>?_⟩;refine IZ ?_;intro σ12;dsimp only;refine YK ?_;refine Lw (λσ' H'=>∃m:Int,σ'=[some (.ref b),some (.int pick),some (.int m)]∧1≤m∧m≤10^10∧SameB b g H H'∧Well H' b g l (n+2)) (λZ hZ=>?_) ?_
 · refine⟨_,rfl,rfl,_,rfl,IR (λ_=>?_) (λ_=>hZ _ _ ⟨1,rfl,by decide,by decide,S1,B1.mono (by omega)⟩)⟩;exact⟨_,rfl,b,g,l,_,1000,rfl,B1,by omega,by decide,by decide,λm2 H4 m20 m21 B4 S4=>⟨_,_,rfl,rfl,hZ _ _ ⟨_,rfl,by omega,by omega,S1.trans S4,B4.mono (by omega)⟩⟩⟩
 rintro σ' H2 ⟨m,rfl,m0,m1,S2,B2⟩;refine Lw (λσ' H'=>∃m:Int,σ'=[some (.ref b),some (.int pick),some (.int m)]∧1≤m∧m≤10^10∧SameB b g H H'∧Well H' b g l (n+4)) (λZ hZ=>?_) ?_
 · refine⟨_,rfl,rfl,_,rfl,IR (λ_=>?_) (λ_=>hZ _ _ ⟨m,rfl,m0,m1,S2,B2.mono (by omega)⟩)⟩;refine⟨_,rfl,b,g,l,_,100000,rfl,B2,by omega,by decide,by decide,λm2 H4 m20 m21 B4 S4=>?_⟩;refine⟨_,rfl,b,g,l,_,100000,rfl,B4,by omega,by decide,by decide,λm3 H5 m30 m31 B5 S5=>?_⟩;have x1:m2*m3≤99999*99999:=FV (by omega) (by omega) m30 (by decide);have x0:0≤m2*m3:=Int.mul_nonneg m20 m30;exact⟨_,_,rfl,rfl,.inl ⟨by omega,by omega⟩,_,_,rfl,rfl,hZ _ _ ⟨_,rfl,by show 1≤1+m2*m3;omega,by show 1+m2*m3≤_;omega,S2.trans (S4.trans S5),B5.mono (by omega)⟩⟩
 rintro σ' H3 ⟨m,rfl,m0,m1,S3,B3⟩;refine⟨_,_,rfl,rfl,JU (by decide) (by decide),_,_,rfl,rfl,JU (by decide) (by decide),_,_,rfl,rfl,_,_,rfl,rfl,JU (by decide) (by decide),_,_,rfl,rfl,JU (by decide) (by decide),_,_,rfl,rfl,_,rfl,b,g,l,_,rfl,B3,by omega,λx H4 x0 x1 B4 S4=>?_⟩;dsimp only;rw[Pk,e13];refine⟨_,_,rfl,_,_,rfl,_,rfl,Ja,λt ht=>?_⟩;have s5:=Iq ht (.tup [V.int (if(if x<1000000000000000 - 10000000000000 then x else 1000000000000000 - 10000000000000)>10000000000000 - 1000000000000000 then(if x<1000000000000000 - 10000000000000 then x else 1000000000000000 - 10000000000000) else 10000000000000 - 1000000000000000),V.int m])
 refine q t _ m _ Ij ?_ ?_ m0 m1 ((B4.same s5).mono (by omega)) ((S3.trans S4).trans s5.sameB)
 · split<;>split<;>omega
 · split<;>split<;>omega
theorem zhf(F:Fun K "_law_span" "_law_span" QE f fd)(Hw:Γ32 P w K mg base):FnOk P w K mg base IC 2 f fd ["well","grid","wide"] (TU):=by
 refine F.ok GB (λvs H Q E h=>?_) (λcdv A outer s H vs Q E hr h=>?_)
 · obtain⟨b,g,l,t,n,lo,sz,wide,rfl,Bg,hn,et,s1,s2,w1,w2,q⟩:=h;rfl
 obtain⟨b,g,l,t,n,lo,sz,wide,rfl,Bg,hn,et,s1,s2,w1,w2,q⟩:=h;refine⟨_,(Ik (I0 (i:=3) GB.nd rfl (Or.inl rfl) (Ip Hw (hr.mono (by decide)) rfl (Ic (pv 0) (Ic Ih Ie))))
  (Ik (I0 (i:=4) GB.nd rfl (Or.inl rfl) (Iw Jg (IE Kk (pv 1) Ih (λ_ _=>rfl)) (Iw Mp (IE Kk (pv 1) Ih (λ_ _=>rfl)) (Ip Hw (hr.mono (by decide)) rfl (Ic (pv 0) (Ic (pv 2) Ie))))))
  (Ik (I0 (i:=5) GB.nd rfl (Or.inl rfl) (Iw Mq (Iw Jg (pv 4) (Iw Mp (IE Kk (pv 1) Ih (λ_ _=>rfl)) (Iw Jg Ih (Ip Hw (hr.mono (by decide)) rfl (Ic (pv 0) (Ic (pv 2) Ie)))))) Ih))
  (Ik (IL (IG JH (pv 3) Ih (IK _)) (Im (Iz (Jw (Ic Nn (Ic Nn Ie))))) IN)
  (Ik (IL (IG JH (pv 3) Ih (IK _)) (Im (Iz (Jw (Ic Nn (Ic (pv 5) Ie))))) IN)
  (Im (Iz (MW (IG JH (pv 3) Ih (IK _)) (Jw (Ic (pv 4) (Ic Nn Ie))) (Jw (Ic (pv 4) (Ic (pv 5) Ie))))))))))),?_⟩
 refine⟨_,rfl,b,g,l,n,8,rfl,Bg,by omega,by decide,by decide,λpick H1 p0 p1 B1 S1=>?_⟩;have e1:=Bg.tup S1 et;refine⟨_,rfl,t,_,0,_,rfl,rfl,SqT.of e1,rfl,_,rfl,t,_,1,_,rfl,rfl,SqT.of e1,rfl,_,rfl,_,rfl,b,g,l,_,wide,rfl,B1,by omega,by omega,Ki (by omega),λx H2 x0 x1 B2 S2=>?_⟩;have e2:=B1.tup S2 e1;refine⟨_,_,rfl,rfl,.inl ⟨by omega,by omega⟩,_,_,rfl,rfl,?_⟩;refine⟨_,rfl,_,rfl,t,_,1,_,rfl,rfl,SqT.of e2,rfl,_,rfl,_,rfl,b,g,l,_,wide,rfl,B2,by omega,by omega,Ki (by omega),λy H3 y0 y1 B3 S3=>?_⟩;have S03:=S1.trans (S2.trans S3);refine⟨_,_,rfl,rfl,_,_,rfl,rfl,.inl ⟨by omega,by omega⟩,_,_,rfl,rfl,_,_,rfl,rfl,?_⟩;have hp:1≤sz*(1+y):=by have:1*1≤sz*(1+y):=FV s1 (by omega) (by decide) (by omega);omega
 dsimp only;generalize sz*(1+y)=d at*;generalize lo+sz*x=L at*;have fin:∀(a b':Option Int),LJ a b'=true→∀r,H3 r=none→Q (.ref r) (upd H3 r (.tup [eV a,eV b'])):=λa b' h r hr=>q r a b' _ Ij h ((B3.same (Iq hr _)).mono (by omega)) (S03.trans (Iq hr _).sameB);refine⟨_,rfl,rfl,_,rfl,IR (λ_=>⟨Ja,fin none none rfl⟩) (λ_=>?_)⟩;refine⟨_,rfl,rfl,_,rfl,IR (λ_=>⟨_,rfl,Ja,fin none (some (L+d - 1)) rfl⟩) (λ_=>?_)⟩;refine⟨_,rfl,rfl,_,rfl,IR (λ_=>⟨_,rfl,Ja,fin (some L) none rfl⟩) (λ_=>⟨_,rfl,_,rfl,Ja,fin (some L) (some (L+d - 1)) (decide_eq_true (by omega))⟩)⟩
theorem zhc(F:Fun K "_law_wish" "_law_wish" QG f fd)(Hw:Γ32 P w K mg base)(Hz:Γ37 P w K mg base):FnOk P w K mg base IC 3 f fd ["well","names","grid","wide"] (TX):=by
 refine F.ok GC (λvs H Q E h=>?_) (λcdv A outer s H vs Q E hr h=>?_)
 · obtain⟨b,g,l,a,t,n,lo,sz,wide,fs,rfl,Bg,hn,FA,et,s1,s2,w1,w2,q⟩:=h;rfl
 obtain⟨b,g,l,a,t,n,lo,sz,wide,fs,rfl,Bg,hn,FA,et,s1,s2,w1,w2,q⟩:=h;refine⟨_,(Ik (I0 (i:=4) GC.nd rfl (Or.inl rfl) (Js Ie))
  (Ik (JS AO rfl (Jx (pv 1)) (Iv (i:=5) GC.nd rfl (Or.inl rfl)) (Im (IL (IG Nm (Ip Hw (hr.mono (by decide)) rfl (Ic (pv 0) (Ic Ih Ie))) Ih (IK _)) (Ik (Kf (Ip Hz (hr.mono (by decide)) rfl (Ic (pv 0) (Ic (pv 2) (Ic (pv 3) Ie)))) (JL rfl (ID (Iv (i:=6) GC.nd rfl (Or.inl rfl)) (ID (Iv (i:=7) GC.nd rfl (Or.inl rfl)) J3))))
  (Im (K0 (KE AU Bf Bh Ld (pv 4) (Ic (Jw (Ic (pv 5) (Ic (pv 6) (Ic (pv 7) Ie)))) Ie))))) IN)))
  (Im (Iz (M3 VW rfl B.tuple_ LY (Ic (pv 4) Ie)))))),?_⟩
 refine⟨K9,λr hr'=>?_⟩;obtain⟨rb,rg,rl⟩:=Bg.free hr';have s0:=Iq hr' (.lst []);have FA0:=FA.sameB s0.sameB;have rf:r≠a:=λe=>by rw[e,FA.at'] at hr';cases hr'
 let Pv9:Nat→L2.St→Hp→Prop:=λi σ H'=>(∃y5 y6 y7,σ=[some (.ref b),some (.ref a),some (.ref t),some (.int wide),some (.ref r),y5,y6,y7])∧SameB b g H H'∧Well H' b g l (n+4*i)∧NamesAt H' b g a fs∧H' t=some (.tup [.int lo,.int sz])∧∃qs:List (Addr×WP),H' r=some (.lst (qs.map λq=>V.ref q.1))∧(∀q∈qs,H' q.1=some (.tup [.str q.2.1,eV q.2.2.1,eV q.2.2.2])∧LJ q.2.2.1 q.2.2.2=true)∧(qs.map (·.2.1)).Sublist (fs.take i)
 refine⟨_,rfl,a,rfl,⟨_,SqL.of FA0.at'⟩,Lv (K:=K) (a:=a) (xs:=fs.map V.str) Pv9 ?_ ?_ ?_ ?_⟩
 · exact⟨⟨none,none,none,rfl⟩,s0.sameB,(Bg.same s0).mono (by omega),FA0,s0 _ _ et,[],Ij,λq hq=>by simp at hq,by simp⟩
 · rintro i σ H' _ ⟨_,_,_,F1,_⟩;exact SqL.of F1.at'
 · rintro i x σ H1 hx ⟨⟨y5,y6,y7,rfl⟩,S1,B1,F1,t1,qs,e1,a1,u1⟩;rw[Aj] at hx;cases ef:fs[i]? with
   | none=>rw[ef] at hx;cases hx
   | some f'=>
    rw[ef] at hx;obtain rfl:V.str f'=x:=AD hx;have li:i<6:=by have:=(Al.mp ef).1;have:=FA.len;omega
    refine⟨_,rfl,b,g,l,_,4,rfl,B1,by omega,by decide,by decide,λc H2 c0 c1 B2 S2=>?_⟩;have e2:=S2 _ _ e1 rb rg;have F2:=F1.sameB S2;have t2:=B1.tup S2 t1;have a2:∀q∈qs,H2 q.1=some (.tup [.str q.2.1,eV q.2.2.1,eV q.2.2.2])∧LJ q.2.2.1 q.2.2.2=true:=λq hq=>⟨B1.tup S2 (a1 q hq).1,(a1 q hq).2⟩;have u2:(qs.map (·.2.1)).Sublist (fs.take (i+1)):=u1.trans (List.take_sublist_take_left (by omega));refine⟨_,_,rfl,rfl,_,rfl,IR (λ_=>?_) (λ_=>?_)⟩
    · refine⟨_,rfl,_,rfl,_,rfl,b,g,l,t,_,lo,sz,wide,rfl,B2,by omega,t2,s1,s2,w1,w2,λv lo' hi' H3 sp le3 B3 S3=>?_⟩;have e3:=S3 _ _ e2 rb rg;have F3:=F2.sameB S3;have t3:=B2.tup S3 t2;have S03:=S1.trans (S2.trans S3);have a3:∀q∈qs,H3 q.1=some (.tup [.str q.2.1,eV q.2.2.1,eV q.2.2.2])∧LJ q.2.2.1 q.2.2.2=true:=λq hq=>⟨B2.tup S3 (a2 q hq).1,(a2 q hq).2⟩;refine⟨v,_,rfl,SqT.of sp,rfl,_,_,rfl,_,_,rfl,rfl,?_⟩;refine⟨_,rfl,.inl ⟨rfl,_,SqL.of e3⟩,_,rfl,_,rfl,_,rfl,MF,λt' ht=>?_⟩;have st:=Iq ht (.tup [V.str f',eV lo',eV hi']);have e4:=st _ _ e3;refine⟨r,_,_,rfl,rfl,e4,(by rw[Ab];have:=u1.length_le;simp at this;exact Je (by omega)),?_⟩;have tl:=OT (o:= .lst (qs.map (λq=>V.ref q.1)++[V.ref t'])) e4;have nr:H r=none:=hr';refine⟨⟨_,_,_,rfl⟩,(S03.trans st.sameB).off nr,((B3.same st).off rb rg rl).mono (by omega),?_,tl _ _ (st _ _ t3),qs++[(t',f',lo',hi')],?_,?_,?_⟩
      · have F4:=F3.sameB st.sameB;exact⟨by rw[Iy rf.symm];exact F4.at',F4.nb,F4.ng,F4.len,F4.ok,F4.asc⟩
      · rw[Ij,Ao];rfl
      · intro q hq;rcases A9.mp hq with z | z
        · exact⟨tl _ _ (st _ _ (a3 q z).1),(a3 q z).2⟩
        · rw[Am.mp z];exact⟨tl _ _ Ij,le3⟩
      · rw[Ao,JI ef];exact u1.append (List.Sublist.refl _)
    · exact⟨⟨_,_,_,rfl⟩,S1.trans S2,B2.mono (by omega),F2,t2,qs,e2,a2,u2⟩
 · rintro σ H1 ⟨⟨y5,y6,y7,rfl⟩,S1,B1,F1,t1,qs,e1,a1,u1⟩;rw[show fs.take (fs.map V.str).length=fs from AX (by simp)] at u1;have ll:qs.length≤6:=by have h1:=u1.length_le;have h2:=FA.len;rw[Ab] at h1;omega
   refine⟨_,rfl,r,_,rfl,.inl ⟨SqL.of e1,λt ht=>?_⟩⟩;have st:=Iq ht (.tup (qs.map λq=>V.ref q.1));have sub:∀q∈qs,q.2.1∈fs:=λq hq=>u1.subset (AF (f:=λ(x:Addr×WP)=>x.2.1) hq);refine q t (qs.map (·.2)) _ ⟨qs,rfl,Ij,λq hq=>st _ _ (a1 q hq).1⟩ ⟨by rw[Ab];omega,λp hp=>?_,?_⟩ (λp hp=>?_) (by rw[Ab];exact ll) ((B1.same st).mono (by rw[Ab];have:=FA.len;omega)) (S1.trans st.sameB)
   · obtain⟨q',hq',rfl⟩:=Az.mp hp;exact⟨FA.ok _ (sub q' hq'),(a1 q' hq').2⟩
   · rw[BF];exact FA.asc.sublist u1
   · obtain⟨q',hq',rfl⟩:=Az.mp hp;exact sub q' hq'
theorem zfu(F:Fun K "_law_wishes" "_law_wishes" QV f fd)(Hw:Γ32 P w K mg base)(HE:Γ38 P w K mg base):FnOk P w K mg base IC 4 f fd ["well","names","grid","wide","many"] (V7):=by
 refine F.ok GD (λvs H Q E h=>?_) (λcdv A outer s H vs Q E hr h=>?_)
 · obtain⟨b,g,l,a,t,n,lo,sz,wide,many,fs,rfl,Bg,hn,FA,et,s1,s2,w1,w2,m0,m1,q⟩:=h;rfl
 obtain⟨b,g,l,a,t,n,lo,sz,wide,many,fs,rfl,Bg,hn,FA,et,s1,s2,w1,w2,m0,m1,q⟩:=h;refine⟨_,(Ik (I0 (i:=5) GD.nd rfl (Or.inl rfl) (Js Ie))
  (Ik (JS AO rfl (Le rfl B.range_ (Ic (pv 4) Ie)) (Iv (i:=6) GD.nd rfl (Or.inl rfl)) (Ik (I0 (i:=7) GD.nd rfl (Or.inl rfl) (Ip Hw (hr.mono (by decide)) rfl (Ic (pv 0) (Ic Ih Ie))))
  (Ik (I0 (i:=8) GD.nd rfl (Or.inl rfl) (Ip HE (hr.mono (by decide)) rfl (Ic (pv 0) (Ic (pv 1) (Ic (pv 2) (Ic (pv 3) Ie))))))
  (Ik (IL (PW.pt (Mr (IG (X5 (Kb hr)) (pv 5) (Js Ie) (IK _)) (M1 (IG MH (pv 7) Ih (IK _))))) (Ik (I0 (i:=9) GD.nd rfl (Or.inl rfl) (IE IV (pv 5) (Ip Hw (hr.mono (by decide)) rfl (Ic (pv 0) (Ic (IB Jb rfl B.len_ IW (Ic (pv 5) Ie)) Ie))) (λ_ _=>rfl)))
  (Ik (I0 (i:=10) GD.nd rfl (Or.inl rfl) (Ip Hw (hr.mono (by decide)) rfl (Ic (pv 0) (Ic (Iw Jg (IB Jb rfl B.len_ IW (Ic (pv 9) Ie)) Ih) Ie))))
  (Im (I0 (i:=8) GD.nd rfl (Or.inl rfl) (MW (IG JH (pv 7) Ih (IK _)) (pv 9) (Iw Yz (KW Ul (pv 9) Lb (Lc (pv 10))) (KW Ul (pv 9) (Lc (Iw Jg (pv 10) Ih)) Lb))))))) IN)
  (Im (K0 (KE AU Bf Bh Ld (pv 5) (Ic (pv 8) Ie))))))))
  (Im (Iz (pv 5))))),?_⟩
 refine⟨K9,λr hr'=>?_⟩;obtain⟨rb,rg,rl⟩:=Bg.free hr';have s0:=Iq hr' (.lst []);have e0:(upd H r (.lst [])) r=some (.lst []):=Ij;have FA0:=FA.sameB s0.sameB;have rf:r≠a:=λe=>by rw[e,FA.at'] at hr';cases hr'
 have nr:H r=none:=hr';have B0:=Bg.same s0;have t0:=s0 _ _ et;generalize upd H r (.lst [])=H0 at*;obtain⟨N,rfl,N1⟩:∃N:Nat,many=(N:Int)∧N≤400:=⟨many.toNat,by omega,by omega⟩
 let Pv10:Nat→L2.St→Hp→Prop:=λi σ H'=>(∃y6 y7 y8 y9 y10,σ=[some (.ref b),some (.ref a),some (.ref t),some (.int wide),some (.int (N:Int)),some (.ref r),y6,y7,y8,y9,y10])∧SameB b g H H'∧Well H' b g l (n+40*i)∧NamesAt H' b g a fs∧H' t=some (.tup [.int lo,.int sz])∧∃ws:List (Addr×List WP),H' r=some (.lst (ws.map λx=>V.ref x.1))∧ws.length=i∧∀x∈ws,WishAt H' x.1 x.2∧WOk x.2∧Nc fs x.2∧x.2.length≤6
 refine⟨_,rfl,_,rfl,by omega,by omega,N5 (lo:=0) (n:=N) Pv10 ?_ ?_ ?_⟩
 · exact⟨⟨none,none,none,none,none,rfl⟩,s0.sameB,B0.mono (by omega),FA0,t0,[],e0,rfl,λx hx=>by simp at hx⟩
 · rintro i σ H1 hi ⟨⟨y6,y7,y8,y9,y10,rfl⟩,S1,B1,F1,t1,ws,e1,lw,g1⟩;refine⟨_,rfl,b,g,l,_,6,rfl,B1,by omega,by decide,by decide,λpick H2 p0 p1 B2 S2=>?_⟩;refine⟨_,rfl,_,rfl,_,rfl,_,rfl,b,g,l,a,t,_,lo,sz,wide,fs,rfl,B2,by omega,F1.sameB S2,B1.tup S2 t1,s1,s2,w1,w2,λwr w H3 W3 ok3 in3 len3 B3 S3=>?_⟩;have S13:=S2.trans S3;have e3:=S13 _ _ e1 rb rg;have F3:=F1.sameB S13;have t3:=B2.tup S3 (B1.tup S2 t1);have g3:∀x∈ws,WishAt H3 x.1 x.2∧WOk x.2∧Nc fs x.2∧x.2.length≤6:=λx hx=>⟨((g1 x hx).1.sameW B1 S2).sameW B2 S3,(g1 x hx).2⟩;refine IZ ?_;intro σ13;dsimp only;refine Lw (λσ' H'=>∃(wr:Addr)(w:List WP)(y9 y10:Option V),σ'=[some (.ref b),some (.ref a),some (.ref t),some (.int wide),some (.int (N:Int)),some (.ref r),some (.int (0+(i:Int))),some (.int pick),some (.ref wr),y9,y10]∧WishAt H' wr w∧WOk w∧Nc fs w∧w.length≤6∧SameB b g H3 H'∧Well H' b g l (n+40*i+35)) (λZ hZ=>?_) ?_
   · refine⟨_,rfl,K9,λep hep=>?_⟩;have s4:=Iq hep (.lst []);have e4:=s4 _ _ e3;have g4:∀x∈ws,WishAt (upd H3 ep (.lst [])) x.1 x.2∧WOk x.2∧Nc fs x.2∧x.2.length≤6:=λx hx=>⟨(g3 x hx).1.same s4,(g3 x hx).2⟩;have B4:=B3.same s4;have W4:=W3.same s4;have h4:(upd H3 ep (.lst [])) ep=some (.lst []):=Ij;generalize upd H3 ep (.lst [])=H4 at*;have nope:Z [some (.ref b),some (.ref a),some (.ref t),some (.int wide),some (.int (N:Int)),some (.ref r),some (.int (0+(i:Int))),some (.int pick),some (.ref wr),y9,y10] H4:=hZ _ _ ⟨wr,w,y9,y10,rfl,W4,ok3,in3,len3,s4.sameB,B4.mono (by omega)⟩;refine⟨r,ep,_,rfl,rfl,e4,h4,_,rfl,?_⟩;by_cases hw:ws=[]
     · subst hw;exact Ig (Ig nope)
     · have wpos:0<ws.length:=List.length_pos_iff.mpr hw;have ne:(ws.map λx=>V.ref x.1).isEmpty=false:=by
        cases ws with
        | nil=>exact absurd rfl hw
        | cons x0 r0=>rfl
       rw[ne];refine Ii ⟨_,rfl,_,_,rfl,rfl,_,rfl,IR (λ_=>?_) (λ_=>nope)⟩;refine⟨_,rfl,_,rfl,_,rfl,r,_,rfl,.inl (SqL.of e4),b,g,l,_,_,rfl,B4,by omega,by rw[Ab];omega,Ki (by rw[Ab];omega),λk H5 k0 k1 B5 S5=>?_⟩;have e5:=S5 _ _ e4 rb rg;rw[Ab] at k1;obtain⟨j,rfl⟩:∃j:Nat,k=(j:Int):=⟨k.toNat,by omega⟩;obtain⟨X1,eX⟩:∃X1,ws[j]?=some X1:=⟨ws[j]'(by omega),Au (by omega)⟩;have hX:Jp (ws.map λx=>V.ref x.1) (j:Int)=some (V.ref X1.1):=JN (by rw[Aj,eX];rfl);obtain⟨x1,x2,x3,x4⟩:=g4 X1 (Ak eX);have x5:=x1.sameW B4 S5;refine⟨r,_,_,_,rfl,rfl,SqL.of e5,hX,?_⟩;obtain⟨xs1,ex1,lx1⟩:=x5.tyN;refine⟨_,rfl,_,rfl,X1.1,_,rfl,.inr (SqT.of ex1),_,_,rfl,rfl,b,g,l,_,_,rfl,B5,by omega,by omega,Ki (by omega),λat' H6 a0 a1 B6 S6=>?_⟩;have x6:=x5.sameW B5 S6;have S36:=s4.sameB.trans (S5.trans S6);refine⟨_,rfl,rfl,_,rfl,IR (λ_=>⟨_,rfl,hZ _ _ ⟨X1.1,X1.2,_,_,rfl,x6,x2,x3,x4,S36,B6.mono (by omega)⟩⟩) (λ_=>?_)⟩;obtain⟨k',rfl⟩:∃k':Nat,at'=(k':Int):=⟨at'.toNat,by omega⟩;obtain⟨ps,hps,hA,hP⟩:=x6;have lps:ps.length≤6:=by rw[←hps,Ab] at x4;exact x4
       refine⟨_,rfl,_,rfl,_,rfl,X1.1,_,rfl,hA,λp1 H12 s12 e12=>?_⟩;rw[Q2 rfl,←List.map_take] at e12;refine⟨_,rfl,_,rfl,_,_,rfl,rfl,_,rfl,X1.1,_,rfl,s12 _ _ hA,λp2 H13 s13 e13=>?_⟩;rw[Vq (n:=k'+1) (by omega),←List.map_drop] at e13;refine⟨p1,p2,_,_,rfl,rfl,s13 _ _ e12,e13,(by rw[Ab,AA,Ab,Dw];exact Lr (by omega)),λr2 H14 s14 e14=>?_⟩;rw[←Ao] at e14;have tt:=s12.trans (s13.trans s14);have sub:(ps.take k'++ps.drop (k'+1)).Sublist ps:=by rw[←List.eraseIdx_eq_take_drop_succ];exact List.eraseIdx_sublist ..
       have subw:((ps.take k'++ps.drop (k'+1)).map (·.2)).Sublist X1.2:=by rw[←hps];exact sub.map _
       refine hZ _ _ ⟨r2,(ps.take k'++ps.drop (k'+1)).map (·.2),_,_,rfl,⟨_,rfl,e14,λx hx=>tt _ _ (hP x (sub.subset hx))⟩,⟨A4 subw.length_le x2.len,λp hp=>x2.ok p (subw.subset hp),x2.asc.sublist (subw.map _)⟩,λp hp=>x3 p (subw.subset hp),A4 subw.length_le x4,S36.trans tt.sameB,(B6.same tt).mono (by omega)⟩
   rintro σ' H5 ⟨wr,w,y9,y10,rfl,W5,ok5,in5,len5,S5,B5⟩;have e5:=S5 _ _ e3 rb rg;have F5:=F3.sameB S5;refine⟨_,rfl,.inl ⟨rfl,_,SqL.of e5⟩,_,rfl,r,_,_,rfl,rfl,e5,(by rw[Ab];exact Je (by omega)),?_⟩;have tl:=OT (o:= .lst (ws.map (λq=>V.ref q.1)++[V.ref wr])) e5;refine⟨⟨_,_,_,_,_,rfl⟩,((S1.trans S13).trans S5).off nr,(B5.off rb rg rl).mono (by omega),⟨by rw[Iy rf.symm];exact F5.at',F5.nb,F5.ng,F5.len,F5.ok,F5.asc⟩,tl _ _ (B3.tup S5 t3),ws++[(wr,w)],by rw[Ij,Ao];rfl,by rw[Aw,lw];rfl,λx hx=>?_⟩;rcases A9.mp hx with z | z
   · exact⟨((g3 x z).1.sameW B3 S5).keep tl,(g3 x z).2⟩
   · rw[Am.mp z];exact⟨W5.keep tl,ok5,in5,len5⟩
 · rintro σ H1 ⟨⟨y6,y7,y8,y9,y10,rfl⟩,S1,B1,F1,t1,ws,e1,lw,g1⟩;exact⟨_,rfl,q r ws _ nr ⟨e1,λx hx=>⟨(g1 x hx).1,(g1 x hx).2.1⟩,by omega⟩ (by omega) (λx hx=>(g1 x hx).2.2) (B1.mono (by omega)) S1⟩
theorem zhi(F:Fun K "_law_part" "_law_part" QB f fd)  :FnOk P w K mg base IC 1 f fd ["wish","field"] (Tb):=by
 refine F.ok GE (λvs H Q E h=>?_) (λcdv A outer s H vs Q E hr h=>?_)
 · obtain⟨a,w',f',rfl,hw,wok,q⟩:=h;rfl
 obtain⟨a,w',f',rfl,hw,wok,q⟩:=h;refine⟨_,(Ik (JS AO rfl (MM (pv 0)) (JL rfl (ID (Iv (i:=2) GE.nd rfl (Or.inl rfl)) (ID (Iv (i:=3) GE.nd rfl (Or.inl rfl)) (ID (Iv (i:=4) GE.nd rfl (Or.inl rfl)) J3)))) (Im (IL (IG JH (pv 2) (pv 1) (IK _)) (Im (Iz (Jw (Ic (pv 3) (Ic (pv 4) Ie))))) IN)))
  (Im (Iz Nn))),?_⟩
 obtain⟨ps,rfl,hA,hP⟩:=hw
 let Pv11:Nat→L2.St→Hp→Prop:=λi σ H'=>(∃y2 y3 y4,σ=[some (.ref a),some (.str f'),y2,y3,y4])∧Same H H'∧∀p∈(ps.map (·.2)).take i,p.1≠f'
 refine⟨_,rfl,a,rfl,⟨_,SqT.of hA⟩,OI (K:=K) (a:=a) (xs:=ps.map λp=>V.ref p.1) Pv11 ⟨⟨none,none,none,rfl⟩,Same.refl _,λp hp=>by simp at hp⟩ (λi σ H' _ ⟨_,s,_⟩=>s.seqT (SqT.of hA)) ?_ ?_⟩
 · rintro i x σ H' hx ⟨⟨y2,y3,y4,rfl⟩,s,hr'⟩;obtain⟨P1,e1,rfl⟩:=Jc hx;have hm:=Ak e1;have ew:(ps.map (·.2))[i]?=some P1.2:=by rw[Aj,e1];rfl
   refine⟨P1.1,_,rfl,SqT.of (s _ _ (hP P1 hm)),rfl,_,_,rfl,_,_,rfl,_,_,rfl,rfl,?_⟩;refine⟨_,rfl,_,rfl,rfl,_,rfl,IR (λe=>?_) (λe=>?_)⟩
   · have e:P1.2.1=f':=by
      have:=of_decide_eq_true e;injection this
     refine⟨_,rfl,_,rfl,Ja,λu hu=>?_⟩;have su:=Iq hu (.tup [eV P1.2.2.1,eV P1.2.2.2]);refine q _ _ (s.trans su) ?_;rw[ZF ew e hr'];exact⟨u,rfl,Ij⟩
   · refine⟨⟨_,_,_,rfl⟩,s,λp hp=>?_⟩;rw[JI ew] at hp;rcases A9.mp hp with z | z
     · exact hr' p z
     · rw[Am.mp z];exact λz=>e (decide_eq_true (by rw[z]))
 · rintro σ H' ⟨_,s,hr'⟩;rw[Ab,AX (by simp)] at hr';refine q _ _ s ?_;rw[VH hr']
theorem zfA(F:Fun K "_law_covers" "_law_covers" QR f fd)(HF:Γ40 P w K mg base):FnOk P w K mg base IC 2 f fd ["one","other"] (S_):=by
 refine F.ok GF (λvs H Q E h=>?_) (λcdv A outer s H vs Q E hr h=>?_)
 · obtain⟨a,b,w1,w2,rfl,hw1,hw2,ok1,ok2,q⟩:=h;rfl
 obtain⟨a,b,w1,w2,rfl,hw1,hw2,ok1,ok2,q⟩:=h;refine⟨_,(Ik (JS AO rfl (MM (pv 0)) (JL rfl (ID (Iv (i:=2) GF.nd rfl (Or.inl rfl)) (ID (Iv (i:=3) GF.nd rfl (Or.inl rfl)) (ID (Iv (i:=4) GF.nd rfl (Or.inl rfl)) J3)))) (Ik (I0 (i:=5) GF.nd rfl (Or.inl rfl) (Ip HF (hr.mono (by decide)) rfl (Ic (pv 1) (Ic (pv 2) Ie))))
  (Ik (IL (Lu (Kr (pv 5))) (Im (Iz J0)) IN)
  (Ik (IL (PW.pt (Mr (Lu (Nq (pv 3))) (M1 (PW.pt (Ky (Lu (Kr (IE Kk (pv 5) Ih (λ_ _=>rfl)))) (K2 (IG MH (IE Kk (pv 5) Ih (λ_ _=>rfl)) (pv 3) (IK _)))))))) (Im (Iz J0)) IN)
  (Im (IL (PW.pt (Mr (Lu (Nq (pv 4))) (M1 (PW.pt (Ky (Lu (Kr (IE Kk (pv 5) Ih (λ_ _=>rfl)))) (K2 (IG Nm (IE Kk (pv 5) Ih (λ_ _=>rfl)) (pv 4) (IK _)))))))) (Im (Iz J0)) IN))))))
  (Im (Iz J0))),?_⟩
 obtain⟨ps,rfl,hA,hP⟩:=hw1
 let Pv12:Nat→L2.St→Hp→Prop:=λi σ H'=>(∃y2 y3 y4 y5,σ=[some (.ref a),some (.ref b),y2,y3,y4,y5])∧Same H H'∧II ((ps.map (·.2)).take i) w2=true
 refine⟨_,rfl,a,rfl,⟨_,SqT.of hA⟩,OI (K:=K) (a:=a) (xs:=ps.map λp=>V.ref p.1) Pv12 ⟨⟨none,none,none,none,rfl⟩,Same.refl _,rfl⟩ (λi σ H' _ ⟨_,s,_⟩=>s.seqT (SqT.of hA)) ?_ ?_⟩
 · rintro i x σ H' hx ⟨⟨y2,y3,y4,y5,rfl⟩,s,hr'⟩;obtain⟨P1,e1,rfl⟩:=Jc hx;have hm:=Ak e1;have ew:(ps.map (·.2))[i]?=some P1.2:=by rw[Aj,e1];rfl
   refine⟨P1.1,_,rfl,SqT.of (s _ _ (hP P1 hm)),rfl,_,_,rfl,_,_,rfl,_,_,rfl,rfl,?_⟩;have out:L9 w2 P1.2=false→∀H2,Same H H2→Q (.bl false) H2:=λh H2 s2=>by
    have:II (ps.map (·.2)) w2=false:=by unfold II;rw[List.all_eq_false];exact⟨P1.2,AF hm,by rw[h];exact Ar⟩
    rw[this] at q;exact q _ s2
   have good:L9 w2 P1.2=true→II ((ps.map (·.2)).take (i+1)) w2=true:=λh=>by rw[JI ew];unfold II at*;rw[List.all_append,hr',Bool.true_and,C9,List.all_nil,h];rfl
   refine⟨_,rfl,_,rfl,b,w2,P1.2.1,rfl,hw2.same s,ok2,λv H2 s2 hv=>?_⟩;have t2:=s.trans s2;cases hs:Jt w2 P1.2.1 with
   | none=> rw[hs] at hv;obtain rfl:v= .non:=hv;exact⟨_,rfl,_,rfl,Ii (out (VD hs) _ t2)⟩
   | some sp=>
    rw[hs] at hv;obtain⟨t,rfl,et⟩:=hv;refine⟨_,rfl,_,rfl,Ig ?_⟩;have rp:=QX hs;obtain⟨lo2,hi2⟩:=sp;obtain⟨pa,f',lo,hi⟩:=P1;unfold Sl;dsimp only at*;refine Lw (λσ' H'=>σ'=[some (.ref a),some (.ref b),some (.str f'),some (eV lo),some (eV hi),some (.ref t)]∧H'=H2∧KR lo lo2=true) (λZ hZ=>?_) ?_
    · have nx:KR lo lo2=true→Z [some (.ref a),some (.ref b),some (.str f'),some (eV lo),some (eV hi),some (.ref t)] H2:=λh=>hZ _ _ ⟨rfl,rfl,h⟩;cases lo with
      | none=>exact⟨_,rfl,_,rfl,Ig (Ig (nx rfl))⟩
      | some l=>
       cases lo2 with
       | none=>exact⟨_,rfl,_,rfl,Ii ⟨_,rfl,t,_,0,_,rfl,rfl,SqT.of et,rfl,_,rfl,Ii (Ii (out (rp.trans (by simp[JT,KR,LZ])) _ t2))⟩⟩
       | some o=>
        refine⟨_,rfl,_,rfl,Ii ⟨_,rfl,t,_,0,_,rfl,rfl,SqT.of et,rfl,_,rfl,Ig ⟨_,rfl,t,_,0,_,rfl,rfl,SqT.of et,rfl,_,rfl,_,_,rfl,rfl,_,rfl,IR (λh=>?_) (λh=>?_)⟩⟩⟩
        · have h:=of_decide_eq_true h;exact out (rp.trans (by simp[JT,KR,LZ];omega)) _ t2
        · have h:=of_decide_eq_false (EZ.mpr h);exact nx (decide_eq_true (by omega))
    · rintro σ' H4 ⟨rfl,e4,hd⟩;rw[e4];clear e4 H4;have nx:LZ hi hi2=true→(∃y2 y3 y4 y5,[some (V.ref a),some (.ref b),some (.str f'),some (eV lo),some (eV hi),some (.ref t)]=[some (V.ref a),some (.ref b),y2,y3,y4,y5])∧Same H H2∧II ((ps.map (·.2)).take (i+1)) w2=true:=λh=>⟨⟨_,_,_,_,rfl⟩,t2,good (rp.trans (by unfold JT;rw[hd,h];rfl))⟩;cases hi with
      | none=>exact⟨_,rfl,_,rfl,Ig (Ig (nx rfl))⟩
      | some l=>
       cases hi2 with
       | none=>exact⟨_,rfl,_,rfl,Ii ⟨_,rfl,t,_,1,_,rfl,rfl,SqT.of et,rfl,_,rfl,Ii (Ii (out (rp.trans (by simp[JT,KR,LZ])) _ t2))⟩⟩
       | some o=>
        refine⟨_,rfl,_,rfl,Ii ⟨_,rfl,t,_,1,_,rfl,rfl,SqT.of et,rfl,_,rfl,Ig ⟨_,rfl,t,_,1,_,rfl,rfl,SqT.of et,rfl,_,rfl,_,_,rfl,rfl,_,rfl,IR (λh=>?_) (λh=>?_)⟩⟩⟩
        · have h:=of_decide_eq_true h;exact out (rp.trans (by simp[JT,KR,LZ];omega)) _ t2
        · have h:=of_decide_eq_false (EZ.mpr h);exact nx (decide_eq_true (by omega))
 · rintro σ H' ⟨_,s,hr'⟩;rw[Ab,AX (by simp)] at hr';rw[hr'] at q;exact q _ s
theorem zhg(F:Fun K "_law_rank" "_law_rank" QD f fd)  :FnOk P w K mg base IC 1 f fd ["wish"] (TM K):=by
 refine F.ok GG (λvs H Q E h=>?_) (λcdv A outer s H vs Q E hr h=>?_)
 · obtain⟨a,w',rfl,hw,wok,q⟩:=h;rfl
 obtain⟨a,w',rfl,hw,wok,q⟩:=h;refine⟨_,(Ik (I0 (i:=1) GG.nd rfl (Or.inl rfl) (Js Ie))
  (Ik (JS AO rfl (MM (pv 0)) (JL rfl (ID (Iv (i:=2) GG.nd rfl (Or.inl rfl)) (ID (Iv (i:=3) GG.nd rfl (Or.inl rfl)) (ID (Iv (i:=4) GG.nd rfl (Or.inl rfl)) J3)))) (Im (K0 (KE AU Bf Bh Ld (pv 1) (Ic (Jw (Ic (pv 2) (Ic (KU (Nq (pv 3))) (Ic (MW (Lu (Kr (pv 3))) Ih (pv 3)) (Ic (KU (Kr (pv 4))) (Ic (MW (Lu (Kr (pv 4))) Ih (pv 4)) Ie)))))) Ie)))))
  (Im (Iz (M3 VW rfl B.tuple_ LY (Ic (pv 1) Ie)))))),?_⟩
 obtain⟨ps,rfl,hA,hP⟩:=hw;refine⟨K9,λr hr'=>?_⟩;have s0:=Iq hr' (.lst [])
 let Pv13:Nat→L2.St→Hp→Prop:=λi σ H'=>(∃y2 y3 y4,σ=[some (.ref a),some (.ref r),y2,y3,y4])∧Same H H'∧∃qs:List (Addr×WP),H' r=some (.lst (qs.map λq=>V.ref q.1))∧qs.map (·.2)=(ps.map (·.2)).take i∧∀q∈qs,H' q.1=some (.tup (LI q.2))
 refine⟨_,rfl,a,rfl,⟨_,SqT.of (s0 _ _ hA)⟩,OI (K:=K) (a:=a) (xs:=ps.map λp=>V.ref p.1) Pv13 ⟨⟨none,none,none,rfl⟩,s0,[],Ij,rfl,λq hq=>by simp at hq⟩ (λi σ H' _ ⟨_,s,_⟩=>s.seqT (SqT.of hA)) ?_ ?_⟩
 · rintro i x σ H' hx ⟨⟨y2,y3,y4,rfl⟩,s,qs,ev,rv,aq⟩;obtain⟨P1,e1,rfl⟩:=Jc hx;have hm:=Ak e1;have ew:(ps.map (·.2))[i]?=some P1.2:=by rw[Aj,e1];rfl
   refine⟨P1.1,_,rfl,SqT.of (s _ _ (hP P1 hm)),rfl,_,_,rfl,_,_,rfl,_,_,rfl,rfl,?_⟩;have lv:(qs.map λq=>V.ref q.1).length<A1:=by have h1:=congrArg Dk rv;rw[Ab,AA] at h1;rw[Ab];have h2:=wok.len;exact Je (by omega)
   obtain⟨pa,f',lo,hi⟩:=P1;dsimp only at*;have fin:∀u,H' u=none→Uh (V.ref r) [V.ref u] (upd H' u (.tup (LI (f',lo,hi)))) λx H1=>(∃y2 y3 y4,[some (V.ref a),some (V.ref r),some (.str f'),some (eV lo),some (eV hi)]=[some (V.ref a),some (V.ref r),y2,y3,y4])∧Same H H1∧∃qs:List (Addr×WP),H1 r=some (.lst (qs.map λq=>V.ref q.1))∧qs.map (·.2)=(ps.map (·.2)).take (i+1)∧∀q∈qs,H1 q.1=some (.tup (LI q.2)):=λu hu=>by
    have su:=Iq hu (.tup (LI (f',lo,hi)));have eu:(upd H' u (.tup (LI (f',lo,hi)))) u=some (.tup (LI (f',lo,hi))):=Ij;generalize upd H' u (.tup (LI (f',lo,hi)))=H2 at*;have tl:=OT (o:= .lst (qs.map (λq=>V.ref q.1)++[V.ref u])) (su _ _ ev);refine⟨r,_,_,rfl,rfl,su _ _ ev,lv,⟨_,_,_,rfl⟩,J7 (s.trans su) hr',qs++[(u,f',lo,hi)],by rw[Ij,Ao];rfl,by rw[Ao,rv,JI ew];rfl,λq hq=>?_⟩;rcases A9.mp hq with z | z
    · exact tl _ _ (su _ _ (aq q z))
    · rw[Am.mp z];exact tl _ _ eu
   refine⟨_,rfl,.inl ⟨rfl,_,SqL.of ev⟩,?_⟩;cases lo with
   | none=>
    cases hi with
    | none=>exact⟨_,rfl,_,rfl,_,rfl,_,rfl,Ii ⟨_,rfl,_,rfl,_,rfl,Ii ⟨Oy,λu hu=>fin u hu⟩⟩⟩
    | some h=>exact⟨_,rfl,_,rfl,_,rfl,_,rfl,Ii ⟨_,rfl,_,rfl,_,rfl,Ig ⟨_,rfl,Oy,λu hu=>fin u hu⟩⟩⟩
   | some l=>
    cases hi with
    | none=>exact⟨_,rfl,_,rfl,_,rfl,_,rfl,Ig ⟨_,rfl,_,rfl,_,rfl,_,rfl,Ii ⟨Oy,λu hu=>fin u hu⟩⟩⟩
    | some h=>exact⟨_,rfl,_,rfl,_,rfl,_,rfl,Ig ⟨_,rfl,_,rfl,_,rfl,_,rfl,Ig ⟨_,rfl,Oy,λu hu=>fin u hu⟩⟩⟩
 · rintro σ H' ⟨⟨y2,y3,y4,rfl⟩,s,qs,ev,rv,aq⟩;rw[Ab,AX (by simp)] at rv;refine⟨_,rfl,r,_,rfl,.inl ⟨SqL.of ev,λt ht=>?_⟩⟩;have st:=Iq ht (.tup (qs.map λq=>V.ref q.1));refine q _ _ (s.trans st) ?_;unfold L1;rw[Rep,←rv];exact⟨t,_,rfl,SqT.of Ij,Uk qs λx hx=>st _ _ (aq x hx)⟩
theorem zez(F:Fun K "_law_greatest" "_law_greatest" MY f fd)(HG:Γ42 P w K mg base)(HH:Γ41 P w K mg base):FnOk P w K mg base IC 4 f fd ["wishes"] (Tf):=by
 refine F.ok GH (λvs H Q E h=>?_) (λcdv A outer s H vs Q E hr h=>?_)
 · obtain⟨l,ws,rfl,hw,hf,q⟩:=h;rfl
 obtain⟨l,ws,rfl,hw,hf,q⟩:=h;refine⟨_,(Ik (I0 (i:=1) GH.nd rfl (Or.inr rfl) (Js Ie))
  (Ik (JS AO rfl (Jx (pv 0)) (Iv (i:=2) GH.nd rfl (Or.inl rfl)) (Im (IL (IG (Nz (Kb hr)) (pv 2) (pv 1) (by with_unfolding_all rfl)) (Im (K0 (KE AU Bf Bh Ld (pv 1) (Ic (pv 2) Ie)))) IN)))
  (Ik (LX (N':=["wish","some"]) (js:=[none,some 1]) (i:=3) GH.nd rfl (Or.inl rfl) rfl (Jq (N:=["wishes","some","wish","top"]) (outer:=Iu MY) (by decide+kernel)) (Jx (pv 1)) (λ_ _ _ _ _=>(Iv (i:=0) Oh rfl (Or.inr rfl))) (λ_ _ _ _ _=>Ks (IG (X3 (Kb hr)) (JZ (N':=["one","wish"]) (js:=[none,some 0]) rfl (Jq (N:=["wish","some"]) (outer:=Ry (Iu MY) (Wy MY 2)) (by decide+kernel)) (U4 K rfl (pv 1)) (λ_ _ _ _ _=>(Iv (i:=0) Mc rfl (Or.inl rfl))) (λ_ _ _ _ _=>Ks (PW.pt (Mr (IG (Qb K rfl (Kb hr)) (pv 0) (pv 1) (IK _)) (M1 (Jz (Ip HH (hr.mono (by decide)) rfl (Ic (pv 0) (Ic (pv 1) Ie)))))))) (λ_ _ _ _ _=>(pv 0))) (Js Ie) (IK _))) (λ_ _ _ _ _=>(pv 0)))
  (Im (Iz (ziL HG (hr.mono (by decide)) rfl B.sorted_ rfl (Ic (pv 3) Ie))))))),?_⟩
 have hA:=hw.at';refine⟨K9,λsr hsr=>?_⟩;have s0:=Iq hsr (.lst []);have sl:sr≠l:=λe=>by rw[e,hA] at hsr;cases hsr
 let Pv14:Nat→L2.St→Hp→Prop:=λi σ H'=>(∃y2 y3,σ=[some (.ref l),some (.ref sr),y2,y3])∧Same H H'∧∃ks,Dd (ws.take i) ks∧H' sr=some (.lst (ks.map λx=>V.ref x.1))
 refine⟨_,rfl,l,rfl,⟨_,SqL.of (s0 _ _ hA)⟩,Lv (K:=K) (a:=l) (xs:=ws.map λx=>V.ref x.1) Pv14 ⟨⟨none,none,rfl⟩,s0,[],Dd.nil,Ij⟩ (λi σ H' _ ⟨_,s,_⟩=>SqL.of (s _ _ hA)) ?_ ?_⟩
 · rintro i x σ H1 hx ⟨⟨y2,y3,rfl⟩,s1,ks,dd,e1⟩;obtain⟨X1,ew,rfl⟩:=Jc hx;have x1:=((hw.ok X1 (Ak ew)).1).same s1;have wk:∀k∈ks,WishAt H1 k.1 k.2:=λk hk=>((hw.ok k (Da (dd.sub k hk))).1).same s1;have dn:=dd.put X1;rw[←JI ew] at dn;unfold Kt at dn;refine⟨_,rfl,_,rfl,sr,ks.map λk=>(k.1,dW k.2),dW X1.2,rfl,SqL.of (by rw[BF];exact e1),λp hp=>?_,Kz x1,?_⟩
   · obtain⟨k,hk,rfl⟩:=Az.mp hp;exact⟨Kz (wk k hk),A4 (M0 _) (by decide)⟩
   · have ea:((ks.map λk=>(k.1,dW k.2)).any λp=>Ir p.2 (dW X1.2))=ks.any λk=>decide (k.2=X1.2):=by
      rw[C8];exact congrArg (λf=>ks.any f) (funext λk=>Ms k.2 X1.2)
     rw[ea];cases c:ks.any λk=>decide (k.2=X1.2) with
     | true=> rw[if_pos c] at dn;exact⟨_,rfl,Ig ⟨⟨_,_,rfl⟩,s1,ks,dn,e1⟩⟩
     | false=>
      rw[if_neg (by rw[c];exact Ar)] at dn;refine⟨_,rfl,Ii ⟨_,rfl,.inl ⟨rfl,_,SqL.of e1⟩,_,rfl,sr,_,_,rfl,rfl,e1,?_,?_⟩⟩
      · rw[Ab];have h1:=dd.len;have h2:=hw.len;rw[AA] at h1;exact Je (by omega)
      · exact⟨⟨_,_,rfl⟩,J7 s1 hsr,ks++[(X1.1,X1.2)],dn,by rw[Ij,Ao];rfl⟩
 · rintro σ H1 ⟨⟨y2,y3,rfl⟩,s1,ks,dd,e1⟩;rw[Ab,AS] at dd;have wk:∀k∈ks,WishAt H1 k.1 k.2∧WOk k.2:=λk hk=>⟨((hw.ok k (dd.sub k hk)).1).same s1,(hw.ok k (dd.sub k hk)).2⟩;have lk:ks.length≤800:=A4 dd.len hw.len;refine⟨_,rfl,sr,rfl,⟨_,SqL.of e1⟩,λtp htp=>?_⟩;have sp:=Iq htp (.lst []);refine Lx (xs:=ks.map λx=>V.ref x.1) (λi σ' ys H'=>(∃v,σ'=[v,some (.ref sr)])∧Same H1 H'∧H' tp=some (.lst ys)∧ys=((ks.take i).filter λk=>K3 ks k.2).map λx=>V.ref x.1) ⟨⟨none,rfl⟩,sp,Ij,rfl⟩ ?_ ?_ ?_
   · rintro i σ' ys H' hi ⟨_,s,h1,h2⟩;refine⟨s.seq (SqL.of e1),h1,?_⟩;rw[h2,Ab];have h3:=AC (λk=>K3 ks k.2) (ks.take i);rw[AA] at h3;exact Je (by omega)
   · rintro i x σ' ys H2 N hx ⟨⟨v,rfl⟩,s2,h1,h2⟩ hN;obtain⟨X1,ew,rfl⟩:=Jc hx;obtain⟨x1,x2⟩:=wk X1 (Ak ew);refine⟨_,rfl,sr,rfl,⟨_,SqL.of (s2 _ _ e1)⟩,λip hip=>?_⟩;refine Lx (xs:=ks.map λx=>V.ref x.1) (λj σ' zs H'=>(∃v,σ'=[v,some (.ref X1.1)])∧Same H2 H'∧H' ip=some (.lst zs)∧zs=((ks.take j).filter λk=>!decide (k.2=X1.2) && II k.2 X1.2).map λx=>V.ref x.1) ⟨⟨none,rfl⟩,Iq hip _,Ij,rfl⟩ ?_ ?_ ?_
     · rintro j σ' zs H' hj ⟨_,s,g1,g2⟩;refine⟨s.seq (SqL.of (s2 _ _ e1)),g1,?_⟩;rw[g2,Ab];have h3:=AC (λk:Addr×List WP=>!decide (k.2=X1.2) && II k.2 X1.2) (ks.take j);rw[AA] at h3;exact Je (by omega)
     · rintro j x σ' zs H3 N3 hx ⟨⟨v,rfl⟩,s3,g1,g2⟩ hN3;obtain⟨O1,eo,rfl⟩:=Jc hx;obtain⟨o1,o2⟩:=wk O1 (Ak eo);have st:((ks.take (j+1)).filter λk=>!decide (k.2=X1.2) && II k.2 X1.2)=(ks.take j).filter (λk=>!decide (k.2=X1.2) && II k.2 X1.2)++(if(!decide (O1.2=X1.2) && II O1.2 X1.2)=true then [O1] else []):=by
        rw[JI eo,AV];congr 1;rw[Bx];rfl
       refine⟨_,rfl,_,rfl,dW O1.2,dW X1.2,Kz (o1.same (s2.trans s3)),Kz (x1.same (s2.trans s3)),BD (M0 _) (by decide),_,rfl,?_⟩;rw[Ms];cases c:decide (O1.2=X1.2) with
       | true=> rw[c] at st;exact Ig (Ig (hN3 _ _ _ ⟨⟨_,rfl⟩,s3,g1,by rw[g2,st];simp⟩))
       | false=>
        rw[c] at st;refine Ii ⟨_,rfl,_,rfl,O1.1,X1.1,O1.2,X1.2,rfl,o1.same (s2.trans s3),x1.same (s2.trans s3),o2,x2,λH4 s4=>⟨_,rfl,?_⟩⟩;cases r:II O1.2 X1.2 with
        | true=> rw[r] at st;exact Ii ⟨_,rfl,s4 _ _ g1,hN3 _ _ _ ⟨⟨_,rfl⟩,J7 (s3.trans s4) hip,Ij,by rw[g2,st];simp⟩⟩
        | false=> rw[r] at st;exact Ig (hN3 _ _ _ ⟨⟨_,rfl⟩,s3.trans s4,s4 _ _ g1,by rw[g2,st];simp⟩)
     · rintro σ' zs H3 ⟨_,s3,g1,rfl⟩;rw[Ab,AS] at g1;refine⟨K9,λep hep=>?_⟩;have s4:=Iq hep (.lst []);refine⟨ip,ep,_,rfl,rfl,s4 _ _ g1,Ij,_,rfl,?_⟩;have ee:((ks.filter λk=>!decide (k.2=X1.2) && II k.2 X1.2).map λx=>V.ref x.1).isEmpty=K3 ks X1.2:=by
        rw[List.isEmpty_map,zgH];unfold K3;simp only[Bool.and_comm]
       rw[ee];have st:((ks.take (i+1)).filter λk=>K3 ks k.2)=(ks.take i).filter (λk=>K3 ks k.2)++(if K3 ks X1.2=true then [X1] else []):=by rw[JI ew,AV];congr 1;rw[Bx];rfl
       have s24:=s2.trans (s3.trans s4);cases c:K3 ks X1.2 with
       | true=> rw[c] at st;exact Ii ⟨_,rfl,(s3.trans s4) _ _ h1,hN _ _ _ ⟨⟨_,rfl⟩,J7 s24 htp,Ij,by rw[h2,st];simp⟩⟩
       | false=> rw[c] at st;exact Ig (hN _ _ _ ⟨⟨_,rfl⟩,s24,(s3.trans s4) _ _ h1,by rw[h2,st];simp⟩)
   · rintro σ' ys H2 ⟨_,s2,h1,rfl⟩;rw[Ab,AS] at h1;have T2:TopAt H2 tp ws (ks.filter λk=>K3 ks k.2):=⟨h1,λx hx=>dd.sub x (Av.mp hx).1,dd.top,A4 (AC _ _) dd.len⟩;have W2:WsAt H2 tp (ks.filter λk=>K3 ks k.2):=⟨h1,λx hx=>⟨((wk x (Av.mp hx).1).1).same s2,(wk x (Av.mp hx).1).2⟩,A4 (AC _ _) lk⟩;generalize(ks.filter λk=>K3 ks k.2)=qs at*;refine⟨_,rfl,YD (T2.few hf) L1 W2 (λx hx H3 s3 Q1 hQ=>⟨x.1,x.2,rfl,((W2.ok x hx).1).same s3,(W2.ok x hx).2,hQ⟩) ?_ (λw=>A4 (YV w) (by decide)) (λw w'=>by unfold L1;rw[IA,Uy]) Ya λr rs H3 s3 nr pm sr e3=>?_⟩
     · by_cases h2:qs.length<2
       · exact .inl h2
       · refine .inr (.inr (.inl λi hi=>?_));have ne:=T2.2.2.1.some (by rw[Ab];omega) (qs.getD i (0,[])).2 (by
          rw[A2,Au hi];exact AF (Fl hi))
         cases e:(qs.getD i (0,[])).2 with
         | nil=>exact absurd e ne
         | cons p ps=> refine⟨[.str p.1,.bl p.2.1.isSome,.int (p.2.1.getD 0),.bl p.2.2.isNone,.int (p.2.2.getD 0)],ps.map JJ,?_⟩;show L1 (qs.getD i (0,[])).2=_;rw[e];rfl
     · exact q r rs H3 (s1.trans (s2.trans s3)) (s1.free (s2.free nr)) ⟨e3,λx hx=>T2.2.1 x (pm.mem_iff.mp hx),T2.2.2.1.perm (pm.map _),by rw[pm.length_eq];exact T2.2.2.2⟩ sr
theorem zgA(F:Fun K "_law_alike" "_law_alike" OU f fd)  (M_self:mg "_law_alike"=some (.ref f)):FnOk P w K mg base IC 11 f fd ["found","due"] (P9 9 P_):=by
 have b_self:=F.binds (ps:=["found","due"]) λ_ _ _ _ _ _=>lS λ_=>lS λ_=>l0 rfl
 refine Yn (L:=0) (D:=9) (SS F Wc b_self M_self 0 (P_) λn sp0 hsp HI=>?_);refine F.ok Wc (λvs H Q E h=>?_) (λcdv A outer s H vs Q E hr h=>?_)
 · obtain⟨v,v',d,rfl,n9,h1,h2,⟨hn,hd⟩,q⟩:=h;rfl
 obtain⟨v,v',d,rfl,n9,h1,h2,⟨hn,hd⟩,q⟩:=h;refine⟨_,(Ik (IL (Jz (IB VX rfl B.isinstance_ JM (Ic (pv 1) (Ic (Jw (Ic (JD (v:= .ty "list") rfl B.list_ K6 rfl) (Ic (JD (v:= .ty "tuple") rfl B.tuple_ LY rfl) Ie))) Ie)))) (Ik (IL (PW.pt (Ky (J9 (Jz (IB VX rfl B.isinstance_ JM (Ic (pv 0) (Ic (Jw (Ic (JD (v:= .ty "list") rfl B.list_ K6 rfl) (Ic (JD (v:= .ty "tuple") rfl B.tuple_ LY rfl) Ie))) Ie))))) (K2 (IG L5 (IB (Kc (n:="")) rfl B.isinstance_ JM (Ic (pv 0) (Ic (JD (v:= .ty "list") rfl B.list_ K6 rfl) Ie))) (IB (Kc (n:="")) rfl B.isinstance_ JM (Ic (pv 1) (Ic (JD (v:= .ty "list") rfl B.list_ K6 rfl) Ie))) (IK _))))) (Im (Iz J0)) IN)
  (Im (Iz (Kl (Lz JH (IB Jb rfl B.len_ IW (Ic (pv 0) Ie)) (IB Jb rfl B.len_ IW (Ic (pv 1) Ie)) (IK _)) (J_ (IB (Mw rfl) rfl B.all_ Mu (Ic (JZ (N':=["k","found","due"]) (js:=[none,some 0,some 1]) rfl (Jq (N:=["found","due"]) (outer:=Iu OU) (by decide+kernel)) (Le rfl B.range_ (Ic (IB Jb rfl B.len_ IW (Ic (pv 1) Ie)) Ie)) (λ_ _ _ _ _=>(Iv (i:=0) Og rfl (Or.inl rfl))) (λ_ _ _ _ _=>Kn) (λ_ _ _ _ _=>(Ip HI (hr.mono (by omega)) rfl (Ic (IE (Tv K rfl) (pv 1) (pv 0) (λ_ _=>rfl)) (Ic (IE (Tv K rfl) (pv 2) (pv 0) (λ_ _=>rfl)) Ie))))) Ie))))))) IN)
  (Ik (IL (PW.pt (Ky (Lu (Kr (pv 1))) (K2 (Lu (Kr (pv 0)))))) (Im (Iz (Kl (KU (Kr (pv 1))) (J_ (KU (Kr (pv 0))))))) IN)
  (Ik (IL (PW.pt (Ky (IG L5 (IB (Kc (n:="")) rfl B.isinstance_ JM (Ic (pv 1) (Ic (JD (v:= .ty "bool") rfl B.bool_ PV rfl) Ie))) (IB (Kc (n:="")) rfl B.isinstance_ JM (Ic (pv 0) (Ic (JD (v:= .ty "bool") rfl B.bool_ PV rfl) Ie))) (IK _)) (K2 (IG L5 (IB (Kc (n:="")) rfl B.isinstance_ JM (Ic (pv 1) (Ic (JD (v:= .ty "int") rfl B.int_ P4 rfl) Ie))) (IB (Kc (n:="")) rfl B.isinstance_ JM (Ic (pv 0) (Ic (JD (v:= .ty "int") rfl B.int_ P4 rfl) Ie))) (IK _))))) (Im (Iz J0)) IN)
  (Im (Iz (Kl (Lz JH (IB (Kc (n:="")) rfl B.isinstance_ JM (Ic (pv 0) (Ic (JD (v:= .ty "str") rfl B.str_ P6 rfl) Ie))) (IB (Kc (n:="")) rfl B.isinstance_ JM (Ic (pv 1) (Ic (JD (v:= .ty "str") rfl B.str_ P6 rfl) Ie))) (IK _)) (J_ (Lz JH (pv 0) (pv 1) (IK _))))))))),?_⟩
 cases d with
 | non=> rw[RepY] at h1 h2;subst h1 h2;refine⟨_,rfl,Ja,λt1 ht1=>?_⟩;have s1:=Iq ht1 (.tup [V.ty "list",V.ty "tuple"]);have c1:(upd H t1 (.tup [V.ty "list",V.ty "tuple"])) t1=some (.tup [V.ty "list",V.ty "tuple"]):=Ij;generalize upd H t1 (.tup [V.ty "list",V.ty "tuple"])=H1 at*;refine⟨_,"NoneType",t1,_,false,rfl,.non,c1,rfl,rfl,_,rfl,Ig ?_⟩;exact⟨_,rfl,_,rfl,Ii (Ii ⟨_,rfl,_,rfl,Ii ⟨_,rfl,q H1 s1⟩⟩)⟩
 | bl x=> rw[RepY] at h1 h2;subst h1 h2;refine⟨_,rfl,Ja,λt1 ht1=>?_⟩;have s1:=Iq ht1 (.tup [V.ty "list",V.ty "tuple"]);have c1:(upd H t1 (.tup [V.ty "list",V.ty "tuple"])) t1=some (.tup [V.ty "list",V.ty "tuple"]):=Ij;generalize upd H t1 (.tup [V.ty "list",V.ty "tuple"])=H1 at*;refine⟨_,"bool",t1,_,false,rfl,.bl x,c1,rfl,rfl,_,rfl,Ig ?_⟩;refine⟨_,rfl,_,rfl,Ig ⟨_,rfl,_,rfl,Ig ?_⟩⟩;refine⟨_,rfl,_,"bool","bool",true,rfl,.bl x,rfl,_,rfl,_,"bool","bool",true,rfl,.bl x,rfl,rfl,_,rfl,Ig ?_⟩;refine⟨_,rfl,_,"bool","int",true,rfl,.bl x,rfl,_,rfl,_,"bool","int",true,rfl,.bl x,rfl,rfl,_,rfl,Ig ?_⟩;refine⟨_,rfl,_,"bool","str",false,rfl,.bl x,rfl,_,rfl,_,"bool","str",false,rfl,.bl x,rfl,rfl,_,rfl,Ii ?_⟩;have e:decide (V.bl x=V.bl x)=true:=decide_eq_true rfl;exact⟨_,rfl,_,rfl,rfl,by rw[e];exact q H1 s1⟩
 | int x=> rw[RepY] at h1 h2;subst h1 h2;refine⟨_,rfl,Ja,λt1 ht1=>?_⟩;have s1:=Iq ht1 (.tup [V.ty "list",V.ty "tuple"]);have c1:(upd H t1 (.tup [V.ty "list",V.ty "tuple"])) t1=some (.tup [V.ty "list",V.ty "tuple"]):=Ij;generalize upd H t1 (.tup [V.ty "list",V.ty "tuple"])=H1 at*;refine⟨_,"int",t1,_,false,rfl,.int x,c1,rfl,rfl,_,rfl,Ig ?_⟩;refine⟨_,rfl,_,rfl,Ig ⟨_,rfl,_,rfl,Ig ?_⟩⟩;refine⟨_,rfl,_,"int","bool",false,rfl,.int x,rfl,_,rfl,_,"int","bool",false,rfl,.int x,rfl,rfl,_,rfl,Ig ?_⟩;refine⟨_,rfl,_,"int","int",true,rfl,.int x,rfl,_,rfl,_,"int","int",true,rfl,.int x,rfl,rfl,_,rfl,Ig ?_⟩;refine⟨_,rfl,_,"int","str",false,rfl,.int x,rfl,_,rfl,_,"int","str",false,rfl,.int x,rfl,rfl,_,rfl,Ii ?_⟩;have e:decide (V.int x=V.int x)=true:=decide_eq_true rfl;exact⟨_,rfl,_,rfl,rfl,by rw[e];exact q H1 s1⟩
 | str x=> rw[RepY] at h1 h2;obtain⟨rfl,hx⟩:=h1;obtain⟨rfl,_⟩:=h2;refine⟨_,rfl,Ja,λt1 ht1=>?_⟩;have s1:=Iq ht1 (.tup [V.ty "list",V.ty "tuple"]);have c1:(upd H t1 (.tup [V.ty "list",V.ty "tuple"])) t1=some (.tup [V.ty "list",V.ty "tuple"]):=Ij;generalize upd H t1 (.tup [V.ty "list",V.ty "tuple"])=H1 at*;refine⟨_,"str",t1,_,false,rfl,.str x,c1,rfl,rfl,_,rfl,Ig ?_⟩;refine⟨_,rfl,_,rfl,Ig ⟨_,rfl,_,rfl,Ig ?_⟩⟩;refine⟨_,rfl,_,"str","bool",false,rfl,.str x,rfl,_,rfl,_,"str","bool",false,rfl,.str x,rfl,rfl,_,rfl,Ig ?_⟩;refine⟨_,rfl,_,"str","int",false,rfl,.str x,rfl,_,rfl,_,"str","int",false,rfl,.str x,rfl,rfl,_,rfl,Ig ?_⟩;refine⟨_,rfl,_,"str","str",true,rfl,.str x,rfl,_,rfl,_,"str","str",true,rfl,.str x,rfl,rfl,_,rfl,Ii ?_⟩;have e:decide (V.str x=V.str x)=true:=decide_eq_true rfl;exact⟨_,rfl,_,rfl,rfl,by rw[e];exact q H1 s1⟩
 | dic=>rw[JO] at hd;cases hd
 | da d=>rw[JO] at hd;cases hd
 | lst ds=>
  rw[RepY] at h1 h2;obtain⟨a,xs,rfl,ha,h9,hx⟩:=h1;obtain⟨a',xs',rfl,ha',_,hx'⟩:=h2;obtain⟨m,rfl⟩:∃m,n=m+1:=⟨n - 1,by rw[Jf] at hn;omega⟩;have e0:=hsp m rfl;subst e0;rw[Jf] at hn;rw[JO] at hd;have hl:=hx.length;have hl':=hx'.length;refine⟨_,rfl,Ja,λt1 ht1=>?_⟩;have s1:=Iq ht1 (.tup [V.ty "list",V.ty "tuple"]);have c1:(upd H t1 (.tup [V.ty "list",V.ty "tuple"])) t1=some (.tup [V.ty "list",V.ty "tuple"]):=Ij;generalize upd H t1 (.tup [V.ty "list",V.ty "tuple"])=H1 at*;refine⟨_,"list",t1,_,true,rfl,.lst (s1 _ _ ha'),c1,rfl,rfl,_,rfl,Ii ⟨_,rfl,Ja,λt2 ht2=>?_⟩⟩;have s2:=Iq ht2 (.tup [V.ty "list",V.ty "tuple"]);have c2:(upd H1 t2 (.tup [V.ty "list",V.ty "tuple"])) t2=some (.tup [V.ty "list",V.ty "tuple"]):=Ij;generalize upd H1 t2 (.tup [V.ty "list",V.ty "tuple"])=H2 at*;have S:=s1.trans s2;have ka:=S _ _ ha;have ka':=S _ _ ha';refine⟨_,"list",t2,_,true,rfl,.lst ka,c2,rfl,rfl,_,rfl,Ig ⟨_,rfl,_,"list","list",true,rfl,.lst ka,rfl,_,rfl,_,"list","list",true,rfl,.lst ka',rfl,rfl,_,rfl,Ig ?_⟩⟩;refine⟨_,rfl,a,_,rfl,.inl (SqL.of ka),_,rfl,a',_,rfl,.inl (SqL.of ka'),rfl,_,rfl,?_⟩;rw[decide_eq_true (show V.int ((xs.length:Nat):Int)=V.int ((xs'.length:Nat):Int) by rw[hl,hl'])];refine Ii ⟨_,rfl,a',_,rfl,.inl (SqL.of ka'),_,rfl,by omega,by omega,λp hp=>?_⟩;have s3:=Iq hp (.lst []);refine Mx (n:=((xs'.length:Nat):Int).toNat) (λi σ' ys H'=>(∃v,σ'=[v,some (.ref a),some (.ref a')])∧Same H2 H'∧H' p=some (.lst ys)∧ys=(AL i true).map V.bl) ⟨⟨none,rfl⟩,s3,Ij,rfl⟩ ?_ ?_ ?_
  · rintro i σ' ys H' hi ⟨_,_,h1,h2⟩;exact⟨h1,by rw[h2,Ab,Bz];exact Je (by omega)⟩
  · rintro i σ' ys H4 N hi ⟨⟨v,rfl⟩,s4,h1,h2⟩ hN;have hi2:i<xs'.length:=by omega
    obtain⟨x,ex⟩:∃x,xs[i]?=some x:=⟨xs[i]'(by omega),by simp[hl,hl',hi2]⟩;obtain⟨x',ex'⟩:∃x,xs'[i]?=some x:=⟨xs'[i],by simp[hi2]⟩;obtain⟨d,ed,rd⟩:=hx.get ex;obtain⟨d',ed',rd'⟩:=hx'.get ex';rw[ed] at ed';injection ed' with ed';subst ed';have e0:(0:Int)+(i:Int)=(i:Int):=by omega
    have at1:Jp xs (0+(i:Int))=some x:=by rw[e0];exact JN ex
    have at2:Jp xs' (0+(i:Int))=some x':=by rw[e0];exact JN ex'
    have S4:=S.trans s4;refine⟨_,rfl,_,rfl,a,xs,_,x,rfl,rfl,.inl (SqL.of (S4 _ _ ha)),at1,_,rfl,_,rfl,a',xs',_,x',rfl,rfl,.inl (SqL.of (S4 _ _ ha')),at2,x,x',d,rfl,by omega,RepY.same S4 d rd,RepY.same S4 d rd',⟨by have:=QK (Ak ed);omega,Qr hd ed⟩,λH5 s5=>⟨s5 _ _ h1,hN _ _ _ ⟨⟨_,rfl⟩,?_,Ij,?_⟩⟩⟩
    · intro b o q;have:b≠p:=λz=>by rw[z,hp] at q;cases q
      rw[Iy this];exact s5 _ _ (s4 b o q)
    · rw[h2,BS,Ao];rfl
  · rintro σ' ys H4 ⟨_,s4,h1,h2⟩;refine⟨p,_,rfl,SqL.of (by rw[h1,h2]),?_⟩;have e:(AL ((xs'.length:Nat):Int).toNat true).all id=true:=by simp
    rw[e];exact q H4 (S.trans s4)
 | tup ds=>
  rw[RepY] at h1 h2;obtain⟨a,xs,rfl,ha,h9,hx⟩:=h1;obtain⟨a',xs',rfl,ha',_,hx'⟩:=h2;obtain⟨m,rfl⟩:∃m,n=m+1:=⟨n - 1,by rw[Jf] at hn;omega⟩;have e0:=hsp m rfl;subst e0;rw[Jf] at hn;rw[JO] at hd;have hl:=hx.length;have hl':=hx'.length;refine⟨_,rfl,Ja,λt1 ht1=>?_⟩;have s1:=Iq ht1 (.tup [V.ty "list",V.ty "tuple"]);have c1:(upd H t1 (.tup [V.ty "list",V.ty "tuple"])) t1=some (.tup [V.ty "list",V.ty "tuple"]):=Ij;generalize upd H t1 (.tup [V.ty "list",V.ty "tuple"])=H1 at*;refine⟨_,"tuple",t1,_,true,rfl,.tup (s1 _ _ ha'),c1,rfl,rfl,_,rfl,Ii ⟨_,rfl,Ja,λt2 ht2=>?_⟩⟩;have s2:=Iq ht2 (.tup [V.ty "list",V.ty "tuple"]);have c2:(upd H1 t2 (.tup [V.ty "list",V.ty "tuple"])) t2=some (.tup [V.ty "list",V.ty "tuple"]):=Ij;generalize upd H1 t2 (.tup [V.ty "list",V.ty "tuple"])=H2 at*;have S:=s1.trans s2;have ka:=S _ _ ha;have ka':=S _ _ ha';refine⟨_,"tuple",t2,_,true,rfl,.tup ka,c2,rfl,rfl,_,rfl,Ig ⟨_,rfl,_,"tuple","list",false,rfl,.tup ka,rfl,_,rfl,_,"tuple","list",false,rfl,.tup ka',rfl,rfl,_,rfl,Ig ?_⟩⟩;refine⟨_,rfl,a,_,rfl,.inr (SqT.of ka),_,rfl,a',_,rfl,.inr (SqT.of ka'),rfl,_,rfl,?_⟩;rw[decide_eq_true (show V.int ((xs.length:Nat):Int)=V.int ((xs'.length:Nat):Int) by rw[hl,hl'])];refine Ii ⟨_,rfl,a',_,rfl,.inr (SqT.of ka'),_,rfl,by omega,by omega,λp hp=>?_⟩;have s3:=Iq hp (.lst []);refine Mx (n:=((xs'.length:Nat):Int).toNat) (λi σ' ys H'=>(∃v,σ'=[v,some (.ref a),some (.ref a')])∧Same H2 H'∧H' p=some (.lst ys)∧ys=(AL i true).map V.bl) ⟨⟨none,rfl⟩,s3,Ij,rfl⟩ ?_ ?_ ?_
  · rintro i σ' ys H' hi ⟨_,_,h1,h2⟩;exact⟨h1,by rw[h2,Ab,Bz];exact Je (by omega)⟩
  · rintro i σ' ys H4 N hi ⟨⟨v,rfl⟩,s4,h1,h2⟩ hN;have hi2:i<xs'.length:=by omega
    obtain⟨x,ex⟩:∃x,xs[i]?=some x:=⟨xs[i]'(by omega),by simp[hl,hl',hi2]⟩;obtain⟨x',ex'⟩:∃x,xs'[i]?=some x:=⟨xs'[i],by simp[hi2]⟩;obtain⟨d,ed,rd⟩:=hx.get ex;obtain⟨d',ed',rd'⟩:=hx'.get ex';rw[ed] at ed';injection ed' with ed';subst ed';have e0:(0:Int)+(i:Int)=(i:Int):=by omega
    have at1:Jp xs (0+(i:Int))=some x:=by rw[e0];exact JN ex
    have at2:Jp xs' (0+(i:Int))=some x':=by rw[e0];exact JN ex'
    have S4:=S.trans s4;refine⟨_,rfl,_,rfl,a,xs,_,x,rfl,rfl,.inr (SqT.of (S4 _ _ ha)),at1,_,rfl,_,rfl,a',xs',_,x',rfl,rfl,.inr (SqT.of (S4 _ _ ha')),at2,x,x',d,rfl,by omega,RepY.same S4 d rd,RepY.same S4 d rd',⟨by have:=QK (Ak ed);omega,Qr hd ed⟩,λH5 s5=>⟨s5 _ _ h1,hN _ _ _ ⟨⟨_,rfl⟩,?_,Ij,?_⟩⟩⟩
    · intro b o q;have:b≠p:=λz=>by rw[z,hp] at q;cases q
      rw[Iy this];exact s5 _ _ (s4 b o q)
    · rw[h2,BS,Ao];rfl
  · rintro σ' ys H4 ⟨_,s4,h1,h2⟩;refine⟨p,_,rfl,SqL.of (by rw[h1,h2]),?_⟩;have e:(AL ((xs'.length:Nat):Int).toNat true).all id=true:=by simp
    rw[e];exact q H4 (S.trans s4)
theorem zhh(F:Fun K "_law_pool" "_law_pool" QC f fd)(HJ:Γ39 P w K mg base):FnOk P w K mg base IC 5 f fd ["well","names","grid","wide","many"] (TN):=by
 refine F.ok GI (λvs H Q E h=>?_) (λcdv A outer s H vs Q E hr h=>?_)
 · obtain⟨b,g,l,a,t,n,lo,sz,wide,many,fs,rfl,Bg,hn,hN,ht,z1,z2,w1,w2,m0,m1,q⟩:=h;rfl
 obtain⟨b,g,l,a,t,n,lo,sz,wide,many,fs,rfl,Bg,hn,hN,ht,z1,z2,w1,w2,m0,m1,q⟩:=h;refine⟨_,(Ik (I0 (i:=5) GI.nd rfl (Or.inl rfl) (Js Ie))
  (Ik (JS AO rfl (Jx (Ip HJ (hr.mono (by decide)) rfl (Ic (pv 0) (Ic (pv 1) (Ic (pv 2) (Ic (pv 3) (Ic (pv 4) Ie))))))) (Iv (i:=6) GI.nd rfl (Or.inl rfl)) (Im (IL (IG (Nz (Kb hr)) (pv 6) (pv 5) (by with_unfolding_all rfl)) (Im (K0 (KE AU Bf Bh Ld (pv 5) (Ic (pv 6) Ie)))) IN)))
  (Im (Iz (pv 5))))),?_⟩
 refine⟨K9,λr hr'=>?_⟩;obtain⟨rb,rg,rl⟩:=Bg.free hr';have s0:=Iq hr' (.lst []);have e0:(upd H r (.lst [])) r=some (.lst []):=Ij;have FA0:=hN.sameB s0.sameB;have nr:H r=none:=hr';have B0:=Bg.same s0;have t0:=s0 _ _ ht;have S0:SameB b g H (upd H r (.lst [])):=s0.sameB;generalize upd H r (.lst [])=H0 at*;refine⟨_,rfl,_,rfl,_,rfl,_,rfl,_,rfl,b,g,l,a,t,n,lo,sz,wide,many,fs,rfl,B0,by omega,FA0,t0,z1,z2,w1,w2,by omega,by omega,λc ws H1 hc hw lw al B1 S1=>?_⟩;have cr:c≠r:=λe=>by rw[e,e0] at hc;cases hc
 have e1:=S1 _ _ e0 rb rg
 let Pv15:Nat→L2.St→Hp→Prop:=λi σ H'=>(∃y,σ=[some (.ref b),some (.ref a),some (.ref t),some (.int wide),some (.int many),some (.ref r),y])∧SameB b g H H'∧Well H' b g l (n+40*many)∧H' c=some (.lst (ws.map λx=>V.ref x.1))∧(∀x∈ws,WishAt H' x.1 x.2)∧∃ks:List (Addr×List WP),H' r=some (.lst (ks.map λx=>V.ref x.1))∧(∀k∈ks,k∈ws)∧(ks.map (·.2)).Nodup∧ks.length≤i∧(0<i→0<ks.length)
 refine⟨c,rfl,⟨_,SqL.of hw.at'⟩,Lv (K:=K) (a:=c) (xs:=ws.map λx=>V.ref x.1) Pv15 ?_ ?_ ?_ ?_⟩
 · exact⟨⟨none,rfl⟩,S0.trans S1,B1.mono (by omega),hw.at',λx hx=>(hw.ok x hx).1,[],e1,λk hk=>(by simp at hk),EC,Af _,λz=>absurd z (Cq _)⟩
 · rintro i σ H' hi ⟨_,_,_,h,_⟩;exact SqL.of h
 · rintro i x σ H' hx ⟨⟨y,rfl⟩,S2,B2,c2,g2,ks,e2,sub,nd,le,po⟩;rw[Aj] at hx;cases ew:ws[i]? with
   | none=>rw[ew] at hx;cases hx
   | some X1=>
    rw[ew] at hx;cases hx;have mX:=Ak ew;have x1:=g2 X1 mX;refine IZ ?_;intro σ14;refine⟨_,rfl,_,rfl,r,ks.map λk=>(k.1,dW k.2),dW X1.2,rfl,SqL.of (by rw[BF];exact e2),λp hp=>?_,Kz x1,?_⟩
    · obtain⟨k,hk,rfl⟩:=Az.mp hp;exact⟨Kz (g2 k (sub k hk)),A4 (M0 _) (by decide)⟩
    · have ea:((ks.map λk=>(k.1,dW k.2)).any λp=>Ir p.2 (dW X1.2))=ks.any λk=>decide (k.2=X1.2):=by
       rw[C8];exact congrArg (λf=>ks.any f) (funext λk=>Ms k.2 X1.2)
      rw[ea];cases cc:ks.any λk=>decide (k.2=X1.2) with
      | true=>exact⟨_,rfl,Ig ⟨⟨_,rfl⟩,S2,B2,c2,g2,ks,e2,sub,nd,by omega,λ_=>by cases ks with | nil=>cases cc | cons _ _=>simp⟩⟩
      | false=>
       have hwl:=hw.len;have hil:i<ws.length:=(Al.mp ew).1;refine⟨_,rfl,Ii ⟨_,rfl,.inl ⟨rfl,_,SqL.of e2⟩,_,rfl,r,_,_,rfl,rfl,e2,?_,?_⟩⟩
       · rw[Ab];exact Je (by omega)
       · have tu:KB H' (upd H' r (.lst ((ks.map λx=>V.ref x.1)++[V.ref X1.1]))):=λx xs e=>by
          rw[Iy (λq=>by rw[q,e2] at e;cases e)];exact e
         refine⟨⟨_,rfl⟩,S2.off nr,B2.off rb rg rl,by rw[Iy cr];exact c2,λx hx=>(g2 x hx).keep tu,ks++[X1],by rw[Ij,Ao];rfl,λk hk=>?_,?_,by simp;omega,λ_=>by simp⟩
         · rcases A9.mp hk with z | z
           · exact sub k z
           · rw[Am.mp z];exact mX
         · rw[Ao,BJ];refine⟨nd,by simp,λu hu v hv=>?_⟩;obtain⟨k,hk,rfl⟩:=Az.mp hu;have ev:v=X1.2:=by simpa using hv
           subst ev;intro z;have:=List.any_eq_false.mp cc k hk;exact this (decide_eq_true z)
 · rintro σ H' ⟨⟨y,rfl⟩,S2,B2,c2,g2,ks,e2,sub,nd,le,po⟩;rw[Ab] at le po;have hwl:=hw.len;exact⟨_,rfl,q r ks H' nr ⟨e2,λx hx=>⟨g2 x (sub x hx),(hw.ok x (sub x hx)).2⟩,by omega⟩ (by omega) (po (by omega)) nd B2 S2⟩
theorem zfy(F:Fun K "_law_picked" "_law_picked" Pe f fd)(Hw:Γ32 P w K mg base):FnOk P w K mg base IC 2 f fd ["well","row"] (UD):=by
 refine F.ok GJ (λvs H Q E h=>?_) (λcdv A outer s H vs Q E hr h=>?_)
 · obtain⟨b,g,l,a,n,xs,rfl,Bg,hn,ha,ab,ag,lx,q⟩:=h;rfl
 obtain⟨b,g,l,a,n,xs,rfl,Bg,hn,ha,ab,ag,lx,q⟩:=h;refine⟨_,(Ik (I0 (i:=2) GJ.nd rfl (Or.inr rfl) (M3 NN rfl B.list_ K6 (Ic (pv 1) Ie)))
  (Ik (I0 (i:=3) GJ.nd rfl (Or.inl rfl) (Ip Hw (hr.mono (by decide)) rfl (Ic (pv 0) (Ic Ih Ie))))
  (Ik (IL (IG JH (Ip Hw (hr.mono (by decide)) rfl (Ic (pv 0) (Ic Ih Ie))) Ih (IK _)) (Im (I0 (i:=3) GJ.nd rfl (Or.inl rfl) (IB Jb rfl B.len_ IW (Ic (pv 2) Ie)))) IN)
  (Im (Iz (JZ (N':=["k","well","left"]) (js:=[none,some 0,some 2]) rfl (Jq (N:=["well","row","left","many"]) (outer:=Iu Pe) (by decide+kernel)) (Le rfl B.range_ (Ic (IB (Q0 rfl) rfl B.min_ P5 (Ic (pv 3) (Ic (IB Jb rfl B.len_ IW (Ic (pv 1) Ie)) Ie))) Ie)) (λ_ _ _ _ _=>(Iv (i:=0) Mb rfl (Or.inl rfl))) (λ_ _ _ _ _=>Kn) (λ_ _ _ _ _=>(SQ K rfl AU El Em Qq (pv 2) (Ic (Ip Hw (hr.mono (by decide)) rfl (Ic (pv 1) (Ic (IB (VV K rfl) rfl B.len_ IW (Ic (pv 2) Ie)) Ie))) Ie))))))))),?_⟩
 refine⟨_,rfl,a,_,rfl,.inl (SqL.of ha),λlf hlf=>?_⟩;have s0:=Iq hlf (.lst xs);have e0:(upd H lf (.lst xs)) lf=some (.lst xs):=Ij;have B0:=Bg.same s0;obtain⟨fb,fg,fl⟩:=Bg.free hlf;have ha0:=s0 _ _ ha;have S0:SameB b g H (upd H lf (.lst xs)):=s0.sameB;generalize upd H lf (.lst xs)=H0 at*;refine⟨_,rfl,b,g,l,_,4,rfl,B0,by omega,by decide,by decide,λm H1 m0 m3 B1 S1=>?_⟩;have e1:=S1 _ _ e0 fb fg;have ha1:=S1 _ _ ha0 ab ag;have S01:=S0.trans S1;dsimp only;refine Lw (λσ' H'=>∃k:Int,σ'=[some (.ref b),some (.ref a),some (.ref lf),some (.int k)]∧0≤k∧SameB b g H1 H'∧Well H' b g l (n+2)) (λZ hZ=>?_) ?_
 · refine⟨_,rfl,b,g,l,_,8,rfl,B1,by omega,by decide,by decide,λc H2 c0 c1 B2 S2=>⟨rfl,_,rfl,IR (λh=>?_) (λh=>?_)⟩⟩
   · exact⟨_,rfl,lf,_,rfl,.inl (SqL.of (S2 _ _ e1 fb fg)),hZ _ _ ⟨_,rfl,by omega,S2,B2.mono (by omega)⟩⟩
   · exact hZ _ _ ⟨m,rfl,m0,S2,B2.mono (by omega)⟩
 rintro σ' H2 ⟨k,rfl,k0,S2,B2⟩;have e2:=S2 _ _ e1 fb fg;have ha2:=S2 _ _ ha1 ab ag;have S02:=S01.trans S2;have nf:∀x,H2 x=none→H x=none:=λx hx=>B2.back S02 x hx;refine⟨_,rfl,_,rfl,a,_,rfl,.inl (SqL.of ha2),_,_,rfl,?_⟩;obtain⟨M,hM,hM2⟩:∃M:Nat,(if(xs.length:Int)<k then(xs.length:Int) else k)=(M:Int)∧M≤xs.length:=by
  by_cases h:(xs.length:Int)<k
  · exact⟨xs.length,by rw[if_pos h],Af _⟩
  · exact⟨k.toNat,by rw[if_neg h];omega,by omega⟩
 rw[hM];refine⟨_,rfl,(by omega),(by omega),λp hp=>?_⟩;have sp:=Iq hp (.lst []);obtain⟨pb,pg,pl⟩:=B2.free hp;have npf:p≠lf:=λe=>by rw[e,e2] at hp;cases hp
 refine Mx (lo:=0) (n:=M) (λi σ' ys H'=>(∃v,σ'=[v,some (.ref b),some (.ref lf)])∧(SameB b g H H'∧Well H' b g l (n+2+(i:Int)))∧H' p=some (.lst ys)∧∃zs:List V,H' lf=some (.lst zs)∧zs.length=xs.length - i∧(ys++zs).Perm xs) ⟨⟨none,rfl⟩,⟨S02.trans sp.sameB,(B2.same sp).mono (by omega)⟩,Ij,xs,sp _ _ e2,by simp,DP _⟩ ?_ ?_ ?_
 · rintro i σ' ys H' hi ⟨_,_,h1,zs,h2,h3,h4⟩;have:=h4.length_eq;rw[Aw] at this;exact⟨h1,Je (by omega)⟩
 · rintro i σ' ys H' N hi ⟨⟨v,rfl⟩,⟨S1,B1⟩,h1,zs,h2,h3,h4⟩ hN;refine⟨_,rfl,.inl ⟨rfl,_,SqL.of h2⟩,_,rfl,_,rfl,lf,_,rfl,.inl (SqL.of h2),b,g,l,_,_,rfl,B1,by omega,by omega,Ki (by omega),λc H2 c0 c1 B2 S2=>?_⟩;obtain⟨k,rfl⟩:∃k:Nat,c=(k:Int):=⟨c.toNat,by omega⟩;have hk:k<zs.length:=by omega
   have f2:=S2 _ _ h2 fb fg;have g2':=S2 _ _ h1 pb pg;refine⟨lf,zs,(k:Int),k,zs[k],rfl,rfl,f2,by omega,by omega,?_,Au hk,?_⟩
   · unfold PySem.seqIndex?;simp;omega
   · refine⟨by rw[Iy npf];exact g2',hN _ _ _ ⟨⟨_,rfl⟩,⟨?_,?_⟩,Ij,zs.eraseIdx k,?_,?_,?_⟩⟩
     · exact((S1.trans S2).off hlf).off (nf p hp)
     · exact((B2.off fb fg fl).off pb pg pl).mono (by omega)
     · rw[Iy npf.symm,Ij]
     · rw[Gc];simp[hk];omega
     · rw[BI];exact((QN zs k hk).append_left ys).trans h4
 · rintro σ' ys H' ⟨_,⟨S1,B1⟩,h1,zs,h2,h3,h4⟩;exact q p ys zs H' (nf p hp) h1 h4 (B1.mono (by omega)) S1
theorem ziP(F:Fun K "_law_web" "_law_web" Pa f fd)(Hw:Γ32 P w K mg base):FnOk P w K mg base IC 2 f fd ["well","most"] (Th):=by
 refine F.ok GK (λvs H Q E h=>?_) (λcdv A outer s H vs Q E hr h=>?_)
 · obtain⟨b,g,l,n,most,rfl,Bg,hn,m1,m2,q⟩:=h;rfl
 obtain⟨b,g,l,n,most,rfl,Bg,hn,m1,m2,q⟩:=h;refine⟨_,(Ik (I0 (i:=2) GK.nd rfl (Or.inr rfl) (Ip Hw (hr.mono (by decide)) rfl (Ic (pv 0) (Ic Ih Ie))))
  (Ik (I0 (i:=3) GK.nd rfl (Or.inl rfl) (Ip Hw (hr.mono (by decide)) rfl (Ic (pv 0) (Ic (pv 1) Ie))))
  (Ik (IL (IG JH (pv 2) Ih (IK _)) (Im (Iz (zgv rfl (pv 3) rfl B.list_ rfl B.range_))) IN)
  (Im (Iz (JZ (N':=["place","well","pick"]) (js:=[none,some 0,some 2]) rfl (Jq (N:=["well","most","pick","many"]) (outer:=Iu Pa) (by decide+kernel)) (Le rfl B.range_ (Ic (pv 3) Ie)) (λ_ _ _ _ _=>(Iv (i:=0) Of rfl (Or.inl rfl))) (λ_ _ _ _ _=>Kn) (λ_ _ _ _ _=>(MW (IG JH (pv 2) Ih (IK _)) Ih (Ip Hw (hr.mono (by decide)) rfl (Ic (pv 1) (Ic (Iw Jg (pv 0) Ih) Ie))))))))))),?_⟩
 refine⟨_,rfl,b,g,l,_,4,rfl,Bg,by omega,by decide,by decide,λpk H1 p0 p3 B1 S1=>?_⟩;refine⟨_,rfl,_,rfl,b,g,l,_,most,rfl,B1,by omega,by omega,Ki (by omega),λm H2 k0 k1 B2 S2=>?_⟩;have S02:=S1.trans S2;have nf:∀x,H2 x=none→H x=none:=λx hx=>B2.back S02 x hx;obtain⟨M,rfl⟩:∃M:Nat,m=(M:Int):=⟨m.toNat,by omega⟩;dsimp only;refine Lw (λσ' H'=>σ'=[some (.ref b),some (.int most),some (.int pk),some (.int (M:Int))]∧H'=H2) (λZ hZ=>?_) ?_
 · refine⟨_,rfl,rfl,_,rfl,IR (λh=>?_) (λh=>hZ _ _ ⟨rfl,rfl⟩)⟩;refine⟨_,rfl,M,rfl,by omega,λr hr=>?_⟩;have s3:=Iq hr (.lst (((AJ M).map (λ(i:Nat)=>(i:Int))).map V.int));exact q r _ _ (nf r hr) ⟨Ij,zi8 (by omega)⟩ ((B2.same s3).mono (by omega)) (S02.trans s3.sameB)
 rintro σ' H' ⟨rfl,rfl⟩;refine⟨_,rfl,_,rfl,(by omega),(by omega),λp hp=>?_⟩;have sp:=Iq hp (.lst []);obtain⟨pb,pg,pl⟩:=B2.free hp;refine Mx (lo:=0) (n:=M) (λi σ' ys H3=>(∃v,σ'=[v,some (.ref b),some (.int pk)])∧(SameB b g H H3∧Well H3 b g l (n+2+(i:Int)))∧H3 p=some (.lst ys)∧∃L:List Int,ys=L.map V.int∧L.length=i∧∀(j:Nat)y,L[j]?=some y→0≤y∧y≤(j:Int)) ⟨⟨none,rfl⟩,⟨S02.trans sp.sameB,(B2.same sp).mono (by omega)⟩,Ij,[],rfl,rfl,λj y e=>by simp at e⟩ ?_ ?_ ?_
 · rintro i σ' ys H3 hi ⟨_,_,h1,L,rfl,h3,h4⟩;exact⟨h1,Je (by rw[Ab];omega)⟩
 · rintro i σ' ys H3 N hi ⟨⟨v,rfl⟩,⟨S3,B3⟩,h1,L,rfl,h3,h4⟩ hN;refine⟨_,rfl,rfl,_,rfl,IR (λh=>?_) (λh=>?_)⟩
   · refine⟨h1,hN _ _ _ ⟨⟨_,rfl⟩,⟨S3.off (nf p hp),(B3.off pb pg pl).mono (by omega)⟩,Ij,L++[0],by rw[Ao];rfl,by simp;omega,UJ h4 (by omega) (by omega)⟩⟩
   · refine⟨_,rfl,_,rfl,_,_,rfl,rfl,b,g,l,_,_,rfl,B3,by omega,by omega,Ki (by omega),λc H4 c0 c1 B4 S4=>?_⟩;refine⟨S4 _ _ h1 pb pg,hN _ _ _ ⟨⟨_,rfl⟩,⟨(S3.trans S4).off (nf p hp),(B4.off pb pg pl).mono (by omega)⟩,Ij,L++[c],by rw[Ao];rfl,by simp;omega,UJ h4 (by omega) (by omega)⟩⟩
 · rintro σ' ys H3 ⟨_,⟨S3,B3⟩,h1,L,rfl,h3,h4⟩;exact q p L H3 (nf p hp) ⟨h1,by omega,h4⟩ (B3.mono (by omega)) S3
theorem zhj(F:Fun K "_law_near" "_law_near" OZ f fd)  :FnOk P w K mg base IC 1 f fd ["web","p"] (TR):=by
 refine F.ok GL (λvs H Q E h=>?_) (λcdv A outer s H vs Q E hr h=>?_)
 · obtain⟨a,W,p,rfl,⟨ha,hW⟩,hp,q⟩:=h;rfl
 obtain⟨a,W,p,rfl,⟨ha,hW⟩,hp,q⟩:=h;refine⟨_,(Ik (LX (N':=["place","web","p"]) (js:=[none,some 0,some 1]) (i:=2) GL.nd rfl (Or.inl rfl) rfl (Jq (N:=["web","p","found"]) (outer:=Iu OZ) (by decide+kernel)) (Le rfl B.range_ (Ic (IB Jb rfl B.len_ IW (Ic (pv 0) Ie)) Ie)) (λ_ _ _ _ _=>(Iv (i:=0) Oe rfl (Or.inl rfl))) (λ_ _ _ _ _=>Ks (IG JH (IE (Zf K rfl) (pv 1) (pv 0) (λ_ _=>rfl)) (pv 2) (IK _))) (λ_ _ _ _ _=>(Iw Jg (pv 0) Ih)))
  (Im (Iz (MW (IG JH (pv 1) Ih (IK _)) (pv 2) (Iw LV (Js (Ic (IE IV (pv 0) (Iw Mq (pv 1) Ih) (λ_ _=>rfl)) Ie)) (pv 2)))))),?_⟩
 have lw:=hW.1;have lm:(W.map V.int).length=W.length:=Ab _;refine⟨_,rfl,a,_,rfl,.inl (SqL.of ha),_,rfl,by omega,by omega,λl hl=>?_⟩;refine Mx (lo:=0) (n:=(W.map V.int).length) (λi σ' ys H'=>(∃v,σ'=[v,some (.ref a),some (.int p)])∧Same H H'∧H' l=some (.lst ys)∧ys=(((AJ i).filter (λk=>W.getD k 0==p)).map (λ(k:Nat)=>(k:Int)+1)).map V.int) ⟨⟨none,rfl⟩,Iq hl _,Ij,rfl⟩ ?_ ?_ ?_
 · rintro i σ' ys H' hi ⟨_,s,h1,h2⟩;refine⟨h1,?_⟩;rw[h2,Ab,Ab];have:=AC (λk=>W.getD k 0==p) (AJ i);rw[CW] at this;exact Je (by omega)
 · rintro i σ' ys H' N hi ⟨⟨v,rfl⟩,s,h1,h2⟩ hN;have hi':i<W.length:=by omega
   have e2:W[i]?=some W[i]:=by simp
   have gd:W.getD i 0=W[i]:=by rw[A2,e2];rfl
   generalize W[i]=n at*;have at1:Jp (W.map V.int) (0+(i:Int))=some (.int n):=by rw[Int.zero_add];exact JN (by rw[Aj,e2];rfl)
   refine⟨_,rfl,_,rfl,a,_,_,_,rfl,rfl,SqL.of (s _ _ ha),at1,_,rfl,rfl,_,rfl,?_⟩;by_cases hn:n=p
   · subst hn;rw[decide_eq_true rfl];refine Ii ⟨_,rfl,_,_,rfl,rfl,h1,hN _ _ _ ⟨⟨_,rfl⟩,J7 s hl,Ij,?_⟩⟩;rw[h2,DD,AV,Ao,Ao,Bx,if_pos (by rw[gd];simp),Int.zero_add];rfl
   · rw[decide_eq_false (λz=>hn (by injection z))];refine Ig (hN _ _ _ ⟨⟨_,rfl⟩,s,h1,?_⟩);rw[h2,DD,AV,Bx,if_neg (by rw[gd];simpa using hn)];simp
 · rintro σ' ys H' ⟨_,s,h1,h2⟩;rw[lm] at h2;have e3:H' l=some (.lst ((WB.kids W p).map V.int)):=by rw[h1,h2];rfl
   refine⟨_,rfl,rfl,_,rfl,IR (λh=>?_) (λh=>?_)⟩
   · have h0:p=0:=by have:=of_decide_eq_true h;injection this
     refine⟨_,rfl,q l H' s hl ?_⟩;rw[e3];unfold WB.roads;rw[if_neg (by omega)];rfl
   · have h0:0<p:=by
      have:=hp.1;have:p≠0:=λz=>h (decide_eq_true (by rw[z]));omega
     have at1:Jp (W.map V.int) (p - 1)=some (.int (WB.par W p)):=by obtain⟨k,hk⟩:=Cj (show 0≤p - 1 by omega);have:=WB.par_at hp h0;rw[hk] at this ⊢;exact JN (by rw[Aj];rw[show((k:Int)).toNat=k from rfl] at this;rw[this];rfl)
     refine⟨_,rfl,_,rfl,_,_,rfl,rfl,a,_,_,_,rfl,rfl,SqL.of (s _ _ ha),at1,LQ,λlb hlb=>?_⟩;have s1:=Iq hlb (.lst [V.int (WB.par W p)]);have kl:=WB.kids_len W p;refine⟨_,rfl,lb,l,_,_,rfl,rfl,Ij,s1 _ _ e3,Lr (by rw[Ab];show 1+_≤_;omega),λl3 hl3=>q l3 _ (s.trans (s1.trans (Iq hl3 _))) (Yx (s.trans s1) hl3) ?_⟩;rw[Ij];unfold WB.roads;rw[if_pos h0];rfl
theorem zfB(F:Fun K "_law_beyond" "_law_beyond" QQ f fd)(HK:Γ48 P w K mg base):FnOk P w K mg base IC 2 f fd ["web","p","q"] (Vb):=by
 refine F.ok GM (λvs H Q E h=>?_) (λcdv A outer s H vs Q E hr h=>?_)
 · obtain⟨a,W,p,q',rfl,⟨ha,hW⟩,hp,hq,hm,q⟩:=h;rfl
 obtain⟨a,W,p,q',rfl,⟨ha,hW⟩,hp,hq,hm,q⟩:=h;refine⟨_,(Ik (I0 (i:=3) GM.nd rfl (Or.inl rfl) (Js (Ic (pv 2) Ie)))
  (Ik (I0 (i:=4) GM.nd rfl (Or.inl rfl) Ih)
  (Ik (UL AO (IG MH (pv 4) (IB Jb rfl B.len_ IW (Ic (pv 3) Ie)) (IK _)) (Ik (JS AO rfl (Jx (Ip HK (hr.mono (by decide)) rfl (Ic (pv 0) (Ic (IE IV (pv 3) (pv 4) (λ_ _=>rfl)) Ie)))) (Iv (i:=5) GM.nd rfl (Or.inl rfl)) (Im (IL (PW.pt (Mr (IG L5 (pv 5) (pv 1) (IK _)) (M1 (IG QO (pv 5) (pv 3) (by with_unfolding_all rfl))))) (Im (K0 (KE AU Bf Bh Ld (pv 3) (Ic (pv 5) Ie)))) IN)))
  (Im (I0 (i:=4) GM.nd rfl (Or.inl rfl) (Iw Jg (pv 4) Ih)))))
  (Im (Iz (pv 3)))))),?_⟩
 have adj:=(WB.roads_adj hW hp hm).2;refine⟨_,rfl,LQ,λl hl=>?_⟩;have s0:=Iq hl (.lst [V.int q']);have e0:(upd H l (.lst [V.int q'])) l=some (.lst (([q']:List Int).map V.int)):=Ij;generalize upd H l (.lst [V.int q'])=H0 at*;refine IZ ?_;intro σ15
 let Pv17:Nat→L2.St→Hp→Prop:=λm σ H'=>∃(y5:Option V)(k:Nat)(fs:List Int),σ=[some (.ref a),some (.int p),some (.int q'),some (.ref l),some (.int (k:Int)),y5]∧Same H H'∧H' l=some (.lst (fs.map V.int))∧Bfs W p q' fs∧(∀i x,i<k→fs[i]?=some x→∀y∈WB.roads W x,y=p∨y∈fs)∧k≤fs.length∧m=24 - k
 let Pv16:L2.St→Hp→Prop:=λσ H'=>∃y4 y5 fs,σ=[some (.ref a),some (.int p),some (.int q'),some (.ref l),y4,y5]∧Same H H'∧H' l=some (.lst (fs.map V.int))∧Bfs W p q' fs∧(∀x∈fs,∀y∈WB.roads W x,y=p∨y∈fs)
 refine VI Pv17
  Pv16 ?_ ?_ ?_
 · exact⟨_,none,0,[q'],rfl,s0,e0,⟨by simp,λx hx=>by rw[Am.mp hx];exact WB.side_self hW hp hq adj,Am.mpr rfl⟩,λi x hi=>absurd hi (CO _),AI _,rfl⟩
 · rintro m σ H1 Z ⟨y5,k,fs,rfl,s1,e1,D1,C1,k1,rfl⟩ hZ;have l24:=D1.len hW;refine⟨_,rfl,_,rfl,l,_,rfl,.inl (SqL.of e1),_,_,rfl,rfl,_,rfl,IR (λh=>?_) (λh=>?_)⟩
   · have hk:k<fs.length:=by have:=of_decide_eq_true h;rw[Ab] at this;omega
     have ek:fs[k]?=some fs[k]:=by simp
     have hx:=Ak ek;have at1:Jp (fs.map V.int) (k:Int)=some (.int fs[k]):=JN (by rw[Aj,ek];rfl);generalize fs[k]=x at*;have px:=(WB.side_mem.mp (D1.inS x hx)).1;refine⟨λσ H'=>∃(y5:Option V)(k':Nat)(fs':List Int),σ=[some (.ref a),some (.int p),some (.int q'),some (.ref l),some (.int (k':Int)),y5]∧Same H H'∧H' l=some (.lst (fs'.map V.int))∧Bfs W p q' fs'∧(∀i x,i<k'→fs'[i]?=some x→∀y∈WB.roads W x,y=p∨y∈fs')∧k'≤fs'.length∧24 - k'<24 - k,?_,?_⟩
     · rintro σ' H' ⟨a1,a2,a3,a4,a5,a6,a7,a8,a9,a10⟩;exact⟨_,a10,a1,a2,a3,a4,a5,a6,a7,a8,a9,rfl⟩
     refine⟨_,rfl,_,rfl,_,rfl,l,_,_,_,rfl,rfl,SqL.of e1,at1,a,W,x,rfl,⟨s1 _ _ ha,hW⟩,px,λln H2 s2 n2 e2=>?_⟩;have lne:l≠ln:=J2 e1 n2
     let Pv18:Nat→L2.St→Hp→Prop:=λj σ H'=>∃y5 ys,σ=[some (.ref a),some (.int p),some (.int q'),some (.ref l),some (.int (k:Int)),y5]∧Same H H'∧H' ln=some (.lst ((WB.roads W x).map V.int))∧H' l=some (.lst ((fs++ys).map V.int))∧Bfs W p q' (fs++ys)∧(∀(i:Nat)(y:Int),i<j→(WB.roads W x)[i]?=some y→y=p∨y∈fs++ys)
     refine⟨ln,rfl,⟨_,SqL.of e2⟩,Lv (K:=K) (a:=ln) (xs:=(WB.roads W x).map V.int) Pv18 ?_ ?_ ?_ ?_⟩
     · exact⟨y5,[],rfl,s1.trans s2,e2,by rw[Cm];exact s2 _ _ e1,by rw[Cm];exact D1,λi y hi=>absurd hi (CO _)⟩
     · rintro j σ H' _ ⟨_,_,_,_,h,_⟩;exact SqL.of h
     · rintro j v σ H3 hv ⟨y6,ys,rfl,s3,n3,e3,D3,C3⟩;rw[Aj] at hv;cases ey:(WB.roads W x)[j]? with
       | none=>rw[ey] at hv;cases hv
       | some y=>
        rw[ey] at hv;obtain rfl:V.int y=v:=AD hv;have hyr:=Ak ey;have l3:=D3.len hW;have old:y=p∨y∈fs++ys→∀(i:Nat)(z:Int),i<j+1→(WB.roads W x)[i]?=some z→z=p∨z∈fs++ys:=λh i z hi hz=>by
         by_cases hij:i<j
         · exact C3 i z hij hz
         · obtain rfl:i=j:=by omega
           rw[ey] at hz;cases hz;exact h
        refine⟨_,rfl,_,rfl,rfl,_,rfl,?_⟩;by_cases yp:y=p
        · rw[decide_eq_true (congrArg V.int yp)];exact Ig (Ig ⟨_,ys,rfl,s3,n3,e3,D3,old (.inl yp)⟩)
        · rw[decide_eq_false (λz=>yp (by injection z))];refine Ii ⟨_,rfl,_,rfl,QM (SqL.of e3) ⟨_,rfl,?_⟩⟩;rw[show(fs++ys).any (λz=>z==y)=WB.has (fs++ys) y from rfl];cases c:WB.has (fs++ys) y with
          | true=>exact Ig ⟨_,ys,rfl,s3,n3,e3,D3,old (.inr (WB.has_iff.mp c))⟩
          | false=>
           have ny:y ∉ fs++ys:=λz=>by rw[WB.has_iff.mpr z] at c;cases c
           have D4:=D3.put ny (WB.side_closed hW hp hq adj (D1.inS x hx) hyr yp);refine Ii ⟨_,rfl,.inl ⟨rfl,_,SqL.of e3⟩,_,rfl,l,_,_,rfl,rfl,e3,(by rw[Ab];exact Je (by omega)),?_⟩;refine⟨_,ys++[y],rfl,J7 s3 hl,by rw[Iy lne.symm];exact n3,by rw[Ij,←BI,Ao (l₂:=[y])];rfl,by rw[←BI];exact D4,λi z hi hz=>?_⟩;by_cases hij:i<j
           · rw[←BI];exact(C3 i z hij hz).imp_right λh=>AH _ h
           · obtain rfl:i=j:=by omega
             rw[ey] at hz;cases hz;exact .inr (by simp)
     · rintro σ H3 ⟨y6,ys,rfl,s3,n3,e3,D3,C3⟩;refine⟨_,rfl,_,_,rfl,rfl,?_⟩;refine⟨y6,k+1,fs++ys,rfl,s3,e3,D3,λi z hi hz y hy=>?_,by rw[Aw];omega,by omega⟩;by_cases hik:i<k
       · rw[C4 (by omega)] at hz;exact(C1 i z hik hz y hy).imp_right λh=>AH _ h
       · obtain rfl:i=k:=by omega
         rw[C4 hk,ek] at hz;cases hz;obtain⟨j,hj⟩:=Ci hy;refine C3 j y ?_ hj;rw[Ab];exact(Al.mp hj).1
   · have hk:k=fs.length:=by
      have:¬(k:Int)<((fs.map V.int).length:Int):=λz=>h (decide_eq_true z);rw[Ab] at this;omega
     refine hZ _ _ ⟨_,_,fs,rfl,s1,e1,D1,λx hx y hy=>?_⟩;obtain⟨i,hi⟩:=Ci hx;exact C1 i x (by rw[hk];exact(Al.mp hi).1) hi y hy
 · rintro σ H1 ⟨y4,y5,fs,rfl,s1,e1,D1,C1⟩;exact⟨_,rfl,q l fs H1 s1 hl e1 (D1.done hW hp hq adj C1) (D1.len hW)⟩
theorem zfw(F:Fun K "_law_turned" "_law_turned" Pf f fd)(Hw:Γ32 P w K mg base):FnOk P w K mg base IC 2 f fd ["well","row"] (UE):=by
 refine F.ok GN (λvs H Q E h=>?_) (λcdv A outer s H vs Q E hr h=>?_)
 · obtain⟨b,g,l,a,n,xs,rfl,Bg,hn,ha,ab,ag,lx,q⟩:=h;rfl
 obtain⟨b,g,l,a,n,xs,rfl,Bg,hn,ha,ab,ag,lx,q⟩:=h;refine⟨_,(Ik (I0 (i:=2) GN.nd rfl (Or.inr rfl) (M3 NN rfl B.list_ K6 (Ic (pv 1) Ie)))
  (Im (Iz (JZ (N':=["k","well","left"]) (js:=[none,some 0,some 2]) rfl (Jq (N:=["well","row","left"]) (outer:=Iu Pf) (by decide+kernel)) (Le rfl B.range_ (Ic (IB Jb rfl B.len_ IW (Ic (pv 1) Ie)) Ie)) (λ_ _ _ _ _=>(Iv (i:=0) Mb rfl (Or.inl rfl))) (λ_ _ _ _ _=>Kn) (λ_ _ _ _ _=>(SQ K rfl AU El Em Qq (pv 2) (Ic (Ip Hw (hr.mono (by decide)) rfl (Ic (pv 1) (Ic (IB (VV K rfl) rfl B.len_ IW (Ic (pv 2) Ie)) Ie))) Ie))))))),?_⟩
 refine⟨_,rfl,a,_,rfl,.inl (SqL.of ha),λlf hlf=>?_⟩;have s0:=Iq hlf (.lst xs);have e0:(upd H lf (.lst xs)) lf=some (.lst xs):=Ij;have B0:=Bg.same s0;obtain⟨fb,fg,fl⟩:=Bg.free hlf;have ha0:=s0 _ _ ha;have S0:SameB b g H (upd H lf (.lst xs)):=s0.sameB;generalize upd H lf (.lst xs)=H0 at*;refine⟨_,rfl,a,_,rfl,.inl (SqL.of ha0),_,rfl,(by omega),(by omega),λp hp=>?_⟩;have sp:=Iq hp (.lst []);obtain⟨pb,pg,pl⟩:=B0.free hp;have npf:p≠lf:=λe=>by rw[e,e0] at hp;cases hp
 refine Mx (lo:=0) (n:=xs.length) (λi σ' ys H'=>(∃v,σ'=[v,some (.ref b),some (.ref lf)])∧(SameB b g H H'∧Well H' b g l (n+(i:Int)))∧H' p=some (.lst ys)∧∃zs:List V,H' lf=some (.lst zs)∧zs.length=xs.length - i∧(ys++zs).Perm xs) ⟨⟨none,rfl⟩,⟨S0.trans sp.sameB,(B0.same sp).mono (by omega)⟩,Ij,xs,sp _ _ e0,by simp,DP _⟩ ?_ ?_ ?_
 · rintro i σ' ys H' hi ⟨_,_,h1,zs,h2,h3,h4⟩;have:=h4.length_eq;rw[Aw] at this;exact⟨h1,Je (by omega)⟩
 · rintro i σ' ys H' N hi ⟨⟨v,rfl⟩,⟨S1,B1⟩,h1,zs,h2,h3,h4⟩ hN;refine⟨_,rfl,.inl ⟨rfl,_,SqL.of h2⟩,_,rfl,_,rfl,lf,_,rfl,.inl (SqL.of h2),b,g,l,_,_,rfl,B1,by omega,by omega,Ki (by omega),λc H2 c0 c1 B2 S2=>?_⟩;obtain⟨k,rfl⟩:∃k:Nat,c=(k:Int):=⟨c.toNat,by omega⟩;have hk:k<zs.length:=by omega
   have f2:=S2 _ _ h2 fb fg;have g2':=S2 _ _ h1 pb pg;refine⟨lf,zs,(k:Int),k,zs[k],rfl,rfl,f2,by omega,by omega,?_,Au hk,?_⟩
   · unfold PySem.seqIndex?;simp;omega
   · refine⟨by rw[Iy npf];exact g2',hN _ _ _ ⟨⟨_,rfl⟩,⟨?_,?_⟩,Ij,zs.eraseIdx k,?_,?_,?_⟩⟩
     · exact((S1.trans S2).off hlf).off (s0.free hp)
     · exact((B2.off fb fg fl).off pb pg pl).mono (by omega)
     · rw[Iy npf.symm,Ij]
     · rw[Gc];simp[hk];omega
     · rw[BI];exact((QN zs k hk).append_left ys).trans h4
 · rintro σ' ys H' ⟨_,⟨S1,B1⟩,h1,zs,h2,h3,h4⟩;have:zs=[]:=Ft.mp (by omega);subst this;rw[Cm] at h4;exact q p ys H' (s0.free hp) h1 h4 (B1.mono (by omega)) S1
theorem zfx(F:Fun K "_law_stands" "_law_stands" QT f fd)(HL:Γ50 P w K mg base)(HM:Γ34 P w K mg base)(Hw:Γ32 P w K mg base)(HN:Γ46 P w K mg base):FnOk P w K mg base IC 4 f fd ["well","web","pool","many"] (V3):=by
 refine F.ok GO (λvs H Q E h=>?_) (λcdv A outer s H vs Q E hr h=>?_)
 · obtain⟨b,g,l,a,c,n,many,W,ws,rfl,Bg,hn,hW,ab,ag,hw,cb,cg,nd,lw,m1,m2,q⟩:=h;rfl
 obtain⟨b,g,l,a,c,n,many,W,ws,rfl,Bg,hn,hW,ab,ag,hw,cb,cg,nd,lw,m1,m2,q⟩:=h;refine⟨_,(Ik (I0 (i:=4) GO.nd rfl (Or.inl rfl) (Js Ie))
  (Ik (JS AO rfl (Jx (Ip HL (hr.mono (by decide)) rfl (Ic (pv 0) (Ic (Ip HM (hr.mono (by decide)) rfl (Ic (pv 0) (Ic (pv 3) Ie))) Ie)))) (Iv (i:=5) GO.nd rfl (Or.inl rfl)) (Im (K0 (KE AU Bf Bh Ld (pv 4) (Ic (Jw (Ic (pv 5) (Ic (Ip Hw (hr.mono (by decide)) rfl (Ic (pv 0) (Ic (Iw Jg (IB Jb rfl B.len_ IW (Ic (pv 1) Ie)) Ih) Ie))) (Ic (KW Nt (Ip HN (hr.mono (by decide)) rfl (Ic (pv 0) (Ic (pv 2) Ie))) Lb (Lc Ih)) Ie)))) Ie)))))
  (Im (Iz (pv 4))))),?_⟩
 refine⟨K9,λr hr'=>?_⟩;obtain⟨rb,rg,rl⟩:=Bg.free hr';have s0:=Iq hr' (.lst []);have e0:(upd H r (.lst [])) r=some (.lst []):=Ij;have nr:H r=none:=hr';have B0:=Bg.same s0;have ra:r≠a:=λe=>by rw[e,hW.1] at hr';cases hr'
 have rc:r≠c:=λe=>by rw[e,hw.at'] at hr';cases hr'
 have S0:SameB b g H (upd H r (.lst [])):=s0.sameB;generalize upd H r (.lst [])=H0 at*;refine⟨_,rfl,_,rfl,_,rfl,b,g,l,_,many,rfl,B0,by omega,m1,m2,λf fs H1 hf ef asc okf f1 f2 B1 S1=>?_⟩;obtain⟨fb,fg,_⟩:=B0.free hf;refine⟨b,g,l,f,_,_,rfl,B1,by omega,ef,fb,fg,by rw[Ab];omega,λh hv H2 hh eh pm B2 S2=>?_⟩;obtain⟨hs,hp,rfl⟩:=VC pm fs rfl;have S02:=S0.trans (S1.trans S2);have hsl:hs.length≤30:=by rw[hp.length_eq];omega
 have hsn:hs.Nodup:=hp.nodup_iff.mpr (asc.imp λhlt e=>SM hlt e);obtain⟨hb,hg',_⟩:=B1.free hh;have e2:=S2 _ _ (S1 _ _ e0 rb rg) rb rg;have hr2:h≠r:=λe=>by rw[e,S1 _ _ e0 rb rg] at hh;cases hh
 let Pv19:Nat→L2.St→Hp→Prop:=λi σ H'=>(∃y,σ=[some (.ref b),some (.ref a),some (.ref c),some (.int many),some (.ref r),y])∧SameB b g H H'∧Well H' b g l (n+1100+101*(i:Int))∧H' h=some (.lst (hs.map V.str))∧∃xs:List Stand,H' r=some (.lst (xs.map λx=>V.ref x.a))∧xs.map (·.hand)=hs.take i∧∀x∈xs,StAt H' W x∧H x.l=none∧x.l≠r∧∀y∈x.ws,y∈ws
 refine⟨h,rfl,⟨_,SqL.of eh⟩,Lv (K:=K) (a:=h) (xs:=hs.map V.str) Pv19 ?_ ?_ ?_ ?_⟩
 · exact⟨⟨none,rfl⟩,S02,B2.mono (by omega),eh,[],e2,rfl,λx hx=>(by simp at hx)⟩
 · rintro i σ H' hi ⟨_,_,_,h,_⟩;exact SqL.of h
 · rintro i x σ H3 hx ⟨⟨y,rfl⟩,S3,B3,h3,xs,e3,hd,g3⟩;rw[Aj] at hx;cases ew:hs[i]? with
   | none=>rw[ew] at hx;cases hx
   | some f'=>
    rw[ew] at hx;cases hx;have hil:i<hs.length:=(Al.mp ew).1;have a3:=S3 _ _ hW.1 ab ag;have w3:=hw.sameW Bg cb cg S3;refine IZ ?_;intro σ16;refine⟨_,rfl,.inl ⟨rfl,_,SqL.of e3⟩,_,rfl,_,rfl,_,rfl,a,_,rfl,.inl (SqL.of a3),_,_,rfl,rfl,b,g,l,_,_,rfl,B3,by omega,by omega,Ki (by have:=hW.2.1;rw[Ab];omega),λpo H4 po0 po1 B4 S4=>?_⟩;have w4:WsAt H4 c ws:=w3.sameW B3 cb cg S4;have e4:=S4 _ _ e3 rb rg;refine⟨_,rfl,_,rfl,b,g,l,c,_,_,rfl,B4,by omega,w4.at',cb,cg,by rw[Ab];omega,λpk ys zs H5 hpk epk pm5 B5 S5=>?_⟩;obtain⟨us,up,eu⟩:=VC pm5 ws rfl;have ey:ys=(us.take ys.length).map λx=>V.ref x.1:=by rw[List.map_take,eu,List.take_left]
    have sub1:(us.take ys.length).Sublist us:=DW _ _;generalize us.take ys.length=us' at ey sub1;subst ey;refine⟨_,rfl,pk,_,rfl,SqL.of epk,λnl hnl=>?_⟩;rw[Q2 (k:=10) rfl,←List.map_take] at*;have sub2:(us'.take 10).Sublist us:=(DW _ _).trans sub1;have l10:(us'.take 10).length≤10:=by rw[AA];omega
    generalize us'.take 10=vs at*;have s6:=Iq hnl (.lst (vs.map λx=>V.ref x.1));have e6:(upd H5 nl (.lst (vs.map λx=>V.ref x.1))) nl=some (.lst (vs.map λx=>V.ref x.1)):=Ij;have B6:=B5.same s6;have S35:=S4.trans S5;have n5:H nl=none:=B5.back (S3.trans S35) nl hnl;generalize upd H5 nl (.lst (vs.map λx=>V.ref x.1))=H6 at*;refine⟨MF,λtp htp=>?_⟩;have s7:=Iq htp (.tup [V.str f',V.int po,V.ref nl]);have e7:(upd H6 tp (.tup [V.str f',V.int po,V.ref nl])) tp=some (.tup [V.str f',V.int po,V.ref nl]):=Ij;have B7:=B6.same s7;have s57:Same H5 (upd H6 tp (.tup [V.str f',V.int po,V.ref nl])):=s6.trans s7;have e6':=s7 _ _ e6;generalize upd H6 tp (.tup [V.str f',V.int po,V.ref nl])=H7 at*;have S37:=S35.trans s57.sameB;have e7r:=s57 _ _ (S5 _ _ e4 rb rg);have w7:∀x∈vs,WishAt H7 x.1 x.2∧WOk x.2:=λx hx=>by have mx:=up.mem_iff.mp (sub2.subset hx);exact⟨(((w4.ok x mx).1).sameW B4 S5).same s57,(w4.ok x mx).2⟩
    have nr7:nl≠r:=λe=>by rw[e,S5 _ _ e4 rb rg] at hnl;cases hnl
    have lx:xs.length≤30:=by have:=congrArg Dk hd;rw[Ab,AA] at this;omega
    have ndv:(vs.map (·.2)).Nodup:=((up.map (·.2)).nodup_iff.mpr nd).sublist (sub2.map _);have fo:FieldOk f':=okf f' (hp.mem_iff.mp (Ak ew));have new:StAt H7 W ⟨tp,f',po,nl,vs⟩:=⟨e7,⟨e6',w7,A4 l10 (by decide)⟩,ndv,l10,fo,⟨po0,(by rw[Ab] at po1;show po≤(W.length:Int);omega)⟩⟩;refine⟨r,_,_,rfl,rfl,e7r,?_,?_⟩
    · rw[Ab];exact Je (by omega)
    · have tu:KB H7 (upd H7 r (.lst ((xs.map λx=>V.ref x.a)++[V.ref tp]))):=λz zs e=>by
       rw[Iy (λq=>by rw[q,e7r] at e;cases e)];exact e
      have ol:∀y:Stand,StAt H7 W y→y.l≠r→StAt (upd H7 r (.lst ((xs.map λx=>V.ref x.a)++[V.ref tp]))) W y:=λy h hyr=>
       ⟨tu _ _ h.at',⟨by rw[Iy hyr];exact h.ws.at',λx hx=>⟨(h.ws.ok x hx).1.keep tu,(h.ws.ok x hx).2⟩,h.ws.len⟩,h.nd,h.few,h.name,h.post⟩
      refine⟨⟨_,rfl⟩,(S3.trans S37).off nr,(B7.off rb rg rl).mono (by omega),by rw[Iy hr2];exact S37 _ _ h3 hb hg',xs++[⟨tp,f',po,nl,vs⟩],by rw[Ij,Ao];rfl,?_,λx hx=>?_⟩
      · rw[Ao,hd,Dq,ew];rfl
      · rcases A9.mp hx with z | z
        · obtain⟨g1,g2,g4,g6⟩:=g3 x z;obtain⟨xb,xg,_⟩:=Bg.free g2;have g5:StAt H7 W x:=⟨s57 _ _ (B4.tup S5 (B3.tup S4 g1.at')),((g1.ws.sameW B3 xb xg S4).sameW B4 xb xg S5).same s57,g1.nd,g1.few,g1.name,g1.post⟩;exact⟨ol x g5 g4,g2,g4,g6⟩
        · rw[Am.mp z];exact⟨ol _ new nr7,n5,nr7,λy hy=>up.mem_iff.mp (sub2.subset hy)⟩
 · rintro σ H3 ⟨⟨y,rfl⟩,S3,B3,h3,xs,e3,hd,g3⟩;rw[Ab,AS] at hd;refine⟨_,rfl,q r xs H3 nr ⟨e3,λx hx=>(g3 x hx).1,by rw[hd];exact hsn,?_⟩ (λx hx y hy=>(g3 x hx).2.2.2 y hy) (by have:=congrArg Dk hd;rw[Ab] at this;have:=hp.length_eq;omega) (λx hx=>(g3 x hx).2.1) (B3.mono (by rw[Ab];omega)) S3⟩;have:=congrArg Dk hd;rw[Ab] at this;omega
theorem zfv(F:Fun K "_law_wanted" "_law_wanted" QU f fd)  :FnOk P w K mg base IC 1 f fd ["stands","posts"] (V5):=by
 refine F.ok GP (λvs H Q E h=>?_) (λcdv A outer s H vs Q E hr h=>?_)
 · obtain⟨l,c,W,xs,F,rfl,hx,hc,q⟩:=h;rfl
 obtain⟨l,c,W,xs,F,rfl,hx,hc,q⟩:=h;refine⟨_,(Ik (I0 (i:=2) GP.nd rfl (Or.inl rfl) (Js Ie))
  (Ik (JS AO rfl (Jx (pv 0)) (JL rfl (ID (Iv (i:=3) GP.nd rfl (Or.inl rfl)) (ID (Iv (i:=4) GP.nd rfl (Or.inl rfl)) (ID (Iv (i:=5) GP.nd rfl (Or.inl rfl)) J3)))) (Im (IL (IG UT (pv 4) (pv 1) (by with_unfolding_all rfl)) (Im (I0 (i:=2) GP.nd rfl (Or.inl rfl) (Iw LV (pv 2) (pv 5)))) IN)))
  (Im (Iz (pv 2))))),?_⟩
 refine⟨K9,λr0 hr0=>?_⟩;have s0:=Iq hr0 (.lst [])
 let Pv20:Nat→L2.St→Hp→Prop:=λi σ H'=>(∃r y3 y4 y5,σ=[some (.ref l),some (.ref c),some (.ref r),y3,y4,y5]∧H r=none∧H' r=some (.lst ((JE (WB.has F) (xs.take i)).map λx=>V.ref x.1)))∧Same H H'
 refine⟨_,rfl,l,rfl,⟨_,SqL.of (s0 _ _ hx.at')⟩,Lv (K:=K) (a:=l) (xs:=xs.map λx=>V.ref x.a) Pv20 ?_ ?_ ?_ ?_⟩
 · exact⟨⟨r0,none,none,none,rfl,hr0,Ij⟩,s0⟩
 · rintro i σ H' hi ⟨_,s⟩;exact SqL.of (s _ _ hx.at')
 · rintro i v σ H1 hv ⟨⟨r,y3,y4,y5,rfl,nr,e1⟩,s1⟩;rw[Aj] at hv;cases ew:xs[i]? with
   | none=>rw[ew] at hv;cases hv
   | some x1=>
    rw[ew] at hv;cases hv;have o1:=(hx.ok x1 (Ak ew)).same s1;refine⟨x1.a,_,rfl,SqT.of o1.at',rfl,_,_,rfl,_,_,rfl,_,_,rfl,rfl,?_⟩;refine⟨_,rfl,_,rfl,Tu (SqL.of (s1 _ _ hc)) ⟨_,rfl,?_⟩⟩;have sn:=zix (f:=WB.has F) ew;rw[show F.any (λy=>y==x1.post)=WB.has F x1.post from rfl];cases c:WB.has F x1.post with
    | true=>
     rw[c,if_pos rfl] at sn;refine Ii ⟨_,rfl,_,rfl,r,x1.l,_,_,rfl,rfl,e1,o1.ws.at',?_,λr2 hr2=>?_⟩
     · have h1:=Vz (f:=WB.has F) (xs:=xs.take i) λx hx'=>(hx.ok x (Da hx')).few;rw[AA] at h1;have h2:=o1.few;have h3:=hx.len;rw[Ab,Ab];exact Lr (by omega)
     · exact⟨⟨r2,_,_,_,rfl,s1.free hr2,by rw[Ij,sn,Ao]⟩,s1.trans (Iq hr2 _)⟩
    | false=> rw[c,if_neg (by decide),Cm] at sn;exact Ig ⟨⟨r,_,_,_,rfl,nr,by rw[e1,sn]⟩,s1⟩
 · rintro σ H1 ⟨⟨r,y3,y4,y5,rfl,nr,e1⟩,s1⟩;rw[Ab,AS] at e1;exact⟨_,rfl,q r H1 s1 nr (WsAt.wants (hx.same s1) e1)⟩
theorem zdc(F:Fun K "_law_stands_kept" "_law_stands_kept" Ph f fd)  :FnOk P w K mg base IC 1 f fd ["stands"] (SZ):=by
 refine F.ok zc3 (λvs H Q E h=>?_) (λcdv A outer s H vs Q E hr h=>?_)
 · obtain⟨l,W,xs,rfl,hx,q⟩:=h;rfl
 obtain⟨l,W,xs,rfl,hx,q⟩:=h;refine⟨_,(Im (Iz (JZ (N':=["hand","post","wishes"]) (js:=[none,none,none]) rfl (Jq (N:=["stands"]) (outer:=Iu Ph) (by decide+kernel)) (Jx (pv 0)) (λ_ _ _ _ _=>(MT K rfl (n:=3) rfl (ID (Iv (i:=0) Lg rfl (Or.inl rfl)) (ID (Iv (i:=1) Lg rfl (Or.inl rfl)) (ID (Iv (i:=2) Lg rfl (Or.inl rfl)) J3))))) (λ_ _ _ _ _=>Kn) (λ_ _ _ _ _=>(Jw (Ic (pv 0) (Ic (pv 1) (Ic (M3 (zfU K rfl) rfl B.list_ K6 (Ic (pv 2) Ie)) Ie)))))))),?_⟩;refine⟨_,rfl,l,rfl,⟨_,SqL.of hx.at'⟩,λr hr=>?_⟩;have hl:=hx.len;refine Lx (xs:=xs.map λx=>V.ref x.a) (λi σ' vs H'=>(∃v1 v2 v3,σ'=[v1,v2,v3])∧Same H H'∧H' r=some (.lst vs)∧∃ys:List Stand,vs=(ys.map λx=>V.ref x.a)∧ys.map IX=(xs.take i).map IX∧∀y∈ys,StAt H' W y∧y.l≠r) ⟨⟨none,none,none,rfl⟩,Iq hr _,Ij,[],rfl,rfl,λy hy=>by simp at hy⟩ ?_ ?_ ?_
 · rintro i σ' vs H' hi ⟨_,s,h1,ys,rfl,h2,h3⟩;refine⟨SqL.of (s _ _ hx.at'),h1,?_⟩;have:=congrArg Dk h2;rw[Ab,Ab,AA] at this;rw[Ab];exact Je (by omega)
 · rintro i x σ' vs H' N hy ⟨⟨v1,v2,v3,rfl⟩,s,h1,ys,rfl,h2,h3⟩ hN;rw[Aj] at hy;cases e1:xs[i]? with
   | none=>rw[e1] at hy;cases hy
   | some x1=>
    rw[e1] at hy;cases hy;have o1:=(hx.ok x1 (Ak e1)).same s;refine⟨x1.a,_,rfl,SqT.of o1.at',rfl,_,_,rfl,_,_,rfl,_,_,rfl,rfl,?_⟩;refine⟨_,rfl,_,rfl,_,rfl,x1.l,_,rfl,.inl (SqL.of o1.ws.at'),λnl hnl=>?_⟩;have s2:=Iq hnl (.lst (x1.ws.map λx=>V.ref x.1));have e2:(upd H' nl (.lst (x1.ws.map λx=>V.ref x.1))) nl=some (.lst (x1.ws.map λx=>V.ref x.1)):=Ij;generalize upd H' nl (.lst (x1.ws.map λx=>V.ref x.1))=H2 at*;refine⟨MF,λtp htp=>?_⟩;have s3:=Iq htp (.tup [V.str x1.hand,V.int x1.post,V.ref nl]);have e3:(upd H2 tp (.tup [V.str x1.hand,V.int x1.post,V.ref nl])) tp=some (.tup [V.str x1.hand,V.int x1.post,V.ref nl]):=Ij;generalize upd H2 tp (.tup [V.str x1.hand,V.int x1.post,V.ref nl])=H3 at*;have s13:=s2.trans s3;have o3:=o1.same s13;have new:StAt H3 W ⟨tp,x1.hand,x1.post,nl,x1.ws⟩:=⟨e3,⟨s3 _ _ e2,o3.ws.ok,o3.ws.len⟩,o3.nd,o3.few,o3.name,o3.post⟩;have h13:=s13 _ _ h1;refine⟨h13,hN _ _ _ ⟨⟨_,_,_,rfl⟩,J7 (s.trans s13) hr,Ij,ys++[⟨tp,x1.hand,x1.post,nl,x1.ws⟩],by rw[Ao];rfl,?_,λy hy=>?_⟩⟩
    · rw[Ao,h2,Dq,e1,Ao];rfl
    · have ol:∀y:Stand,StAt H3 W y→y.l≠r→StAt (upd H3 r (.lst ((ys.map λx=>V.ref x.a)++[V.ref tp]))) W y:=λy h hyr=>by
       have tu:KB H3 (upd H3 r (.lst ((ys.map λx=>V.ref x.a)++[V.ref tp]))):=λz zs e=>by rw[Iy (λq=>by rw[q,h13] at e;cases e)];exact e
       exact⟨tu _ _ h.at',⟨by rw[Iy hyr];exact h.ws.at',λx hx=>⟨(h.ws.ok x hx).1.keep tu,(h.ws.ok x hx).2⟩,h.ws.len⟩,h.nd,h.few,h.name,h.post⟩
      rcases A9.mp hy with z | z
      · exact⟨ol y ((h3 y z).1.same s13) (h3 y z).2,(h3 y z).2⟩
      · rw[Am.mp z];have nn:nl≠r:=λe=>by rw[e,h1] at hnl;cases hnl
        exact⟨ol _ new nn,nn⟩
 · rintro σ' vs H' ⟨_,s,h1,ys,rfl,h2,h3⟩;rw[Ab,AS] at h2;refine q r ys H' hr s ⟨h1,λy hy=>(h3 y hy).1,?_,?_⟩ h2
   · have:=congrArg (List.map (·.1)) h2;rw[BF,BF] at this;rw[show(ys.map (·.hand))=xs.map (·.hand) from this];exact hx.nd
   · have:=congrArg Dk h2;rw[Ab,Ab] at this;omega
theorem zeW(F:Fun K "_law_counted" "_law_counted" NJ f fd)(HP:Γ49 P w K mg base)(HQ:Γ43 P w K mg base)(HR:Γ52 P w K mg base):FnOk P w K mg base IC 5 f fd ["web","ahead","behind"] (Vd):=by
 refine F.ok GQ (λvs H Q E h=>?_) (λcdv A outer s H vs Q E hr h=>?_)
 · obtain⟨a,l,m,W,xs,ys,rfl,hW,hx,hy,fx,fy,q⟩:=h;rfl
 obtain⟨a,l,m,W,xs,ys,rfl,hW,hx,hy,fx,fy,q⟩:=h;refine⟨_,(Ik (I0 (i:=3) GQ.nd rfl (Or.inl rfl) (Js (Ic Ih (Ic Ih Ie))))
  (Ik (JS AO rfl (Le rfl B.range_ (Ic (IB Jb rfl B.len_ IW (Ic (pv 0) Ie)) Ie)) (Iv (i:=4) GQ.nd rfl (Or.inl rfl)) (Im (JS AO rfl (Jx (Js (Ic (Jw (Ic (IE IV (pv 0) (pv 4) (λ_ _=>rfl)) (Ic (Iw Jg (pv 4) Ih) Ie))) (Ic (Jw (Ic (Iw Jg (pv 4) Ih) (Ic (IE IV (pv 0) (pv 4) (λ_ _=>rfl)) Ie))) Ie)))) (JL rfl (ID (Iv (i:=5) GQ.nd rfl (Or.inl rfl)) (ID (Iv (i:=6) GQ.nd rfl (Or.inl rfl)) J3))) (Ik (I0 (i:=7) GQ.nd rfl (Or.inl rfl) (Ip HP (hr.mono (by decide)) rfl (Ic (pv 0) (Ic (pv 6) (Ic (pv 5) Ie)))))
  (Ik (I0 (i:=8) GQ.nd rfl (Or.inr rfl) (Ip HQ (hr.mono (by decide)) rfl (Ic (Ip HR (hr.mono (by decide)) rfl (Ic (pv 1) (Ic (pv 7) Ie))) Ie)))
  (Ik (I0 (i:=9) GQ.nd rfl (Or.inr rfl) (Ip HQ (hr.mono (by decide)) rfl (Ic (Ip HR (hr.mono (by decide)) rfl (Ic (pv 2) (Ic (pv 7) Ie))) Ie)))
  (Ik (Kf (Iw Jg (IE IV (pv 3) Ih (λ_ _=>rfl)) (IB Jb rfl B.len_ IW (Ic (JZ (N':=["one","old"]) (js:=[none,some 8]) rfl (Jq (N:=["web","ahead","behind","found","place","p","q","posts","old","new"]) (outer:=Iu NJ) (by decide+kernel)) (Jx (pv 9)) (λ_ _ _ _ _=>(Iv (i:=0) Od rfl (Or.inl rfl))) (λ_ _ _ _ _=>Ks (IG (VN K rfl (Kb hr)) (pv 0) (pv 1) (by with_unfolding_all rfl))) (λ_ _ _ _ _=>(pv 0))) Ie))) (Np (pv 3) Ih NG))
  (Im (Kf (Iw Jg (IE IV (pv 3) Ih (λ_ _=>rfl)) (IB Jb rfl B.len_ IW (Ic (JZ (N':=["one","new"]) (js:=[none,some 9]) rfl (Jq (N:=["web","ahead","behind","found","place","p","q","posts","old","new"]) (outer:=Iu NJ) (by decide+kernel)) (Jx (pv 8)) (λ_ _ _ _ _=>(Iv (i:=0) Oc rfl (Or.inl rfl))) (λ_ _ _ _ _=>Ks (IG (VN K rfl (Kb hr)) (pv 0) (pv 1) (by with_unfolding_all rfl))) (λ_ _ _ _ _=>(pv 0))) Ie))) (Np (pv 3) Ih NG))))))))))
  (Im (Iz (Jw (Ic (IE IV (pv 3) Ih (λ_ _=>rfl)) (Ic (IE IV (pv 3) Ih (λ_ _=>rfl)) Ie))))))),?_⟩
 have lm:(W.map V.int).length=W.length:=Ab _;have lw:=hW.2.1;refine⟨Ja,λf hf=>?_⟩;have s0:=Iq hf (.lst [V.int 0,V.int 0]);have e0:(upd H f (.lst [V.int 0,V.int 0])) f=some (.lst [V.int ((0:Nat):Int),V.int ((0:Nat):Int)]):=Ij;generalize upd H f (.lst [V.int 0,V.int 0])=H0 at*;refine IZ ?_;intro σ17
 let Pv21:Nat→L2.St→Hp→Prop:=λi σ H'=>(∃y4 y5 y6 y7 y8 y9,σ=[some (.ref a),some (.ref l),some (.ref m),some (.ref f),y4,y5,y6,y7,y8,y9])∧Same H H'∧H' f=some (.lst [V.int (IF W xs ys (KO W i):Nat),V.int (IF W ys xs (KO W i):Nat)])
 refine⟨_,rfl,a,_,rfl,.inl (SqL.of (s0 _ _ hW.1)),((W.length:Nat):Int),by rw[lm],by omega,by omega,N5 (lo:=0) (n:=W.length) Pv21 ?_ ?_ ?_⟩
 · exact⟨⟨none,none,none,none,none,none,rfl⟩,s0,e0⟩
 · rintro i σ H1 hi ⟨⟨y4,y5,y6,y7,y8,y9,rfl⟩,s1,f1⟩;have e00:(0:Int)+(i:Int)=(i:Int):=by omega
   have e2:W[i]?=some (W.getD i 0):=by rw[A2,Au hi];rfl
   have hes:(W.getD i 0,(i:Int)+1)∈JB W∧((i:Int)+1,W.getD i 0)∈JB W:=⟨Cw.mpr ⟨i,AQ.mpr hi,by simp⟩,Cw.mpr ⟨i,AQ.mpr hi,by simp⟩⟩;have fin:KO W (i+1)=KO W i++[(W.getD i 0,(i:Int)+1),((i:Int)+1,W.getD i 0)]:=YZ W i;generalize W.getD i 0=u at*;have at1:Jp (W.map V.int) (i:Int)=some (.int u):=JN (by rw[Aj,e2];rfl);have a1:=s1 _ _ hW.1;rw[e00];refine IZ ?_;intro σ18;refine⟨_,rfl,_,rfl,a,_,_,_,rfl,rfl,SqL.of a1,at1,_,rfl,_,_,rfl,rfl,Ja,λt1 ht1=>?_⟩;have s2:=Iq ht1 (.tup [V.int u,V.int ((i:Int)+1)]);have g2:(upd H1 t1 (.tup [V.int u,V.int ((i:Int)+1)])) t1=some (.tup [V.int u,V.int ((i:Int)+1)]):=Ij;generalize upd H1 t1 (.tup [V.int u,V.int ((i:Int)+1)])=H2 at*;refine⟨_,rfl,_,_,rfl,rfl,_,rfl,_,rfl,a,_,_,_,rfl,rfl,SqL.of (s2 _ _ a1),at1,Ja,λt2 ht2=>?_⟩;have s3:=Iq ht2 (.tup [V.int ((i:Int)+1),V.int u]);have g3:(upd H2 t2 (.tup [V.int ((i:Int)+1),V.int u])) t2=some (.tup [V.int ((i:Int)+1),V.int u]):=Ij;generalize upd H2 t2 (.tup [V.int ((i:Int)+1),V.int u])=H3 at*;refine⟨Ja,λl2 hl2=>?_⟩;have s4:=Iq hl2 (.lst [V.ref t1,V.ref t2]);have g4:(upd H3 l2 (.lst [V.ref t1,V.ref t2])) l2=some (.lst [V.ref t1,V.ref t2]):=Ij;generalize upd H3 l2 (.lst [V.ref t1,V.ref t2])=H4 at*;have g2':=(s3.trans s4) _ _ g2;have g3':=s4 _ _ g3;have f4:=(s2.trans (s3.trans s4)) _ _ f1;have t4:=s1.trans (s2.trans (s3.trans s4));have n1:t1≠f:=λe=>by rw[e,f1] at ht1;cases ht1
   have n2:t2≠f:=λe=>by rw[e,s2 _ _ f1] at ht2;cases ht2
   have n3:l2≠f:=λe=>by rw[e,(s2.trans s3) _ _ f1] at hl2;cases hl2
   let Pv22:Nat→L2.St→Hp→Prop:=λj σ H'=>(∃y5 y6 y7 y8 y9,σ=[some (.ref a),some (.ref l),some (.ref m),some (.ref f),some (.int (i:Int)),y5,y6,y7,y8,y9])∧Same H H'∧But f H4 H'∧H' f=some (.lst [V.int (IF W xs ys (KO W i++[(u,(i:Int)+1),((i:Int)+1,u)].take j):Nat),V.int (IF W ys xs (KO W i++[(u,(i:Int)+1),((i:Int)+1,u)].take j):Nat)])
   refine⟨l2,rfl,⟨_,SqL.of g4⟩,Lv (K:=K) (a:=l2) (xs:=[V.ref t1,V.ref t2]) Pv22 ?_ ?_ ?_ ?_⟩
   · exact⟨⟨_,_,_,_,_,rfl⟩,t4,But.refl _ _,by rw[List.take_zero,Cm];exact f4⟩
   · rintro j σ H' _ ⟨_,_,bt,_⟩;exact SqL.of (bt _ _ g4 n3)
   · rintro j vv σ H5 hv ⟨⟨y5,y6,y7,y8,y9,rfl⟩,s5,bt5,f5⟩;obtain⟨t,e,rfl,ht,ee,es⟩:∃(t:Addr)(e:Int×Int),vv= .ref t∧H5 t=some (.tup [.int e.1,.int e.2])∧[(u,(i:Int)+1),((i:Int)+1,u)][j]?=some e∧e∈JB W:=by
      match j,hv with
      | 0,hv=>cases hv;exact⟨t1,_,rfl,bt5 _ _ g2' n1,rfl,hes.1⟩
      | 1,hv=>cases hv;exact⟨t2,_,rfl,bt5 _ _ g3' n2,rfl,hes.2⟩
      | j+2,hv=>cases hv
     obtain⟨pp,pq,_,hm,_⟩:=PY hW.2 es;have c1:=Vp W xs ys (KO W i++[(u,(i:Int)+1),((i:Int)+1,u)].take j) e;have c2:=Vp W ys xs (KO W i++[(u,(i:Int)+1),((i:Int)+1,u)].take j) e;rw[BI,←JI ee] at c1 c2;generalize KO W i++[(u,(i:Int)+1),((i:Int)+1,u)].take j=E1 at*;obtain⟨p,q'⟩:=e;dsimp only at*;refine⟨t,_,rfl,SqT.of ht,rfl,_,_,rfl,_,_,rfl,rfl,?_⟩;refine⟨_,rfl,_,rfl,_,rfl,a,W,q',p,rfl,hW.same s5,pq,pp,hm,λF0 F H6 s6 nF eF mF lF=>?_⟩;have t6:=s5.trans s6;refine IZ ?_;intro σ19;refine⟨_,rfl,_,rfl,l,F0,W,xs,F,rfl,hx.same t6,eF,λwl H7 s7 nwl W7=>?_⟩;refine⟨wl,_,rfl,W7,fx.wants,λol qs H8 s8 nol T8 srt8=>?_⟩;have s68:=s7.trans s8;have t8:=t6.trans s68;have W8:=W7.same s8;have O8:WsAt H8 ol qs:=⟨T8.1,λx hx=>W8.ok x (T8.2.1 x hx),A4 T8.2.2.2 W8.len⟩;refine IZ ?_;intro σ20;refine⟨_,rfl,_,rfl,m,F0,W,ys,F,rfl,hy.same t8,s68 _ _ eF,λvl H9 s9 nvl V9=>?_⟩;refine⟨vl,_,rfl,V9,fy.wants,λnl rs HA sA nnl TA srtA=>?_⟩;have VA:=V9.same sA;have NA:WsAt HA nl rs:=⟨TA.1,λx hx=>VA.ok x (TA.2.1 x hx),A4 TA.2.2.2 VA.len⟩;have s8A:=s9.trans sA;have OA:=O8.same s8A;have s5A:=s6.trans (s68.trans s8A);have fA:=s5A _ _ f5;have eqx:(JE (WB.has F) xs).map (·.2)=J5 W xs q' p:=congrArg (List.map (·.2)) (Ql rfl λx hx'=>(UR mF (hx.ok x hx').post).symm);have eqy:(JE (WB.has F) ys).map (·.2)=J5 W ys q' p:=congrArg (List.map (·.2)) (Ql rfl λx hx'=>(UR mF (hy.ok x hx').post).symm);have k1:Ju (qs.map (·.2)) (rs.map (·.2))=gS W xs ys p q':=by have h1:=T8.2.2.1;have h2:=TA.2.2.1;rw[eqx] at h1;rw[eqy] at h2;exact Uo h1 h2
     have k2:Ju (rs.map (·.2)) (qs.map (·.2))=gS W ys xs p q':=by have h1:=T8.2.2.1;have h2:=TA.2.2.1;rw[eqx] at h1;rw[eqy] at h2;exact Uo h2 h1
     refine IZ ?_;intro σ21;refine⟨_,rfl,f,_,0,_,rfl,rfl,SqL.of fA,rfl,_,rfl,nl,rfl,⟨_,SqL.of NA.at'⟩,λr1 hr1=>?_⟩;refine Tw hr1 rfl NA OA λHB sB eB=>?_;refine⟨r1,_,rfl,.inl (SqL.of eB),_,_,rfl,rfl,_,rfl,f,_,0,0,rfl,rfl,sB _ _ fA,rfl,?_⟩;rw[Ab,U0,k1];dsimp only;rw[show([V.int (IF W xs ys E1:Nat),V.int (IF W ys xs E1:Nat)].set 0 (V.int ((IF W xs ys E1:Nat)+(gS W xs ys p q':Nat):Int)))=[V.int ((IF W xs ys E1+gS W xs ys p q':Nat):Int),V.int (IF W ys xs E1:Nat)] from rfl];have fB:=sB _ _ fA;have nlf:nl≠f:=λz=>by rw[z,(s6.trans (s68.trans s9)) _ _ f5] at nnl;cases nnl
     have olf:ol≠f:=λz=>by rw[z,(s6.trans s7) _ _ f5] at nol;cases nol
     have NC:=(NA.same sB).upd (ys:=[V.int ((IF W xs ys E1+gS W xs ys p q':Nat):Int),V.int (IF W ys xs E1:Nat)]) nlf fB;have OC:=(OA.same sB).upd (ys:=[V.int ((IF W xs ys E1+gS W xs ys p q':Nat):Int),V.int (IF W ys xs E1:Nat)]) olf fB;have oC:=J7 (o:= .lst [V.int ((IF W xs ys E1+gS W xs ys p q':Nat):Int),V.int (IF W ys xs E1:Nat)]) (s5.trans (s5A.trans sB)) hf;have bC:But f H5 (upd HB f (.lst [V.int ((IF W xs ys E1+gS W xs ys p q':Nat):Int),V.int (IF W ys xs E1:Nat)])):=λx o e n=>by rw[Iy n];exact(s5A.trans sB) x o e
     have fC:(upd HB f (.lst [V.int ((IF W xs ys E1+gS W xs ys p q':Nat):Int),V.int (IF W ys xs E1:Nat)])) f=some (.lst [V.int ((IF W xs ys E1+gS W xs ys p q':Nat):Int),V.int (IF W ys xs E1:Nat)]):=Ij;generalize upd HB f (.lst [V.int ((IF W xs ys E1+gS W xs ys p q':Nat):Int),V.int (IF W ys xs E1:Nat)])=HC at*;refine⟨_,rfl,f,_,1,_,rfl,rfl,SqL.of fC,rfl,_,rfl,ol,rfl,⟨_,SqL.of OC.at'⟩,λr2 hr2=>?_⟩;refine Tw hr2 rfl OC NC λHD sD eD=>?_;refine⟨r2,_,rfl,.inl (SqL.of eD),_,_,rfl,rfl,_,rfl,f,_,1,1,rfl,rfl,sD _ _ fC,rfl,?_⟩;rw[Ab,U0,k2];refine⟨⟨_,_,_,_,_,rfl⟩,J7 (oC.trans sD) hf,λx o ex nx=>by rw[Iy nx];exact sD _ _ (bC x o (bt5 x o ex nx) nx),?_⟩;rw[Ij,c1,c2];rfl
   · rintro σ H5 ⟨⟨y5,y6,y7,y8,y9,rfl⟩,s5,bt5,f5⟩;refine⟨⟨_,_,_,_,_,_,rfl⟩,s5,?_⟩;rw[f5,fin];rfl
 · rintro σ H1 ⟨⟨y4,y5,y6,y7,y8,y9,rfl⟩,s1,f1⟩;refine⟨_,rfl,f,_,0,_,rfl,rfl,SqL.of f1,rfl,_,rfl,f,_,1,_,rfl,rfl,SqL.of f1,rfl,Ja,λr hr=>?_⟩;exact q r _ (s1.trans (Iq hr _)) Ij
theorem zhb(F:Fun K "_law_with" "_law_with" QH f fd)  :FnOk P w K mg base IC 1 f fd ["stands","at","wishes"] (Tj):=by
 refine F.ok GR (λvs H Q E h=>?_) (λcdv A outer s H vs Q E hr h=>?_)
 · obtain⟨l,i,v,W,xs,x,ws,rfl,hx,ei,hv,nd,few,q⟩:=h;rfl
 obtain⟨l,i,v,W,xs,x,ws,rfl,hx,ei,hv,nd,few,q⟩:=h;refine⟨_,(Ik (Kf (IE IV (pv 0) (pv 1) (λ_ _=>rfl)) (JL rfl (ID (Iv (i:=3) GR.nd rfl (Or.inl rfl)) (ID (Iv (i:=4) GR.nd rfl (Or.inl rfl)) (ID (Iv (i:=5) GR.nd rfl (Or.inl rfl)) J3)))))
  (Im (Iz (Iw LV (Iw LV (KW Nt (pv 0) Lb (Lc (pv 1))) (Js (Ic (Jw (Ic (pv 3) (Ic (pv 4) (Ic (pv 2) Ie)))) Ie))) (KW Nt (pv 0) (Lc (Iw Jg (pv 1) Ih)) Lb))))),?_⟩
 have hl:=hx.len;have li:i<xs.length:=(Al.mp ei).1;have hA:=hx.at';have ox:=hx.ok x (Ak ei);refine⟨_,rfl,_,rfl,l,_,_,_,rfl,rfl,SqL.of hA,JN (by rw[Aj,ei];rfl),?_⟩;refine⟨x.a,_,rfl,SqT.of ox.at',rfl,_,_,rfl,_,_,rfl,_,_,rfl,rfl,?_⟩;refine⟨_,rfl,_,rfl,_,rfl,l,_,rfl,SqL.of hA,λr1 hr1=>?_⟩;rw[Q2 (n:=i) rfl];have s1:=Iq hr1 (.lst ((xs.map λx=>V.ref x.a).take i));have e1:(upd H r1 (.lst ((xs.map λx=>V.ref x.a).take i))) r1=some (.lst ((xs.map λx=>V.ref x.a).take i)):=Ij;generalize upd H r1 (.lst ((xs.map λx=>V.ref x.a).take i))=H1 at*;refine⟨_,rfl,_,rfl,_,rfl,MF,λtp htp=>?_⟩;have s2:=Iq htp (.tup [V.str x.hand,V.int x.post,V.ref v]);have e2:(upd H1 tp (.tup [V.str x.hand,V.int x.post,V.ref v])) tp=some (.tup [V.str x.hand,V.int x.post,V.ref v]):=Ij;generalize upd H1 tp (.tup [V.str x.hand,V.int x.post,V.ref v])=H2 at*;refine⟨LQ,λl1 hl1=>?_⟩;have s3:=Iq hl1 (.lst [V.ref tp]);have e3:(upd H2 l1 (.lst [V.ref tp])) l1=some (.lst [V.ref tp]):=Ij;generalize upd H2 l1 (.lst [V.ref tp])=H3 at*;refine⟨r1,l1,_,_,rfl,rfl,(s2.trans s3) _ _ e1,e3,Lr (by rw[AA,Ab];show _+1≤_;omega),λr2 hr2=>?_⟩;have s4:=Iq hr2 (.lst ((xs.map λx=>V.ref x.a).take i++[V.ref tp]));have e4:(upd H3 r2 (.lst ((xs.map λx=>V.ref x.a).take i++[V.ref tp]))) r2=some (.lst ((xs.map λx=>V.ref x.a).take i++[V.ref tp])):=Ij;generalize upd H3 r2 (.lst ((xs.map λx=>V.ref x.a).take i++[V.ref tp]))=H4 at*;have t4:=s1.trans (s2.trans (s3.trans s4));refine⟨_,rfl,_,rfl,_,_,rfl,rfl,_,rfl,l,_,rfl,SqL.of (t4 _ _ hA),λr3 hr3=>?_⟩;rw[Vq (n:=i+1) (by omega)];have s5:=Iq hr3 (.lst ((xs.map λx=>V.ref x.a).drop (i+1)));have e5:(upd H4 r3 (.lst ((xs.map λx=>V.ref x.a).drop (i+1)))) r3=some (.lst ((xs.map λx=>V.ref x.a).drop (i+1))):=Ij;generalize upd H4 r3 (.lst ((xs.map λx=>V.ref x.a).drop (i+1)))=H5 at*;refine⟨r2,r3,_,_,rfl,rfl,s5 _ _ e4,e5,Lr (by rw[Aw,AA,Dw,Ab];show _+1+_≤_;omega),λr hr=>?_⟩;have t5:=t4.trans s5;refine q r tp _ (t5.trans (Iq hr _)) (t5.free hr) (s1.free htp) ((s3.trans (s4.trans (s5.trans (Iq hr _)))) _ _ e2) ?_;rw[Ij,List.map_set,List.set_eq_take_append_cons_drop,if_pos (by rw[Ab];exact li)];simp
theorem X2(F:Fun K "law" "law" LR f fd)(HS:Γ31 P w K mg base)(HU:Γ47 P w K mg base)(HM:Γ34 P w K mg base)(HV:Γ36 P w K mg base)(HW:Γ45 P w K mg base)(HX:Γ51 P w K mg base)(Hw:Γ32 P w K mg base)(HE:Γ38 P w K mg base)(HY:Γ55 P w K mg base)(HZ:Γ54 P w K mg base)(H_:Γ53 P w K mg base)(HI:Γ44 P w K mg base)(Ia:Γ29 P w K mg base)(Ib:Γ30 P w K mg base):FnOk P w K mg base IC 12 f fd ["script"] (Oz K):=by
 refine F.ok GS (λvs H Q E h=>?_) (λcdv A outer s H vs Q E hr h=>?_)
 · obtain⟨a,ns,rfl,hS,h63,q⟩:=h;rfl
 obtain⟨a,ns,rfl,hS,h63,q⟩:=h;refine⟨_,(Ik (I0 (i:=1) GS.nd rfl (Or.inl rfl) (Ip HS (hr.mono (by decide)) rfl (Ic (pv 0) Ie)))
  (Ik (I0 (i:=2) GS.nd rfl (Or.inl rfl) (Iw OQ (Ip Hw (hr.mono (by decide)) rfl (Ic (pv 1) (Ic Ih Ie))) Ih))
  (Ik (I0 (i:=3) GS.nd rfl (Or.inl rfl) (Ip HU (hr.mono (by decide)) rfl (Ic (pv 1) (Ic (IE IV (Js (Ic Ih (Ic Ih Ie))) (pv 2) (λ_ _=>rfl)) Ie))))
  (Ik (I0 (i:=4) GS.nd rfl (Or.inl rfl) (Ip HM (hr.mono (by decide)) rfl (Ic (pv 1) (Ic (IE IV (Js (Ic Ih (Ic Ih (Ic Ih Ie)))) (Ip Hw (hr.mono (by decide)) rfl (Ic (pv 1) (Ic Ih Ie))) (λ_ _=>rfl)) Ie))))
  (Ik (I0 (i:=5) GS.nd rfl (Or.inl rfl) (Ip HV (hr.mono (by decide)) rfl (Ic (pv 1) Ie)))
  (Ik (I0 (i:=6) GS.nd rfl (Or.inl rfl) (Iw Jg Ih (Ip Hw (hr.mono (by decide)) rfl (Ic (pv 1) (Ic Ih Ie)))))
  (Ik (I0 (i:=7) GS.nd rfl (Or.inl rfl) (Ip HW (hr.mono (by decide)) rfl (Ic (pv 1) (Ic (pv 4) (Ic (pv 5) (Ic (pv 6) (Ic (Iw Jg Ih (Ip Hw (hr.mono (by decide)) rfl (Ic (pv 1) (Ic (IE IV (Js (Ic Ih (Ic Ih Ie))) (pv 2) (λ_ _=>rfl)) Ie)))) Ie)))))))
  (Ik (I0 (i:=8) GS.nd rfl (Or.inl rfl) (Ip HX (hr.mono (by decide)) rfl (Ic (pv 1) (Ic (pv 3) (Ic (pv 7) (Ic (IE IV (Js (Ic Ih (Ic Ih Ie))) (pv 2) (λ_ _=>rfl)) Ie))))))
  (Ik (JS AO rfl (Le rfl B.range_ (Ic (IE IV (Js (Ic (Iw Jg Ih (IB (Q0 rfl) rfl B.min_ P5 (Ic Ih (Ic (IB Jb rfl B.len_ IW (Ic (pv 0) Ie)) Ie)))) (Ic Ih Ie))) (pv 2) (λ_ _=>rfl)) Ie)) (Iv (i:=9) GS.nd rfl (Or.inl rfl)) (Ik (I0 (i:=10) GS.nd rfl (Or.inl rfl) (Ip Hw (hr.mono (by decide)) rfl (Ic (pv 1) (Ic (IB Jb rfl B.len_ IW (Ic (pv 8) Ie)) Ie))))
  (Ik (I0 (i:=11) GS.nd rfl (Or.inl rfl) (Ip HE (hr.mono (by decide)) rfl (Ic (pv 1) (Ic (pv 4) (Ic (pv 5) (Ic (pv 6) Ie))))))
  (Ik (I0 (i:=12) GS.nd rfl (Or.inr rfl) (IE IV (Js (Ic (IE IV (pv 7) (Ip Hw (hr.mono (by decide)) rfl (Ic (pv 1) (Ic (IB Jb rfl B.len_ IW (Ic (pv 7) Ie)) Ie))) (λ_ _=>rfl)) (Ic (pv 11) Ie))) (Iw OQ (Ip Hw (hr.mono (by decide)) rfl (Ic (pv 1) (Ic Ih Ie))) Ih) (λ_ _=>rfl)))
  (Ik (Kf (IE IV (pv 8) (pv 10) (λ_ _=>rfl)) (JL rfl (ID (Iv (i:=13) GS.nd rfl (Or.inl rfl)) (ID (Iv (i:=14) GS.nd rfl (Or.inl rfl)) (ID (Iv (i:=15) GS.nd rfl (Or.inl rfl)) J3)))))
  (Ik (IL (IG (SO (Kb hr)) (pv 12) (pv 15) (by with_unfolding_all rfl)) (Ik (I0 (i:=16) GS.nd rfl (Or.inl rfl) (Ip HY (hr.mono (by decide)) rfl (Ic (pv 8) (Ic (pv 10) (Ic (JZ (N':=["one","wish"]) (js:=[none,some 12]) rfl (Jq (N:=["script","well","large","web","names","grid","wide","pool","stands","k","at","more","wish","hand","post","wishes","without","full","due","handed"]) (outer:=Iu LR) (by decide+kernel)) (Jx (pv 15)) (λ_ _ _ _ _=>(Iv (i:=0) Mc rfl (Or.inl rfl))) (λ_ _ _ _ _=>Ks (IG (Qb K rfl (Kb hr)) (pv 0) (pv 1) (IK _))) (λ_ _ _ _ _=>(pv 0))) Ie)))))
  (Im (I0 (i:=17) GS.nd rfl (Or.inl rfl) (pv 8)))) (Ik (I0 (i:=16) GS.nd rfl (Or.inl rfl) (pv 8))
  (Im (I0 (i:=17) GS.nd rfl (Or.inl rfl) (Ip HY (hr.mono (by decide)) rfl (Ic (pv 8) (Ic (pv 10) (Ic (Iw LV (pv 15) (Js (Ic (pv 12) Ie))) Ie))))))))
  (Im (IL (IG MH (IB Jb rfl B.len_ IW (Ic (IE Kk (IE IV (pv 17) (pv 10) (λ_ _=>rfl)) Ih (λ_ _=>rfl)) Ie)) Ih (IK _)) (Ik (I0 (i:=18) GS.nd rfl (Or.inl rfl) (Ip HZ (hr.mono (by decide)) rfl (Ic (pv 3) (Ic (pv 16) (Ic (pv 17) Ie)))))
  (Ik (I0 (i:=19) GS.nd rfl (Or.inl rfl) (Jw (Ic (M3 NN rfl B.list_ K6 (Ic (pv 3) Ie)) (Ic (Ip H_ (hr.mono (by decide)) rfl (Ic (pv 16) Ie)) Ie))))
  (Ik (IL (J9 (Jz (Ip HI (hr.mono (by decide)) rfl (Ic (Ip Ia (hr.mono (by decide)) rfl (Ic (IE Kk (pv 19) Ih (λ_ _=>rfl)) (Ic (IE Kk (pv 19) Ih (λ_ _=>rfl)) (Ic (pv 13) (Ic (pv 12) Ie))))) (Ic (pv 18) Ie))))) (Im (Iz J0)) IN)
  (Ik (IL (J9 (Jz (Ip HI (hr.mono (by decide)) rfl (Ic (pv 19) (Ic (Jw (Ic (pv 3) (Ic (pv 16) Ie))) Ie))))) (Im (Iz J0)) IN)
  (Ik (I0 (i:=19) GS.nd rfl (Or.inl rfl) (Jw (Ic (M3 NN rfl B.list_ K6 (Ic (pv 3) Ie)) (Ic (Ip H_ (hr.mono (by decide)) rfl (Ic (pv 17) Ie)) Ie))))
  (Ik (IL (J9 (Jz (Ip HI (hr.mono (by decide)) rfl (Ic (Ip Ib (hr.mono (by decide)) rfl (Ic (IE Kk (pv 19) Ih (λ_ _=>rfl)) (Ic (IE Kk (pv 19) Ih (λ_ _=>rfl)) (Ic (pv 13) (Ic (pv 12) Ie))))) (Ic (Jw (Ic (IE Kk (pv 18) Ih (λ_ _=>rfl)) (Ic (IE Kk (pv 18) Ih (λ_ _=>rfl)) Ie))) Ie))))) (Im (Iz J0)) IN)
  (Im (IL (J9 (Jz (Ip HI (hr.mono (by decide)) rfl (Ic (pv 19) (Ic (Jw (Ic (pv 3) (Ic (pv 17) Ie))) Ie))))) (Im (Iz J0)) IN)))))))) IN))))))))
  (Im (Iz J0))))))))))),?_⟩
 refine Kq λZ hZ=>?_;refine⟨_,rfl,a,ns,rfl,hS,h63,λb g l H1 B1 S1 nb ng=>?_⟩;refine hZ _ _ ?_;refine IZ ?_;intro σ22;refine Kq λZ hZ=>?_;refine⟨_,rfl,b,g,l,_,8,rfl,B1,by decide,by decide,by decide,λc H2 c0 c1 B2 S2=>⟨_,_,rfl,rfl,⟨by decide,by decide⟩,?_⟩⟩;dsimp only;have lg01:c / 7=0∨c / 7=1:=by omega
 generalize c / 7=lg at lg01;have pair:∀x y:Int,∃z:Int,Jp [V.int x,V.int y] lg=some (.int z)∧(z=x∨z=y):=λx y=>by
  rcases lg01 with rfl | rfl
  · exact⟨x,rfl,.inl rfl⟩
  · exact⟨y,rfl,.inr rfl⟩
 refine hZ _ _ ?_;refine IZ ?_;intro σ23;refine Kq λZ hZ=>?_;refine⟨_,rfl,Ja,λu1 hu1=>?_⟩;have s3:=Iq hu1 (.lst [V.int 8,V.int 24]);have e3:(upd H2 u1 (.lst [V.int 8,V.int 24])) u1=some (.lst [V.int 8,V.int 24]):=Ij;have B3:=B2.same s3;generalize upd H2 u1 (.lst [V.int 8,V.int 24])=H3 at*;obtain⟨most,hmost,mo⟩:=pair 8 24;refine⟨_,rfl,u1,_,lg,_,rfl,rfl,SqL.of e3,hmost,b,g,l,_,most,rfl,B3,by decide,by omega,by omega,λwa W H4 nwa hW4 B4 S4=>?_⟩;obtain⟨wb,wg,_⟩:=B3.free nwa;refine hZ _ _ ?_;refine IZ ?_;intro σ24;refine Kq λZ hZ=>?_;refine⟨_,rfl,MF,λu2 hu2=>?_⟩;have s5:=Iq hu2 (.lst [V.int 3,V.int 3,V.int 6]);have e5:(upd H4 u2 (.lst [V.int 3,V.int 3,V.int 6])) u2=some (.lst [V.int 3,V.int 3,V.int 6]):=Ij;have B5:=B4.same s5;have hW5:WebAt (upd H4 u2 (.lst [V.int 3,V.int 3,V.int 6])) wa W:=⟨s5 _ _ hW4.1,hW4.2⟩;obtain⟨u2b,u2g,_⟩:=B4.free hu2;generalize upd H4 u2 (.lst [V.int 3,V.int 3,V.int 6])=H5 at*;refine⟨_,rfl,b,g,l,_,3,rfl,B5,by decide,by decide,by decide,λc2 H6 c20 c21 B6 S6=>?_⟩;obtain⟨mf,hmf,mf1,mf6⟩:∃z:Int,Jp [V.int 3,V.int 3,V.int 6] c2=some (.int z)∧1≤z∧z≤6:=by
  have:c2=0∨c2=1∨c2=2:=by omega
  rcases this with rfl | rfl | rfl
  · exact⟨3,rfl,by decide,by decide⟩
  · exact⟨3,rfl,by decide,by decide⟩
  · exact⟨6,rfl,by decide,by decide⟩
 have hW6:WebAt H6 wa W:=⟨S6 _ _ hW5.1 wb wg,hW5.2⟩;refine⟨u2,_,c2,_,rfl,rfl,SqL.of (S6 _ _ e5 u2b u2g),hmf,b,g,l,_,mf,rfl,B6,by decide,mf1,by omega,λna fs H7 n7 e7 asc7 ok7 l1 l6 B7 S7=>?_⟩;obtain⟨nab,nag,_⟩:=B6.free n7;have N7:NamesAt H7 b g na fs:=⟨e7,nab,nag,by omega,ok7,asc7⟩;have hW7:WebAt H7 wa W:=⟨S7 _ _ hW6.1 wb wg,hW6.2⟩;refine hZ _ _ ?_;refine IZ ?_;intro σ25;refine Kq λZ hZ=>?_;refine⟨_,rfl,b,g,l,_,rfl,B7,by decide,λt lo sz H8 et lo1 lo2 sz1 sz2 B8 S8=>?_⟩;have N8:=N7.sameB S8;have hW8:WebAt H8 wa W:=⟨S8 _ _ hW7.1 wb wg,hW7.2⟩;refine hZ _ _ ?_;refine IZ ?_;intro σ26;refine Kq λZ hZ=>?_;refine⟨_,rfl,b,g,l,_,4,rfl,B8,by decide,by decide,by decide,λc3 H9 c30 c31 B9 S9=>⟨_,_,rfl,rfl,?_⟩⟩;have N9:=N8.sameB S9;have hW9:WebAt H9 wa W:=⟨S9 _ _ hW8.1 wb wg,hW8.2⟩;have t9:=B8.tup S9 et;dsimp only;obtain⟨wide,ew,wd1,wd2⟩:∃wide:Int,1+c3=wide∧1≤wide∧wide≤4:=⟨_,rfl,by omega,by omega⟩;rw[ew];refine hZ _ _ ?_;refine IZ ?_;intro σ27;refine Kq λZ hZ=>?_;refine⟨_,rfl,_,rfl,_,rfl,_,rfl,_,rfl,Ja,λu3 hu3=>?_⟩;have s10:=Iq hu3 (.lst [V.int 8,V.int 20]);have e10:(upd H9 u3 (.lst [V.int 8,V.int 20])) u3=some (.lst [V.int 8,V.int 20]):=Ij;have B10:=B9.same s10;have N10:=N9.sameB s10.sameB;have hW10:WebAt (upd H9 u3 (.lst [V.int 8,V.int 20])) wa W:=⟨s10 _ _ hW9.1,hW9.2⟩;have t10:=s10 _ _ t9;generalize upd H9 u3 (.lst [V.int 8,V.int 20])=H10 at*;obtain⟨mp,hmp,mpo⟩:=pair 8 20;refine⟨_,rfl,u3,_,lg,_,rfl,rfl,SqL.of e10,hmp,b,g,l,_,mp,rfl,B10,by decide,by omega,Ki (by omega),λc4 H11 c40 c41 B11 S11=>⟨_,_,rfl,rfl,?_⟩⟩;have N11:=N10.sameB S11;have hW11:WebAt H11 wa W:=⟨S11 _ _ hW10.1 wb wg,hW10.2⟩;have t11:=B10.tup S11 t10;refine⟨b,g,l,na,t,_,lo,sz,wide,2+c4,fs,rfl,B11,by decide,N11,t11,sz1,sz2,wd1,by omega,by omega,by omega,λpa ws H12 n12 W12 lw lw1 ndw B12 S12=>?_⟩;obtain⟨pab,pag,_⟩:=B11.free n12;have N12:=N11.sameB S12;have hW12:WebAt H12 wa W:=⟨S12 _ _ hW11.1 wb wg,hW11.2⟩;have t12:=B11.tup S12 t11;refine hZ _ _ ?_;refine IZ ?_;intro σ28;refine Kq λZ hZ=>?_;refine⟨_,rfl,_,rfl,_,rfl,Ja,λu4 hu4=>?_⟩;have s13:=Iq hu4 (.lst [V.int 8,V.int 30]);have e13:(upd H12 u4 (.lst [V.int 8,V.int 30])) u4=some (.lst [V.int 8,V.int 30]):=Ij;have B13:=B12.same s13;have N13:=N12.sameB s13.sameB;have hW13:WebAt (upd H12 u4 (.lst [V.int 8,V.int 30])) wa W:=⟨s13 _ _ hW12.1,hW12.2⟩;have t13:=s13 _ _ t12;have W13:=W12.same s13;generalize upd H12 u4 (.lst [V.int 8,V.int 30])=H13 at*;obtain⟨ms,hms,mso⟩:=pair 8 30;refine⟨_,rfl,u4,_,lg,_,rfl,rfl,SqL.of e13,hms,b,g,l,wa,pa,_,ms,W,ws,rfl,B13,by omega,hW13,wb,wg,W13,pab,pag,ndw,by omega,by omega,by omega,λsa xs H14 n14 X14 sub14 ne14 fr14 B14 S14=>?_⟩;obtain⟨sab,sag,_⟩:=B13.free n14;have N14:=N13.sameB S14;have hW14:WebAt H14 wa W:=⟨S14 _ _ hW13.1 wb wg,hW13.2⟩;have t14:=B13.tup S14 t13;have lfree:∀x∈xs,x.l≠b∧x.l≠g:=λx hx=>⟨(B13.free (fr14 x hx)).1,(B13.free (fr14 x hx)).2.1⟩;have W14:=W13.sameW B13 pab pag S14;have S1e:SameB b g H1 H14:=S2.trans (s3.sameB.trans (S4.trans (s5.sameB.trans (S6.trans (S7.trans (S8.trans (S9.trans (s10.sameB.trans (S11.trans (S12.trans (s13.sameB.trans S14)))))))))));refine hZ _ _ ?_;refine IZ ?_;intro σ29;refine⟨_,rfl,a,_,rfl,.inl (YJ hS nb ng S1 S1e),_,_,rfl,_,_,rfl,rfl,Ja,λu6 hu6=>?_⟩;obtain⟨zz,hzz,zzo⟩:=pair (3+(if((ns.map V.int).length:Int)<8 then((ns.map V.int).length:Int) else 8)) 1
 have zb:0≤zz∧zz≤11:=by
  rcases zzo with e | e
  · rw[e]
    split<;>omega
  · omega
 have s16:=Iq hu6 (.lst [V.int (3+(if((ns.map V.int).length:Int)<8 then((ns.map V.int).length:Int) else 8)),V.int 1])
 have e16:(upd H14 u6 (.lst [V.int (3+(if((ns.map V.int).length:Int)<8 then((ns.map V.int).length:Int) else 8)),V.int 1])) u6=some (.lst [V.int (3+(if((ns.map V.int).length:Int)<8 then((ns.map V.int).length:Int) else 8)),V.int 1]):=Ij
 have B16:=B14.same s16;have X16:=X14.same s16;have W16:=W14.same s16;have N16:=N14.sameB s16.sameB;have t16:=s16 _ _ t14;have hW16:=hW14.same s16;generalize upd H14 u6 (.lst [V.int (3+(if((ns.map V.int).length:Int)<8 then((ns.map V.int).length:Int) else 8)),V.int 1])=H16 at*
 let Pv23:Nat→L2.St→Hp→Prop:=λi σ H'=>(∃y9 y10 y11 y12 y13 y14 y15 y16 y17 y18 y19,σ=[some (.ref a),some (.ref b),some (.int lg),some (.ref wa),some (.ref na),some (.ref t),some (.int wide),some (.ref pa),some (.ref sa),y9,y10,y11,y12,y13,y14,y15,y16,y17,y18,y19])∧SameB b g H16 H'∧Well H' b g l (20000+100*(i:Int))
 refine⟨_,rfl,u6,_,lg,_,rfl,rfl,SqL.of e16,hzz,zz,rfl,by omega,by omega,N5 (lo:=0) (n:=zz.toNat) Pv23 ?_ ?_ ?_⟩
 · exact⟨⟨none,none,none,none,none,none,none,none,none,none,none,rfl⟩,λ_ _ h _ _=>h,B16.mono (by omega)⟩
 · rintro i σ H20 hi ⟨⟨y9,y10,y11,y12,y13,y14,y15,y16,y17,y18,y19,rfl⟩,S20,B20⟩;have X20:=X16.sameW B16 sab sag lfree S20;have lx:=X20.len;refine IZ ?_;intro σ30;refine Kq λZ hZ=>?_;refine⟨_,rfl,_,rfl,sa,_,rfl,.inl (SqL.of X20.at'),b,g,l,_,_,rfl,B20,by omega,(by rw[Ab];omega),Ki (by rw[Ab];omega),λc H21 c0 c1 B21 S21=>?_⟩;rw[Ab] at c1;obtain⟨i1,rfl⟩:=Cj c0;obtain⟨x,ex⟩:∃x,xs[i1]?=some x:=⟨xs[i1]'(by omega),Au (by omega)⟩;have mx:=Ak ex;have S21':=S20.trans S21;refine hZ _ _ ?_;refine IZ ?_;intro σ31;refine Kq λZ hZ=>?_;refine⟨_,rfl,_,rfl,_,rfl,_,rfl,b,g,l,na,t,_,lo,sz,wide,fs,rfl,B21,by omega,N16.sameB S21',B16.tup S21' t16,sz1,sz2,wd1,by omega,λmo mw H22 M22 mok _ _ B22 S22=>?_⟩;have S22':=S21'.trans S22;have W22:=W16.sameW B16 pab pag S22';refine hZ _ _ ?_;refine IZ ?_;intro σ32;refine Kq λZ hZ=>?_;refine⟨_,rfl,_,rfl,_,rfl,pa,_,rfl,.inl (SqL.of W22.at'),b,g,l,_,_,rfl,B22,by omega,(by rw[Ab];omega),Ki (by rw[Ab];omega),λc2 H23 c20 c21 B23 S23=>?_⟩;rw[Ab] at c21;obtain⟨i2,rfl⟩:=Cj c20;obtain⟨y,ey⟩:∃y,ws[i2]?=some y:=⟨ws[i2]'(by omega),Au (by omega)⟩;have W23:=W22.sameW B22 pab pag S23;have M23:=M22.sameW B22 S23;refine⟨pa,_,_,_,rfl,rfl,SqL.of W23.at',JN (by rw[Aj,ey];rfl),_,rfl,Ja,λu7 hu7=>?_⟩;have s24:=Iq hu7 (.lst [V.ref y.1,V.ref mo]);have e24:(upd H23 u7 (.lst [V.ref y.1,V.ref mo])) u7=some (.lst [V.ref y.1,V.ref mo]):=Ij;have B24:=B23.same s24;obtain⟨ub,ug,_⟩:=B23.free hu7;have M24:=M23.same s24;have Y24:=((W23.ok y (Ak ey)).1).same s24;have yok:=(W23.ok y (Ak ey)).2;have S24':=S22'.trans (S23.trans s24.sameB);generalize upd H23 u7 (.lst [V.ref y.1,V.ref mo])=H24 at*;refine⟨_,rfl,b,g,l,_,3,rfl,B24,by omega,by decide,by decide,λc3 H25 c30 c31 B25 S25=>⟨_,_,rfl,rfl,⟨by decide,by decide⟩,?_⟩⟩;have S25':=S24'.trans S25;obtain⟨wv,w',hat,V25,wok,win⟩:∃(wv:Addr)(w':List WP),Jp [V.ref y.1,V.ref mo] (c3 / 2)=some (.ref wv)∧WishAt H25 wv w'∧WOk w'∧w'∈mw::ws.map (·.2):=by
    have:c3 / 2=0∨c3 / 2=1:=by omega
    rcases this with e | e<;>rw[e]
    · exact⟨y.1,y.2,rfl,Y24.sameW B24 S25,yok,Ag _ (AF (Ak ey))⟩
    · exact⟨mo,mw,rfl,M24.sameW B24 S25,mok,Ai⟩
   refine⟨u7,_,_,_,rfl,rfl,SqL.of (S25 _ _ e24 ub ug),hat,?_⟩;have X25:=X16.sameW B16 sab sag lfree S25';have hW25:WebAt H25 wa W:=⟨S25' _ _ hW16.1 wb wg,hW16.2⟩;have x25:=X25.ok x mx;refine hZ _ _ ?_;refine IZ ?_;intro σ33;refine Kq λZ hZ=>?_;refine⟨_,rfl,_,rfl,sa,_,_,_,rfl,rfl,SqL.of X25.at',JN (by rw[Aj,ex];rfl),?_⟩;refine hZ _ _ ?_;refine⟨x.a,_,rfl,SqT.of x25.at',rfl,_,_,rfl,_,_,rfl,_,_,rfl,rfl,?_⟩;have few0:FewS xs:=⟨mw::ws.map (·.2),by rw[AB,Ab];omega,λz hz q hq=>Ag _ (AF (sub14 z hz q hq))⟩;have few1:∀z:Stand,(∀q∈z.ws,q.2∈mw::ws.map (·.2))→FewS (xs.set i1 z):=λz hz=>⟨mw::ws.map (·.2),by rw[AB,Ab];omega,λz' hz' q hq=>by
    rcases List.mem_or_eq_of_mem_set hz' with h | h
    · exact Ag _ (AF (sub14 z' h q hq))
    · rw[h] at hq;exact hz q hq⟩
   have sx:∀q∈x.ws,q.2∈mw::ws.map (·.2):=λq hq=>Ag _ (AF (sub14 x mx q hq));dsimp only;refine Lw (λσ' H'=>∃(wo fu:Addr)(xo xf:List Stand)(zf:Stand),σ'=[some (.ref a),some (.ref b),some (.int lg),some (.ref wa),some (.ref na),some (.ref t),some (.int wide),some (.ref pa),some (.ref sa),some (.int (0+(i:Int))),some (.int (i1:Int)),some (.ref mo),some (.ref wv),some (.str x.hand),some (.int x.post),some (.ref x.l),some (.ref wo),some (.ref fu),y18,y19]∧Same H25 H'∧StsAt H' W wo xo∧H' fu=some (.lst (xf.map λx=>V.ref x.a))∧xf[i1]?=some zf∧H' zf.a=some (.tup [.str x.hand,.int x.post,.ref zf.l])∧H' zf.l=some (.lst (zf.ws.map λx=>V.ref x.1))∧(zf.ws.length≤10→StsAt H' W fu xf)∧Pair W xo xf x.hand x.post w' zf.ws.length) (λZ hZ=>?_) ?_
   · refine⟨_,rfl,_,rfl,Sj V25 x25.ws ⟨_,rfl,?_⟩⟩;cases c:((x.ws.map (·.2)).any λk=>decide (k=w')) with
     | true=>
      have iw:=any_mem.mp c;refine Ii ?_;refine⟨_,rfl,_,rfl,_,rfl,x.l,rfl,⟨_,SqL.of x25.ws.at'⟩,λnl hnl=>?_⟩;refine SK hnl rfl x25.ws V25 λH26 s26 e26=>?_;have x26:=x25.same s26;have ll:(x.ws.filter λq=>decide (q.2≠w')).length<x.ws.length:=by obtain⟨q,hq,eq⟩:=Az.mp iw;exact D5.mpr ⟨q,hq,by simp[eq]⟩
      have N26:WsAt H26 nl (x.ws.filter λq=>decide (q.2≠w')):=⟨e26,λq hq=>x26.ws.ok q (Av.mp hq).1,A4 (AC _ _) x26.ws.len⟩;have nd26:((x.ws.filter λq=>decide (q.2≠w')).map (·.2)).Nodup:=x26.nd.sublist ((D7 (l:=x.ws)).map _);have fw:=x26.few;refine⟨sa,i1,nl,W,xs,x,_,rfl,X25.same s26,ex,N26,nd26,by omega,λr tp H27 s27 nr ntp etp er=>?_⟩;have s257:=s26.trans s27;have X27:=X25.same s257;refine IZ ?_;intro σ34;have st:StAt H27 W ⟨tp,x.hand,x.post,nl,x.ws.filter λq=>decide (q.2≠w')⟩:=⟨etp,N26.same s27,nd26,by show(x.ws.filter λq=>decide (q.2≠w')).length≤10;omega,x26.name,x26.post⟩;refine⟨_,rfl,hZ _ _ ⟨r,sa,xs.set i1 ⟨tp,x.hand,x.post,nl,x.ws.filter λq=>decide (q.2≠w')⟩,xs,x,rfl,s257,X27.set ex rfl st er,X27.at',ex,(X27.ok x mx).at',(X27.ok x mx).ws.at',λ_=>X27,Zj X27.nd ex,⟨x,mx,rfl,rfl,iw⟩,⟨_,(L7 X27.nd ex _).mpr (.inl rfl),rfl,rfl,λz=>?_,ll⟩,few1 _ λq hq=>sx q (Av.mp hq).1,few0⟩⟩;obtain⟨q,hq,eq⟩:=Az.mp z;exact of_decide_eq_true (Av.mp hq).2 eq
     | false=>
      have iw:w' ∉ x.ws.map (·.2):=λz=>by rw[any_mem.mpr z] at c;cases c
      have fw:=x25.few;refine Ig ?_;refine⟨_,rfl,?_⟩;refine IZ ?_;intro σ35;refine⟨_,rfl,_,rfl,_,rfl,_,rfl,LQ,λu8 hu8=>?_⟩;have s26:=Iq hu8 (.lst [V.ref wv]);have e26:(upd H25 u8 (.lst [V.ref wv])) u8=some (.lst [V.ref wv]):=Ij;generalize upd H25 u8 (.lst [V.ref wv])=H26 at*;refine⟨x.l,u8,_,_,rfl,rfl,s26 _ _ x25.ws.at',e26,Lr (by rw[Ab];show _+1≤_;omega),λnl hnl=>?_⟩;have s27:=Iq hnl (.lst ((x.ws.map λx=>V.ref x.1)++[V.ref wv]));have e27:(upd H26 nl (.lst ((x.ws.map λx=>V.ref x.1)++[V.ref wv]))) nl=some (.lst ((x.ws++[(wv,w')]).map λx=>V.ref x.1)):=by rw[Ij,Ao];rfl
      generalize upd H26 nl (.lst ((x.ws.map λx=>V.ref x.1)++[V.ref wv]))=H27 at*;have s257:=s26.trans s27;have x27:=x25.same s257;have N27:WsAt H27 nl (x.ws++[(wv,w')]):=⟨e27,λq hq=>by
       rcases A9.mp hq with z | z
       · exact x27.ws.ok q z
       · rw[Am.mp z];exact⟨V25.same s257,wok⟩,by rw[Aw];show _+1≤800;omega⟩
      have nd27:((x.ws++[(wv,w')]).map (·.2)).Nodup:=by rw[Ao,BJ];refine⟨x27.nd,by simp,λp hp q hq e=>?_⟩;rw[Am.mp hq] at e;rw[show p=w' from e] at hp;exact iw hp
      refine⟨sa,i1,nl,W,xs,x,_,rfl,X25.same s257,ex,N27,nd27,by rw[Aw];show _+1≤11;omega,λr tp H28 s28 nr ntp etp er=>?_⟩;have s258:=s257.trans s28;have X28:=X25.same s258;have li:i1<xs.length:=(Al.mp ex).1;refine hZ _ _ ⟨sa,r,xs,_,⟨tp,x.hand,x.post,nl,x.ws++[(wv,w')]⟩,rfl,s258,X28,er,by rw[Dm,if_pos rfl,if_pos li],etp,(N27.same s28).at',λh10=>X28.set ex rfl ⟨etp,N27.same s28,nd27,h10,x27.name,x27.post⟩ er,Zi X28.nd ex iw,⟨_,(L7 X28.nd ex _).mpr (.inl rfl),rfl,rfl,by rw[Ao];exact Ah _ (Am.mpr rfl)⟩,⟨x,mx,rfl,rfl,iw,by rw[Aw];exact CG _⟩,few0,few1 _ λq hq=>?_⟩;rcases A9.mp hq with z | z
      · exact sx q z
      · rw[Am.mp z];exact win
   rintro σ' H30 ⟨wo,fu,xo,xf,zf,rfl,s30,XO,ef,ez,eza,ezl,XF',PR⟩;have S30:=S25'.trans s30.sameB;have B30:=B25.same s30;have hW30:=hW25.same s30;refine⟨_,rfl,_,rfl,fu,_,_,_,rfl,rfl,SqL.of ef,JN (by rw[Aj,ez];rfl),zf.a,_,2,_,rfl,rfl,SqT.of eza,rfl,zf.l,_,rfl,.inl (SqL.of ezl),_,_,rfl,rfl,_,rfl,IR (λh=>?_) (λh=>⟨⟨_,_,_,_,_,_,_,_,_,_,_,rfl⟩,S30,B30.mono (by omega)⟩)⟩;have z10:zf.ws.length≤10:=by have:=of_decide_eq_true h;rw[Ab] at this;omega
   have XF:=XF' z10;obtain⟨le,⟨z,mz,zh,zp,zw⟩,⟨y',my,yh,yp,yw,yl⟩,fo,ff⟩:=PR;have okf:∀z∈xf,∀y∈z.ws,WOk y.2:=λz hz y hy=>((XF.ok z hz).ws.ok y hy).2;rw[←zh] at le;obtain⟨cS,cU⟩:=Xu hW30.2 XF.nd okf mz (XF.ok z mz).post zw le;rw[zp] at cS cU;refine Kq λZ hZ=>?_;refine⟨_,rfl,_,rfl,_,rfl,wa,wo,fu,W,xo,xf,rfl,hW30,XO,XF,fo,ff,λdu H31 s31 e31=>?_⟩;rw[cS,cU] at e31;have V31:=V25.same (s30.trans s31);have hW31:=hW30.same s31;have XO31:=XO.same s31;have XF31:=XF.same s31;refine hZ _ _ ?_;refine IZ ?_;intro σ36;refine Kq λZ hZ=>?_;refine⟨_,rfl,wa,_,rfl,.inl (SqL.of hW31.1),λlw' hlw=>?_⟩;have s32:=Iq hlw (.lst (W.map V.int));have e32:(upd H31 lw' (.lst (W.map V.int))) lw'=some (.lst (W.map V.int)):=Ij;generalize upd H31 lw' (.lst (W.map V.int))=H32 at*;refine⟨_,rfl,wo,W,xo,rfl,XO31.same s32,λka ks H33 nka s33 K33 ek=>?_⟩;refine⟨Ja,λtp htp=>?_⟩;have s34:=Iq htp (.tup [V.ref lw',V.ref ka]);have e34:(upd H33 tp (.tup [V.ref lw',V.ref ka])) tp=some (.tup [V.ref lw',V.ref ka]):=Ij;generalize upd H33 tp (.tup [V.ref lw',V.ref ka])=H34 at*;have s314:=s32.trans (s33.trans s34);have L34:WebAt H34 lw' W:=⟨(s33.trans s34) _ _ e32,hW31.2⟩;have K34:=K33.same s34;obtain⟨y2,m2,h2,p2,w2⟩:=OO ek my;rw[yh] at h2;rw[yp] at p2;refine hZ _ _ ?_;refine IZ ?_;intro σ37;refine Qe λZ hZ=>?_;refine⟨_,rfl,tp,_,0,_,rfl,rfl,SqT.of e34,rfl,_,rfl,tp,_,1,_,rfl,rfl,SqT.of e34,rfl,_,rfl,_,rfl,lw',ka,wv,W,ks,y2,w',by rw[h2];rfl,L34,K34,m2,V31.same s314,wok,by rw[w2];exact yw,by rw[w2];omega,λr1 H35 s35 e35=>?_⟩;have eV:∀f v,v∈KI f ks↔v∈KI f xo:=λf v=>by unfold KI;rw[Ql ek λ_ _=>rfl]
   obtain⟨q1,q2⟩:=Tr (W:=W) (c:=x.post) (w:=w') eV (J8 W);rw[p2,q1,q2] at e35;have s315:=s314.trans s35;refine⟨_,rfl,3,by decide,_,_,_,rfl,by decide,OD e35,OD (s315 _ _ e31),⟨Ut _ _,Sn _ _⟩,λH36 s36=>⟨_,rfl,Ig ?_⟩⟩;refine hZ _ _ ?_;refine Qe λZ hZ=>?_;refine⟨_,rfl,_,rfl,_,rfl,Ja,λtq htq=>?_⟩;have s37:=Iq htq (.tup [V.ref wa,V.ref wo]);have e37:(upd H36 tq (.tup [V.ref wa,V.ref wo])) tq=some (.tup [V.ref wa,V.ref wo]):=Ij;generalize upd H36 tq (.tup [V.ref wa,V.ref wo])=H37 at*;have s347:=s35.trans (s36.trans s37);have s317:=s314.trans s347;refine⟨6,by decide,_,_,Kw W (ks.map IX),rfl,by decide,OF (s347 _ _ e34) (L34.same s347) (K34.same s347),by rw[ek];exact OF e37 (hW31.same s317) (XO31.same s317),⟨Uv _ _,So _ _⟩,λH38 s38=>⟨_,rfl,Ig ?_⟩⟩;refine hZ _ _ ?_;refine Kq λZ hZ=>?_;have s318:=s317.trans s38;have hW38:=hW31.same s318;have XF38:=XF31.same s318;have d38:=s318 _ _ e31;have V38:=V31.same s318;clear s347 s317 s315 s314 e34 e35 e37 e32 L34 K34 K33 q1 q2 eV;refine⟨_,rfl,wa,_,rfl,.inl (SqL.of hW38.1),λlw2 hlw2=>?_⟩;have s39:=Iq hlw2 (.lst (W.map V.int));have e39:(upd H38 lw2 (.lst (W.map V.int))) lw2=some (.lst (W.map V.int)):=Ij;generalize upd H38 lw2 (.lst (W.map V.int))=H39 at*;refine⟨_,rfl,fu,W,xf,rfl,XF38.same s39,λkb kt H40 nkb s40 K40 et=>?_⟩;refine⟨Ja,λtp2 htp2=>?_⟩;have s41:=Iq htp2 (.tup [V.ref lw2,V.ref kb]);have e41:(upd H40 tp2 (.tup [V.ref lw2,V.ref kb])) tp2=some (.tup [V.ref lw2,V.ref kb]):=Ij;generalize upd H40 tp2 (.tup [V.ref lw2,V.ref kb])=H41 at*;have s381:=s39.trans (s40.trans s41);have L41:WebAt H41 lw2 W:=⟨(s40.trans s41) _ _ e39,hW38.2⟩;have K41:=K40.same s41;obtain⟨z2,n2,h3,p3,w3⟩:=OO et mz;refine hZ _ _ ?_;refine IZ ?_;intro σ38;refine Qe λZ hZ=>?_;refine⟨_,rfl,tp2,_,0,_,rfl,rfl,SqT.of e41,rfl,_,rfl,tp2,_,1,_,rfl,rfl,SqT.of e41,rfl,_,rfl,_,rfl,lw2,kb,wv,W,kt,z2,w',by rw[h3,zh];rfl,L41,K41,n2,V38.same s381,wok,by rw[w3];exact zw,λr2 ys H42 s42 le2 e42=>?_⟩;have le3:=Zu et le;rw[h3] at le2;obtain⟨q1,q2⟩:=Tr (W:=W) (c:=x.post) (w:=w') (λf v=>(le2 f v).trans (le3 f v).symm) (J8 W);rw[p3,zp,q1,q2] at e42;have d42:=(s381.trans s42) _ _ d38;refine⟨_,rfl,du,_,1,_,rfl,rfl,SqT.of d42,rfl,_,rfl,du,_,0,_,rfl,rfl,SqT.of d42,rfl,Ja,λt3 ht3=>?_⟩;have s43:=Iq ht3 (.tup [V.int (Jn W xo x.post w' (J8 W):Nat),V.int (Jo W xo x.post w' (J8 W):Nat)]);have e43:(upd H42 t3 (.tup [V.int (Jn W xo x.post w' (J8 W):Nat),V.int (Jo W xo x.post w' (J8 W):Nat)])) t3=some (.tup [V.int (Jn W xo x.post w' (J8 W):Nat),V.int (Jo W xo x.post w' (J8 W):Nat)]):=Ij;generalize upd H42 t3 (.tup [V.int (Jn W xo x.post w' (J8 W):Nat),V.int (Jo W xo x.post w' (J8 W):Nat)])=H43 at*;refine⟨3,by decide,_,_,_,rfl,by decide,OD (s43 _ _ e42),OD e43,⟨Ut _ _,Sn _ _⟩,λH44 s44=>⟨_,rfl,Ig ?_⟩⟩;refine hZ _ _ ?_;refine⟨_,rfl,_,rfl,_,rfl,Ja,λtr htr=>?_⟩;have s45:=Iq htr (.tup [V.ref wa,V.ref fu]);have e45:(upd H44 tr (.tup [V.ref wa,V.ref fu])) tr=some (.tup [V.ref wa,V.ref fu]):=Ij;generalize upd H44 tr (.tup [V.ref wa,V.ref fu])=H45 at*;have s415:=s42.trans (s43.trans (s44.trans s45));have s385:=s381.trans s415;refine⟨6,by decide,_,_,Kw W (kt.map IX),rfl,by decide,OF (s415 _ _ e41) (L41.same s415) (K41.same s415),by rw[et];exact OF e45 (hW38.same s385) (XF38.same s385),⟨Uv _ _,So _ _⟩,λH46 s46=>⟨_,rfl,Ig ?_⟩⟩;have sE:=s31.trans (s318.trans (s385.trans s46));exact⟨⟨_,_,_,_,_,_,_,_,_,_,_,rfl⟩,S30.trans sE.sameB,(B30.same sE).mono (by omega)⟩
 · rintro σ H20 ⟨⟨y9,y10,y11,y12,y13,y14,y15,y16,y17,y18,y19,rfl⟩,S20,B20⟩;exact q H20
end
open PySem.W (nsIn mg_of mg_none_of fnOf keepIn codeIn)
abbrev dF(n:Str)(s:Stmt):=fnOf n n (La s) (KJ s) (Iu s) .none
theorem JQ{K:Ad}{st:Stmt}{f:Addr}{fd:Bw}{p0:Str}(F:Fun K x x st f fd)(h:∀(kV doc pm:Value)(an:Option Addr)(cdv ct u0:Value),bindArgs (fnOf x x (La st) (KJ st) (Iu st) .none kV doc pm an cdv ct) ⟨[u0],[]⟩=pure [(p0,u0)]:=by intros;rfl):Binds K fd [p0] []:=
 F.binds λkV doc pm an cdv ct=>lS λu0=>l0 (h kV doc pm an cdv ct u0)
theorem JG{K:Ad}{st:Stmt}{f:Addr}{fd:Bw}{p0 p1:Str}(F:Fun K x x st f fd)(h:∀(kV doc pm:Value)(an:Option Addr)(cdv ct u0 u1:Value),bindArgs (fnOf x x (La st) (KJ st) (Iu st) .none kV doc pm an cdv ct) ⟨[u0,u1],[]⟩=pure [(p0,u0),(p1,u1)]:=by intros;rfl):Binds K fd [p0,p1] []:=
 F.binds λkV doc pm an cdv ct=>lS λu0=>lS λu1=>l0 (h kV doc pm an cdv ct u0 u1)
theorem Ng{K:Ad}{st:Stmt}{f:Addr}{fd:Bw}{p0 p1 p2:Str}(F:Fun K x x st f fd)(h:∀(kV doc pm:Value)(an:Option Addr)(cdv ct u0 u1 u2:Value),bindArgs (fnOf x x (La st) (KJ st) (Iu st) .none kV doc pm an cdv ct) ⟨[u0,u1,u2],[]⟩=pure [(p0,u0),(p1,u1),(p2,u2)]:=by intros;rfl):Binds K fd [p0,p1,p2] []:=
 F.binds λkV doc pm an cdv ct=>lS λu0=>lS λu1=>lS λu2=>l0 (h kV doc pm an cdv ct u0 u1 u2)
theorem Nf{K:Ad}{st:Stmt}{f:Addr}{fd:Bw}{p0 p1 p2 p3:Str}(F:Fun K x x st f fd)(h:∀(kV doc pm:Value)(an:Option Addr)(cdv ct u0 u1 u2 u3:Value),bindArgs (fnOf x x (La st) (KJ st) (Iu st) .none kV doc pm an cdv ct) ⟨[u0,u1,u2,u3],[]⟩=pure [(p0,u0),(p1,u1),(p2,u2),(p3,u3)]:=by intros;rfl):Binds K fd [p0,p1,p2,p3] []:=
 F.binds λkV doc pm an cdv ct=>lS λu0=>lS λu1=>lS λu2=>lS λu3=>l0 (h kV doc pm an cdv ct u0 u1 u2 u3)
theorem Wm{K:Ad}{st:Stmt}{f:Addr}{fd:Bw}{p0 p1 p2 p3 p4:Str}(F:Fun K x x st f fd)(h:∀(kV doc pm:Value)(an:Option Addr)(cdv ct u0 u1 u2 u3 u4:Value),bindArgs (fnOf x x (La st) (KJ st) (Iu st) .none kV doc pm an cdv ct) ⟨[u0,u1,u2,u3,u4],[]⟩=pure [(p0,u0),(p1,u1),(p2,u2),(p3,u3),(p4,u4)]:=by intros;rfl):Binds K fd [p0,p1,p2,p3,p4] []:=
 F.binds λkV doc pm an cdv ct=>lS λu0=>lS λu1=>lS λu2=>lS λu3=>lS λu4=>l0 (h kV doc pm an cdv ct u0 u1 u2 u3 u4)
structure KF(K:Ad)(x:Str)(st:Stmt)(f:Addr)(fd:Bw):Prop where
 a:nsIn K AE x=some (some (.ref f))
 F:Fun K x x st f fd
theorem all_mk{l:Fx}{w:World}{K:Ad}{mg:Str→Option Value}{fa f1 f2 f3 f4 f5 f6 f7 f8 f9 f10 f11 f12 f13 f14 f15 f16 f17 f18 f19 f20 f21 f22 f23 f24 f25 f26 f27 f28 f29 f30 f31 f32 f33 f34 f35 f36 f37 f38 f39 f40 f41 f42 f43 f44 f45 f46 f47 f48 f49 f50 f51 f52 f53 f54 f55 f56 f57:Addr}{g1 g2 g3 g4 g5 g6 g7 g8 g9 g10 g11 g12 g13 g14 g15 g16 g17 g18 g19 g20 g21 g22 g23 g24 g25 g26 g27 g28 g29 g30 g31 g32 g33 g34 g35 g36 g37 g38 g39 g40 g41 g42 g43 g44 g45 g46 g47 g48 g49 g50 g51 g52 g53 g54 g55 g56 g57:Bw}(X:K.In h)(G:h.Ns AE mg)(hfa:mg "law"=some (.ref fa))
 (h1:KF K "is_whole" Q8 f1 g1)
 (h2:KF K "is_end" Qi f2 g2)
 (h3:KF K "is_span" Qx f3 g3)
 (h4:KF K "span_reaches" Rf f4 g4)
 (h5:KF K "is_field" OX f5 g5)
 (h6:KF K "is_wish_part" Re f6 g6)
 (h7:KF K "fields_ascend" Pb f7 g7)
 (h8:KF K "is_wish" O_ f8 g8)
 (h9:KF K "check_wish" QP f9 g9)
 (h10:KF K "are_wishes" Pd f10 g10)
 (h11:KF K "are_unlike_wishes" Q_ f11 g11)
 (h12:KF K "spans_by_field" Pc f12 g12)
 (h13:KF K "reaches_spans" Rb f13 g13)
 (h14:KF K "wish_reaches" Rg f14 g14)
 (h15:KF K "is_name" Qv f15 g15)
 (h16:KF K "is_under" Q7 f16 g16)
 (h17:KF K "is_web" OR f17 g17)
 (h18:KF K "check_web" QY f18 g18)
 (h19:KF K "is_post" Qw f19 g19)
 (h20:KF K "way_back" QJ f20 g20)
 (h21:KF K "way_between" NK f21 g21)
 (h22:KF K "is_stand" Q6 f22 g22)
 (h23:KF K "are_stands" NI f23 g23)
 (h24:KF K "check_stands" Rc f24 g24)
 (h25:KF K "stand_of" QI f25 g25)
 (h26:KF K "wishes_beyond" NP f26 g26)
 (h27:KF K "how_many_tops_under" NO f27 g27)
 (h28:KF K "how_far" Qu f28 g28)
 (h29:KF K "stands_without" NQ f29 g29)
 (h30:KF K "letters_of_want" QZ f30 g30)
 (h31:KF K "letters_of_unwant" Ra f31 g31)
 (h32:KF K "_law_well" N2 f32 g32)
 (h33:KF K "_law_take" QF f33 g33)
 (h34:KF K "_law_name" OY f34 g34)
 (h35:KF K "_law_fields" QS f35 g35)
 (h36:KF K "_law_base" Q9 f36 g36)
 (h37:KF K "_law_grid" QA f37 g37)
 (h38:KF K "_law_span" QE f38 g38)
 (h39:KF K "_law_wish" QG f39 g39)
 (h40:KF K "_law_wishes" QV f40 g40)
 (h41:KF K "_law_part" QB f41 g41)
 (h42:KF K "_law_covers" QR f42 g42)
 (h43:KF K "_law_rank" QD f43 g43)
 (h44:KF K "_law_greatest" MY f44 g44)
 (h45:KF K "_law_alike" OU f45 g45)
 (h46:KF K "_law_pool" QC f46 g46)
 (h47:KF K "_law_picked" Pe f47 g47)
 (h48:KF K "_law_web" Pa f48 g48)
 (h49:KF K "_law_near" OZ f49 g49)
 (h50:KF K "_law_beyond" QQ f50 g50)
 (h51:KF K "_law_turned" Pf f51 g51)
 (h52:KF K "_law_stands" QT f52 g52)
 (h53:KF K "_law_wanted" QU f53 g53)
 (h54:KF K "_law_stands_kept" Ph f54 g54)
 (h55:KF K "_law_counted" NJ f55 g55)
 (h56:KF K "_law_with" QH f56 g56)
 (h57:KF K "law" LR f57 g57)
 {tML':Tok} (eML':nsIn K AE "MOST_LETTERS"=some (some (.int 8 tML')))
 {tMR':Tok} (eMR':nsIn K AE "MOST_ROADS"=some (some (.int 23 tMR')))
 {tMH':Tok} (eMH':nsIn K AE "MOST_HANDS"=some (some (.int 30 tMH')))
 {tMW':Tok} (eMW':nsIn K AE "MOST_WISHES"=some (some (.int 10 tMW')))
 (z_len:nsIn K AE "len"=some none)
 (z_range:nsIn K AE "range"=some none)
 (z_isinstance:nsIn K AE "isinstance"=some none)
 (z_int:nsIn K AE "int"=some none)
 (z_bool:nsIn K AE "bool"=some none)
 (z_tuple:nsIn K AE "tuple"=some none)
 (z_list:nsIn K AE "list"=some none)
 (z_max:nsIn K AE "max"=some none)
 (z_min:nsIn K AE "min"=some none)
 (z_all:nsIn K AE "all"=some none)
 (z_zip:nsIn K AE "zip"=some none)
 (z_str:nsIn K AE "str"=some none)
 (z_dict:nsIn K AE "dict"=some none)
 (z_sorted:nsIn K AE "sorted"=some none)
 (z_set:nsIn K AE "set"=some none)
 (z_any:nsIn K AE "any"=some none)
 (z_sum:nsIn K AE "sum"=some none)
 (z_enumerate:nsIn K AE "enumerate"=some none)
 (z_repr:nsIn K AE "repr"=some none)
 (z_ord:nsIn K AE "ord"=some none)
 (z_chr:nsIn K AE "chr"=some none)
 (z_abs:nsIn K AE "abs"=some none)
 (z_reversed:nsIn K AE "reversed"=some none)
 :∃fd:Bw,(∀(s:Shared)(v:Value),BindsTo s fd ⟨[v],[]⟩ [("script",v)])∧∀base:Heap,K.In base→base.Ns AE mg→FnOk l.prog w K mg base IC 12 fa fd ["script"] (Oz K):=by
 have e:=hfa.symm.trans (PySem.W.mg_of X G h57.a);cases e;obtain⟨_,⟨⟨oc,od,kV,dc,pm,an,cd,ct,sl,rfl,l',c'⟩,k'⟩⟩:=h57;have B:Bl mg:=⟨mg_none_of X G z_len,mg_none_of X G z_range,mg_none_of X G z_isinstance,mg_none_of X G z_int,mg_none_of X G z_bool,mg_none_of X G z_tuple,mg_none_of X G z_list,mg_none_of X G z_max,mg_none_of X G z_min,mg_none_of X G z_all,mg_none_of X G z_zip,mg_none_of X G z_str,mg_none_of X G z_dict,mg_none_of X G z_sorted,mg_none_of X G z_set,mg_none_of X G z_any,mg_none_of X G z_sum,mg_none_of X G z_enumerate,mg_none_of X G z_repr,mg_none_of X G z_ord,mg_none_of X G z_chr,mg_none_of X G z_abs,mg_none_of X G z_reversed⟩;refine⟨Dn "law" "law" (La LR) (KJ LR) (Iu LR) .none kV dc pm an cd ct,λs v=> .of_eq rfl,λbase _ _  =>?_⟩;have QML':=mg_of X G eML';have QMR':=mg_of X G eMR';have QMH':=mg_of X G eMH';have QMW':=mg_of X G eMW';have GT:Γ0 l.prog w K mg base:=⟨_,_,zhn B QML' QMR' QMH' QMW' h1.F,JQ h1.F,h1.F.2,mg_of X G h1.a⟩;have GU:Γ1 l.prog w K mg base:=⟨_,_,zj5 B QML' QMR' QMH' QMW' h2.F GT,JQ h2.F,h2.F.2,mg_of X G h2.a⟩;have GW:Γ2 l.prog w K mg base:=⟨_,_,ziR B QML' QMR' QMH' QMW' h3.F GU,JQ h3.F,h3.F.2,mg_of X G h3.a⟩;have Ha:Γ3 l.prog w K mg base:=⟨_,_,zey B QML' QMR' QMH' QMW' h4.F,JG h4.F,h4.F.2,mg_of X G h4.a⟩;have GV:Γ4 l.prog w K mg base:=⟨_,_,zhq B QML' QMR' QMH' QMW' h5.F,JQ h5.F,h5.F.2,mg_of X G h5.a⟩;have GY:Γ5 l.prog w K mg base:=⟨_,_,zeA B QML' QMR' QMH' QMW' h6.F GV GW,JQ h6.F,h6.F.2,mg_of X G h6.a⟩;have GX:Γ6 l.prog w K mg base:=⟨_,_,zd2 B QML' QMR' QMH' QMW' h7.F,JQ h7.F,h7.F.2,mg_of X G h7.a⟩;have GZ:Γ7 l.prog w K mg base:=⟨_,_,ziQ B QML' QMR' QMH' QMW' h8.F GX GY,JQ h8.F,h8.F.2,mg_of X G h8.a⟩;have Ht:Γ8 l.prog w K mg base:=⟨_,_,zfC B QML' QMR' QMH' QMW' h9.F GZ,JQ h9.F,h9.F.2,mg_of X G h9.a⟩;have G_:Γ9 l.prog w K mg base:=⟨_,_,zfD B QML' QMR' QMH' QMW' h10.F GZ,JQ h10.F,h10.F.2,mg_of X G h10.a⟩;have Hh:Γ10 l.prog w K mg base:=⟨_,_,zcQ B QML' QMR' QMH' QMW' h11.F G_,JQ h11.F,h11.F.2,mg_of X G h11.a⟩;have Hc:Γ11 l.prog w K mg base:=⟨_,_,zdH B QML' QMR' QMH' QMW' h12.F,JQ h12.F,h12.F.2,mg_of X G h12.a⟩;have Hb:Γ12 l.prog w K mg base:=⟨_,_,zd1 B QML' QMR' QMH' QMW' h13.F Ha,JG h13.F,h13.F.2,mg_of X G h13.a⟩;have Hm:Γ13 l.prog w K mg base:=⟨_,_,zex B QML' QMR' QMH' QMW' h14.F Hb Hc,JG h14.F,h14.F.2,mg_of X G h14.a⟩;have Hf:Γ14 l.prog w K mg base:=⟨_,_,ziT B QML' QMR' QMH' QMW' h15.F GV,JQ h15.F,h15.F.2,mg_of X G h15.a⟩;have Hn:Γ15 l.prog w K mg base:=⟨_,_,zho B QML' QMR' QMH' QMW' h16.F Hc Hb,JG h16.F,h16.F.2,mg_of X G h16.a⟩;have Hd:Γ16 l.prog w K mg base:=⟨_,_,zj4 B QML' QMR' QMH' QMW' h17.F GT,JQ h17.F,h17.F.2,mg_of X G h17.a⟩;have Hj:Γ17 l.prog w K mg base:=⟨_,_,zgB B QML' QMR' QMH' QMW' h18.F Hd,JQ h18.F,h18.F.2,mg_of X G h18.a⟩;have Hg:Γ18 l.prog w K mg base:=⟨_,_,ziS B QML' QMR' QMH' QMW' h19.F GT,JG h19.F,h19.F.2,mg_of X G h19.a⟩;have He:Γ19 l.prog w K mg base:=⟨_,_,zg9 B QML' QMR' QMH' QMW' h20.F,JG h20.F,h20.F.2,mg_of X G h20.a⟩;have Hl:Γ20 l.prog w K mg base:=⟨_,_,zeV B QML' QMR' QMH' QMW' h21.F He,Ng h21.F,h21.F.2,mg_of X G h21.a⟩;have Hi:Γ21 l.prog w K mg base:=⟨_,_,zhp B QML' QMR' QMH' QMW' h22.F Hf Hg Hh,JG h22.F,h22.F.2,mg_of X G h22.a⟩;have Hk:Γ22 l.prog w K mg base:=⟨_,_,zfE B QML' QMR' QMH' QMW' h23.F Hi,JG h23.F,h23.F.2,mg_of X G h23.a⟩;have Hs:Γ23 l.prog w K mg base:=⟨_,_,zeB B QML' QMR' QMH' QMW' h24.F Hj Hk,JG h24.F,h24.F.2,mg_of X G h24.a⟩;have Hr:Γ24 l.prog w K mg base:=⟨_,_,zha B QML' QMR' QMH' QMW' h25.F,JG h25.F,h25.F.2,mg_of X G h25.a⟩;have Ho:Γ25 l.prog w K mg base:=⟨_,_,zd0 B QML' QMR' QMH' QMW' h26.F Hl,Nf h26.F,h26.F.2,mg_of X G h26.a⟩;have Hq:Γ26 l.prog w K mg base:=⟨_,_,zcp B QML' QMR' QMH' QMW' h27.F Hm Hn,JG h27.F,h27.F.2,mg_of X G h27.a⟩;have Hu:Γ27 l.prog w K mg base:=⟨_,_,ziU B QML' QMR' QMH' QMW' h28.F Ho Hl Hq Hn,Nf h28.F,h28.F.2,mg_of X G h28.a⟩;have Hv:Γ28 l.prog w K mg base:=⟨_,_,zdG B QML' QMR' QMH' QMW' h29.F Hr,Ng h29.F,h29.F.2,mg_of X G h29.a⟩;have Ia:Γ29 l.prog w K mg base:=⟨_,_,zdb B QML' QMR' QMH' QMW' h30.F Hs Hr Ht Hu,Nf h30.F,h30.F.2,mg_of X G h30.a⟩;have Ib:Γ30 l.prog w K mg base:=⟨_,_,zcP B QML' QMR' QMH' QMW' h31.F Hs Hr Hu Hv GZ,Nf h31.F,h31.F.2,mg_of X G h31.a⟩;have HS:Γ31 l.prog w K mg base:=⟨_,_,zhd B QML' QMR' QMH' QMW' h32.F,JQ h32.F,h32.F.2,mg_of X G h32.a⟩;have Hw:Γ32 l.prog w K mg base:=⟨_,_,zhe B QML' QMR' QMH' QMW' h33.F,JG h33.F,h33.F.2,mg_of X G h33.a⟩;have Hx:Γ33 l.prog w K mg base:=⟨_,_,zhk B QML' QMR' QMH' QMW' h34.F Hw,JG h34.F,h34.F.2,mg_of X G h34.a⟩;have HM:Γ34 l.prog w K mg base:=⟨_,_,zfz B QML' QMR' QMH' QMW' h35.F Hx Hw,JG h35.F,h35.F.2,mg_of X G h35.a⟩;have Hy:Γ35 l.prog w K mg base:=⟨_,_,zhm B QML' QMR' QMH' QMW' h36.F Hw,JQ h36.F,h36.F.2,mg_of X G h36.a⟩;have HV:Γ36 l.prog w K mg base:=⟨_,_,zhl B QML' QMR' QMH' QMW' h37.F Hw Hy,JQ h37.F,h37.F.2,mg_of X G h37.a⟩;have Hz:Γ37 l.prog w K mg base:=⟨_,_,zhf B QML' QMR' QMH' QMW' h38.F Hw,Ng h38.F,h38.F.2,mg_of X G h38.a⟩
 have HE:Γ38 l.prog w K mg base:=⟨_,_,zhc B QML' QMR' QMH' QMW' h39.F Hw Hz,Nf h39.F,h39.F.2,mg_of X G h39.a⟩;have HJ:Γ39 l.prog w K mg base:=⟨_,_,zfu B QML' QMR' QMH' QMW' h40.F Hw HE,Wm h40.F,h40.F.2,mg_of X G h40.a⟩;have HF:Γ40 l.prog w K mg base:=⟨_,_,zhi B QML' QMR' QMH' QMW' h41.F,JG h41.F,h41.F.2,mg_of X G h41.a⟩;have HH:Γ41 l.prog w K mg base:=⟨_,_,zfA B QML' QMR' QMH' QMW' h42.F HF,JG h42.F,h42.F.2,mg_of X G h42.a⟩;have HG:Γ42 l.prog w K mg base:=⟨_,_,zhg B QML' QMR' QMH' QMW' h43.F,JQ h43.F,h43.F.2,mg_of X G h43.a⟩;have HQ:Γ43 l.prog w K mg base:=⟨_,_,zez B QML' QMR' QMH' QMW' h44.F HG HH,JQ h44.F,h44.F.2,mg_of X G h44.a⟩;have HI:Γ44 l.prog w K mg base:=⟨_,_,zgA B QML' QMR' QMH' QMW' h45.F  (PySem.W.mg_of X G h45.a),JG h45.F,h45.F.2,mg_of X G h45.a⟩;have HW:Γ45 l.prog w K mg base:=⟨_,_,zhh B QML' QMR' QMH' QMW' h46.F HJ,Wm h46.F,h46.F.2,mg_of X G h46.a⟩;have HN:Γ46 l.prog w K mg base:=⟨_,_,zfy B QML' QMR' QMH' QMW' h47.F Hw,JG h47.F,h47.F.2,mg_of X G h47.a⟩;have HU:Γ47 l.prog w K mg base:=⟨_,_,ziP B QML' QMR' QMH' QMW' h48.F Hw,JG h48.F,h48.F.2,mg_of X G h48.a⟩;have HK:Γ48 l.prog w K mg base:=⟨_,_,zhj B QML' QMR' QMH' QMW' h49.F,JG h49.F,h49.F.2,mg_of X G h49.a⟩;have HP:Γ49 l.prog w K mg base:=⟨_,_,zfB B QML' QMR' QMH' QMW' h50.F HK,Ng h50.F,h50.F.2,mg_of X G h50.a⟩;have HL:Γ50 l.prog w K mg base:=⟨_,_,zfw B QML' QMR' QMH' QMW' h51.F Hw,JG h51.F,h51.F.2,mg_of X G h51.a⟩;have HX:Γ51 l.prog w K mg base:=⟨_,_,zfx B QML' QMR' QMH' QMW' h52.F HL HM Hw HN,Nf h52.F,h52.F.2,mg_of X G h52.a⟩;have HR:Γ52 l.prog w K mg base:=⟨_,_,zfv B QML' QMR' QMH' QMW' h53.F,JG h53.F,h53.F.2,mg_of X G h53.a⟩;have H_:Γ53 l.prog w K mg base:=⟨_,_,zdc B QML' QMR' QMH' QMW' h54.F,JQ h54.F,h54.F.2,mg_of X G h54.a⟩;have HZ:Γ54 l.prog w K mg base:=⟨_,_,zeW B QML' QMR' QMH' QMW' h55.F HP HQ HR,Ng h55.F,h55.F.2,mg_of X G h55.a⟩;have HY:Γ55 l.prog w K mg base:=⟨_,_,zhb B QML' QMR' QMH' QMW' h56.F,Ng h56.F,h56.F.2,mg_of X G h56.a⟩;exact X2 B QML' QMR' QMH' QMW' (fun_mk (st:=LR) l' c' k') HS HU HM HV HW HX Hw HE HY HZ H_ HI Ia Ib
theorem walk{l:Fx}{q:AY}{loose:List Str}{XP:(Str→Option Value)→Heap→Prop}{YP:World→Heap→Prop}{d:DefRec}{K:Params→Ad}(hn:l.most=some 63)(hdf:d.params.defaults=[])
 (hY:∀(w:World)(h:Heap),YP w h→(K w.params).In h)
 (F:∀(w:World)(mg:Str→Option Value)(fa:Addr)(h:Heap),(K w.params).In h→h.Ns AE mg→mg d.name=some (.ref fa)→
  ∃fd:Bw,(∀(s:Shared)(u:Value),BindsTo s fd ⟨[u],[]⟩ [("script",u)])∧∀base:Heap,(K w.params).In base→base.Ns AE mg→FnOk l.prog w (K w.params) mg base IC 12 fa fd ["script"] (Oz (K w.params))):
 PySem.W.WalkO q loose XP YP l.row.toRowW d [] (λf vs=>PySem.call f vs):=
 L2.walk_of (n:=63) (k:=12) (x:="script") (CX:=λ_=>IC) (sp:=λw=>Oz (K w.params)) hn (by decide) hdf ⟨rfl,by decide,by decide,rfl⟩ hY F (λ_ _ a ns hl _ hS=>⟨a,ns,rfl,hS,hl,λ_=>rfl⟩) λ_ _ _ _ _ z=>z
end K64
namespace PySem.W.Fast
theorem tw9746313180308885921:0=0:=rfl
theorem tw3211542884560969122:0=0:=rfl
theorem tw14675441763474204102:0=0:=rfl
theorem tw10948931727833093606:0=0:=rfl
theorem tw10021640830278572423:0=0:=rfl
theorem tw3888860603737487497:0=0:=rfl
theorem tw16925112387462407627:0=0:=rfl
theorem tw7206459868980193038:0=0:=rfl
theorem tw10522946820705688079:0=0:=rfl
theorem tw17547709909509206449:0=0:=rfl
theorem tw4959804475507294673:0=0:=rfl
theorem tw13721094969599130225:0=0:=rfl
theorem tw16953363456921368722:0=0:=rfl
theorem tw4946510138780924346:0=0:=rfl
theorem tw16425035776695968604:0=0:=rfl
theorem tw18105239958207265984:0=0:=rfl
theorem tw8287335174595470560:0=0:=rfl
theorem tw17361581404042356064:0=0:=rfl
theorem tw5295783301670451616:0=0:=rfl
theorem tw8935197296411169280:0=0:=rfl
theorem tw9385991159705299520:0=0:=rfl
theorem tw12610900514612996736:0=0:=rfl
theorem tw13108375311740527264:0=0:=rfl
theorem tw2130068204122214304:0=0:=rfl
theorem tw13507597619850845120:0=0:=rfl
theorem tw440069696050497472:0=0:=rfl
theorem tw1441214844197049312:0=0:=rfl
theorem tw5334670316109241441:0=0:=rfl
theorem tw198760521161742529:0=0:=rfl
theorem tw3522611133856213217:0=0:=rfl
theorem tw12554960922499509569:0=0:=rfl
theorem tw2156970621704669569:0=0:=rfl
theorem tw4279115149391532449:0=0:=rfl
theorem tw2677563616916018593:0=0:=rfl
theorem tw14786903748915228129:0=0:=rfl
theorem tw6865545295133589089:0=0:=rfl
theorem tw7905689010595858177:0=0:=rfl
theorem tw1173011971572438817:0=0:=rfl
theorem tw895786525133021121:0=0:=rfl
theorem tw3370233099664750529:0=0:=rfl
theorem tw3581976248191726754:0=0:=rfl
theorem tw13737145324561083874:0=0:=rfl
theorem tw16906650952354216514:0=0:=rfl
theorem tw4270665732750751490:0=0:=rfl
theorem tw3759508692397299490:0=0:=rfl
theorem tw3997372950311477154:0=0:=rfl
theorem tw1952387708695848866:0=0:=rfl
theorem tw7394969576233603107:0=0:=rfl
theorem tw2334492083224802339:0=0:=rfl
theorem tw8512081110904182883:0=0:=rfl
theorem tw11023295933929155715:0=0:=rfl
theorem tw5014507685605214371:0=0:=rfl
theorem tw8465327973063883971:0=0:=rfl
theorem tw6577653822599770531:0=0:=rfl
theorem tw7151555485720629699:0=0:=rfl
theorem tw2337161343402499587:0=0:=rfl
theorem tw13522039578516841987:0=0:=rfl
theorem tw16716645716969762403:0=0:=rfl
theorem tw9382681647775613603:0=0:=rfl
theorem tw15393542544846521187:0=0:=rfl
theorem tw7398977898256045987:0=0:=rfl
theorem tw13586662468629987396:0=0:=rfl
theorem tw12515206557289501764:0=0:=rfl
theorem tw13100340367054975108:0=0:=rfl
theorem tw15136720634197212612:0=0:=rfl
theorem tw6193256778850509316:0=0:=rfl
theorem tw4480117494101658212:0=0:=rfl
theorem tw11932999797476850276:0=0:=rfl
theorem tw4414558312407442052:0=0:=rfl
theorem tw16550351355485329028:0=0:=rfl
theorem tw11720411148824632004:0=0:=rfl
theorem tw7502651678809901796:0=0:=rfl
theorem tw15440802414129629988:0=0:=rfl
theorem tw4416752065346936676:0=0:=rfl
theorem tw12804422128013503396:0=0:=rfl
theorem tw1451475589098521605:0=0:=rfl
theorem tw18126321406022924293:0=0:=rfl
theorem tw10491642833802530213:0=0:=rfl
theorem tw3686732414185067941:0=0:=rfl
theorem tw6440222163628241381:0=0:=rfl
theorem tw13645196273650339397:0=0:=rfl
theorem tw2109332796642372293:0=0:=rfl
theorem tw9673853553571049221:0=0:=rfl
theorem tw465410073794582373:0=0:=rfl
theorem tw7457324909160233925:0=0:=rfl
theorem tw4939930911254645766:0=0:=rfl
theorem tw12974445107912467494:0=0:=rfl
theorem tw14098196243287592998:0=0:=rfl
theorem tw6535081176250568742:0=0:=rfl
theorem tw7367462745647589446:0=0:=rfl
theorem tw9704752600117469254:0=0:=rfl
theorem tw7801389114411158662:0=0:=rfl
theorem tw5231382703846409350:0=0:=rfl
theorem tw8442377084133384358:0=0:=rfl
theorem tw10995865734749836454:0=0:=rfl
theorem tw10657883800833563814:0=0:=rfl
theorem tw10238012854434516166:0=0:=rfl
theorem tw11724981865337299302:0=0:=rfl
theorem tw8953751296589839750:0=0:=rfl
theorem tw8088936769986187782:0=0:=rfl
theorem tw2927448984020862502:0=0:=rfl
theorem tw1933249245221925478:0=0:=rfl
theorem tw1389267213099053702:0=0:=rfl
theorem tw12160540442796249798:0=0:=rfl
theorem tw8580172694186816230:0=0:=rfl
theorem tw3618183854347909958:0=0:=rfl
theorem tw18348047079237802822:0=0:=rfl
theorem tw2392299329227021222:0=0:=rfl
theorem tw15990604018416135175:0=0:=rfl
theorem tw13534554888089266247:0=0:=rfl
theorem tw18201749894634920007:0=0:=rfl
theorem tw1170466662340236391:0=0:=rfl
theorem tw9943645557892725959:0=0:=rfl
theorem tw9214699890948881671:0=0:=rfl
theorem tw7217587526618044743:0=0:=rfl
theorem tw4538475826065430023:0=0:=rfl
theorem tw14665680559952888391:0=0:=rfl
theorem tw10764574369938920039:0=0:=rfl
theorem tw5360353647053787815:0=0:=rfl
theorem tw5476460246114206535:0=0:=rfl
theorem tw16761793846701941575:0=0:=rfl
theorem tw380997124343435111:0=0:=rfl
theorem tw12420093221595206503:0=0:=rfl
theorem tw14454180426979669991:0=0:=rfl
theorem tw13658930066605317256:0=0:=rfl
theorem tw12795379190418365768:0=0:=rfl
theorem tw12201742665713802600:0=0:=rfl
theorem tw16371670506222687656:0=0:=rfl
theorem tw11794896228377230792:0=0:=rfl
theorem tw8474769306249848296:0=0:=rfl
theorem tw16206510106483414568:0=0:=rfl
theorem tw13877890325821905576:0=0:=rfl
theorem tw3311777491189612232:0=0:=rfl
theorem tw13634386033942899464:0=0:=rfl
theorem tw18389551324728848232:0=0:=rfl
theorem tw17934670813866988617:0=0:=rfl
theorem tw17312135706111923273:0=0:=rfl
theorem tw17353506564476989513:0=0:=rfl
theorem tw13787608681391141033:0=0:=rfl
theorem tw15362519706576641225:0=0:=rfl
theorem tw5688833240199978313:0=0:=rfl
theorem tw5418380690384763209:0=0:=rfl
theorem tw16895800853078280713:0=0:=rfl
theorem tw14194488360433110601:0=0:=rfl
theorem tw9226241480507535017:0=0:=rfl
theorem tw9751739590813301417:0=0:=rfl
theorem tw8894058491628356297:0=0:=rfl
theorem tw2416201410914111177:0=0:=rfl
theorem tw14856575402679850921:0=0:=rfl
theorem tw11930138709957201930:0=0:=rfl
theorem tw5315964765196778602:0=0:=rfl
theorem tw18287080555057618090:0=0:=rfl
theorem tw12407292459809046826:0=0:=rfl
theorem tw14114421648721411498:0=0:=rfl
theorem tw1344984010239986122:0=0:=rfl
theorem tw11311580965553235594:0=0:=rfl
theorem tw7026534642352313002:0=0:=rfl
theorem tw17935318236778056682:0=0:=rfl
theorem tw2940408789699104746:0=0:=rfl
theorem tw7921923422996788235:0=0:=rfl
theorem tw8585775032275644427:0=0:=rfl
theorem tw1341888317043647499:0=0:=rfl
theorem tw3306636788196441227:0=0:=rfl
theorem tw6745351132099956011:0=0:=rfl
theorem tw17570523634428596651:0=0:=rfl
theorem tw1646952418116796843:0=0:=rfl
theorem tw18047952496128558507:0=0:=rfl
theorem tw12391955033827755563:0=0:=rfl
theorem tw1497708474826594923:0=0:=rfl
theorem tw4883772721749535403:0=0:=rfl
theorem tw7331295804783988683:0=0:=rfl
theorem tw3496777489494135948:0=0:=rfl
theorem tw15861274772915111052:0=0:=rfl
theorem tw9018261682813410476:0=0:=rfl
theorem tw15775772103291246828:0=0:=rfl
theorem tw4296421702537061644:0=0:=rfl
theorem tw6675893641939063084:0=0:=rfl
theorem tw17979283184411257196:0=0:=rfl
theorem tw2469704667341166060:0=0:=rfl
theorem tw7120631087854992940:0=0:=rfl
theorem tw2800328686314415756:0=0:=rfl
theorem tw8254140108724447180:0=0:=rfl
theorem tw1586472156757611597:0=0:=rfl
theorem tw11530903295020360781:0=0:=rfl
theorem tw409501520510772333:0=0:=rfl
theorem tw8044807246998904941:0=0:=rfl
theorem tw3256187135096724621:0=0:=rfl
theorem tw8133310610583428397:0=0:=rfl
theorem tw17616277687040350669:0=0:=rfl
theorem tw620772477063895853:0=0:=rfl
theorem tw14216514925221613421:0=0:=rfl
theorem tw5881973959439254477:0=0:=rfl
theorem tw8127547224134067246:0=0:=rfl
theorem tw11697688870399771854:0=0:=rfl
theorem tw14127764310667379918:0=0:=rfl
theorem tw14510496959988829518:0=0:=rfl
theorem tw4321217824340008366:0=0:=rfl
theorem tw16177506917705096622:0=0:=rfl
theorem tw12426257643941856686:0=0:=rfl
theorem tw12228172998288861678:0=0:=rfl
theorem tw963831159587922446:0=0:=rfl
theorem tw12173130479805089358:0=0:=rfl
theorem tw17465560007586287182:0=0:=rfl
theorem tw14797634129700594318:0=0:=rfl
theorem tw11015231310961003150:0=0:=rfl
theorem tw7989435274462384878:0=0:=rfl
theorem tw4786319505132247886:0=0:=rfl
theorem tw1412048901874455470:0=0:=rfl
theorem tw10086483954850146254:0=0:=rfl
theorem tw16077645634043849775:0=0:=rfl
theorem tw6031468224206009391:0=0:=rfl
theorem tw4862105560612862095:0=0:=rfl
theorem tw12137507786028918959:0=0:=rfl
theorem tw7130686497046032559:0=0:=rfl
theorem tw14010976032124071183:0=0:=rfl
theorem tw6610858979164074415:0=0:=rfl
theorem tw2920320613198488079:0=0:=rfl
theorem tw9147081626095756847:0=0:=rfl
theorem tw9294964728951239247:0=0:=rfl
theorem tw5706729673589786287:0=0:=rfl
theorem tw9171978503200783023:0=0:=rfl
theorem tw571944810816239311:0=0:=rfl
theorem tw4878962525433092815:0=0:=rfl
theorem tw906478150762750703:0=0:=rfl
theorem tw16875783944693973807:0=0:=rfl
theorem tw16977327061102593871:0=0:=rfl
theorem tw10695016418839663728:0=0:=rfl
theorem tw9620501599366705424:0=0:=rfl
theorem tw2846654296484271408:0=0:=rfl
theorem tw8442782579487066448:0=0:=rfl
theorem tw9773008358786925936:0=0:=rfl
theorem tw7778621276765670768:0=0:=rfl
theorem tw10892577033788699088:0=0:=rfl
theorem tw5767252884192641520:0=0:=rfl
theorem tw1844602615819379440:0=0:=rfl
theorem tw8252031504916239120:0=0:=rfl
theorem tw2158117787440824080:0=0:=rfl
theorem tw5221077228959533904:0=0:=rfl
theorem tw5421471153611903888:0=0:=rfl
theorem tw9928670508552441776:0=0:=rfl
theorem tw6449924298096036816:0=0:=rfl
theorem tw579954113880805360:0=0:=rfl
theorem tw15868475036351086673:0=0:=rfl
theorem tw14065012110424348881:0=0:=rfl
theorem tw6247326750565293361:0=0:=rfl
theorem tw7831305304717960657:0=0:=rfl
theorem tw9535163716740816433:0=0:=rfl
theorem tw16140911538679203633:0=0:=rfl
theorem tw188622114631314257:0=0:=rfl
theorem tw9537814270126999602:0=0:=rfl
theorem tw14750015251543730322:0=0:=rfl
theorem tw2346110151562944658:0=0:=rfl
theorem tw13074762690300703890:0=0:=rfl
theorem tw12267017025463060658:0=0:=rfl
theorem tw1112614223328709970:0=0:=rfl
theorem tw16233772518928700754:0=0:=rfl
theorem tw2426723326397813138:0=0:=rfl
theorem tw13895050022133193170:0=0:=rfl
theorem tw1555030269567105522:0=0:=rfl
theorem tw17017673875369854450:0=0:=rfl
theorem tw11985114687451430418:0=0:=rfl
theorem tw8695916649032969778:0=0:=rfl
theorem tw5500884488238986898:0=0:=rfl
theorem tw4340613724716308146:0=0:=rfl
theorem tw13171683788085056434:0=0:=rfl
theorem tw6996736037027811314:0=0:=rfl
theorem tw3571949523066193971:0=0:=rfl
theorem tw2387762027849869363:0=0:=rfl
theorem tw5179259387300552787:0=0:=rfl
theorem tw3182981764679061939:0=0:=rfl
theorem tw18208966637354176051:0=0:=rfl
theorem tw875980119015769651:0=0:=rfl
theorem tw1585948844497755763:0=0:=rfl
theorem tw4521670315440093843:0=0:=rfl
theorem tw7935973291814661811:0=0:=rfl
theorem tw4511907656835118931:0=0:=rfl
theorem tw14372790959360700371:0=0:=rfl
theorem tw12087946645294145620:0=0:=rfl
theorem tw10539412784724249716:0=0:=rfl
theorem tw3082260247760633172:0=0:=rfl
theorem tw15617902851010706868:0=0:=rfl
theorem tw15655501505642022420:0=0:=rfl
theorem tw10164951909619981876:0=0:=rfl
theorem tw600287169657174740:0=0:=rfl
theorem tw12167327458159416244:0=0:=rfl
theorem tw9844742709070184404:0=0:=rfl
theorem tw133666362855925845:0=0:=rfl
theorem tw4053333695759177813:0=0:=rfl
theorem tw3345119108465773813:0=0:=rfl
theorem tw15218915782421863701:0=0:=rfl
theorem tw16004123387998044501:0=0:=rfl
theorem tw14714615519833901621:0=0:=rfl
theorem tw781977787897114165:0=0:=rfl
theorem tw2362700801562179349:0=0:=rfl
theorem tw11383991626879461269:0=0:=rfl
theorem tw9475158307548434357:0=0:=rfl
theorem tw14726399985700458453:0=0:=rfl
theorem tw16609700304623456406:0=0:=rfl
theorem tw3000553287666040982:0=0:=rfl
theorem tw862880289880534198:0=0:=rfl
theorem tw12177974060470845782:0=0:=rfl
theorem tw2298013705486197110:0=0:=rfl
theorem tw9883716211876421014:0=0:=rfl
theorem tw10145442545857083798:0=0:=rfl
theorem tw16872561713909512598:0=0:=rfl
theorem tw1370589907501543862:0=0:=rfl
theorem tw621038483269823062:0=0:=rfl
theorem tw9436886681338186422:0=0:=rfl
theorem tw17164340326169246390:0=0:=rfl
theorem tw10821130474837979030:0=0:=rfl
theorem tw2019372888761979830:0=0:=rfl
theorem tw13679437045435923446:0=0:=rfl
theorem tw2925271453389226103:0=0:=rfl
theorem tw7784063101332766007:0=0:=rfl
theorem tw17246183839413022039:0=0:=rfl
theorem tw1383468365460514167:0=0:=rfl
theorem tw2144830070478104983:0=0:=rfl
theorem tw17772375741625179575:0=0:=rfl
theorem tw5832977831149916663:0=0:=rfl
theorem tw3232337352622288407:0=0:=rfl
theorem tw3039265794821504567:0=0:=rfl
theorem tw6130333720472423063:0=0:=rfl
theorem tw7650752055066479287:0=0:=rfl
theorem tw15868671229479599799:0=0:=rfl
theorem tw1698240818028957463:0=0:=rfl
theorem tw16922754444605917015:0=0:=rfl
theorem tw13762505212330190775:0=0:=rfl
theorem tw10800649767942927319:0=0:=rfl
theorem tw2473376106792037432:0=0:=rfl
theorem tw12604003036524179544:0=0:=rfl
theorem tw1220730797799198904:0=0:=rfl
theorem tw11730463874473132376:0=0:=rfl
theorem tw9081064198887492984:0=0:=rfl
theorem tw15059822500133250488:0=0:=rfl
theorem tw2864024980885255608:0=0:=rfl
theorem tw10064928944671007192:0=0:=rfl
theorem tw6668656980948366808:0=0:=rfl
theorem tw5550535287030431224:0=0:=rfl
theorem tw12591795483400391224:0=0:=rfl
theorem tw12844551548906259064:0=0:=rfl
theorem tw7763201417158706808:0=0:=rfl
theorem tw15203974132196491992:0=0:=rfl
theorem tw16637204873936572152:0=0:=rfl
theorem tw5481945034636359480:0=0:=rfl
theorem tw11378935395915267960:0=0:=rfl
theorem tw9869314378203837304:0=0:=rfl
theorem tw8875541882717852600:0=0:=rfl
theorem tw6403717687333948408:0=0:=rfl
theorem tw10521974790626338041:0=0:=rfl
theorem tw10117791542688535833:0=0:=rfl
theorem tw15579433391013064985:0=0:=rfl
theorem tw10563268424158373209:0=0:=rfl
theorem tw4704140182071015769:0=0:=rfl
theorem tw6324282646647547257:0=0:=rfl
theorem tw8488874057921330649:0=0:=rfl
theorem tw5307934241051856441:0=0:=rfl
theorem tw13771168575383431769:0=0:=rfl
theorem tw12327548249740622425:0=0:=rfl
theorem tw9720609744447176409:0=0:=rfl
theorem tw9748157775578295065:0=0:=rfl
theorem tw4428227990277375833:0=0:=rfl
theorem tw3847049299497548633:0=0:=rfl
theorem tw2665735264744206329:0=0:=rfl
theorem tw5031253544699984922:0=0:=rfl
theorem tw1235220897034522778:0=0:=rfl
theorem tw14163815176938447066:0=0:=rfl
theorem tw1559996708608710906:0=0:=rfl
theorem tw7014884582550922490:0=0:=rfl
theorem tw3672325620213770554:0=0:=rfl
theorem tw3090977964228116890:0=0:=rfl
theorem tw4492896363384411674:0=0:=rfl
theorem tw17636021401372580474:0=0:=rfl
theorem tw2362856059968573370:0=0:=rfl
theorem tw10570217969002903482:0=0:=rfl
theorem tw11807718321677531163:0=0:=rfl
theorem tw10815664497356082203:0=0:=rfl
theorem tw10027342420200725563:0=0:=rfl
theorem tw3049098008374901851:0=0:=rfl
theorem tw16324966993891722363:0=0:=rfl
theorem tw4145114273879787675:0=0:=rfl
theorem tw4578318562784189659:0=0:=rfl
theorem tw9031873124520019355:0=0:=rfl
theorem tw3070609422920476091:0=0:=rfl
theorem tw11360470400703388091:0=0:=rfl
theorem tw15956384787141530075:0=0:=rfl
theorem tw8592081429673664027:0=0:=rfl
theorem tw12092591649380142619:0=0:=rfl
theorem tw5734483316504313403:0=0:=rfl
theorem tw8897880504874609211:0=0:=rfl
theorem tw4289947589401129627:0=0:=rfl
theorem tw16877341592191060667:0=0:=rfl
theorem tw17294559747066008283:0=0:=rfl
theorem tw2437244044895860475:0=0:=rfl
theorem tw16287075072853510011:0=0:=rfl
theorem tw16941071123383586811:0=0:=rfl
theorem tw7318978086389758012:0=0:=rfl
theorem tw16680563347369666652:0=0:=rfl
theorem tw10947486901941120092:0=0:=rfl
theorem tw641302590198456444:0=0:=rfl
theorem tw10123046139430482108:0=0:=rfl
theorem tw18052991741942431388:0=0:=rfl
theorem tw8259974496401196892:0=0:=rfl
theorem tw14463858388721633148:0=0:=rfl
theorem tw13066801290623026205:0=0:=rfl
theorem tw14732889575991229469:0=0:=rfl
theorem tw3511613397659984957:0=0:=rfl
theorem tw16034160698135613533:0=0:=rfl
theorem tw9688485456299657437:0=0:=rfl
theorem tw17757329730402385181:0=0:=rfl
theorem tw4535394557258765629:0=0:=rfl
theorem tw15723485778302794045:0=0:=rfl
theorem tw15740097520032449917:0=0:=rfl
theorem tw15944387923725727421:0=0:=rfl
theorem tw2145753990027328285:0=0:=rfl
theorem tw3972246369607954301:0=0:=rfl
theorem tw15614207135129104285:0=0:=rfl
theorem tw9344186227788701661:0=0:=rfl
theorem tw410280048693396477:0=0:=rfl
theorem tw12969662193845820478:0=0:=rfl
theorem tw10509734366693710974:0=0:=rfl
theorem tw16161779792728170622:0=0:=rfl
theorem tw11517798039612878110:0=0:=rfl
theorem tw7795657217834344798:0=0:=rfl
theorem tw2838772691857570206:0=0:=rfl
theorem tw11502957313737691582:0=0:=rfl
theorem tw7883736928235200062:0=0:=rfl
theorem tw14149411371687779934:0=0:=rfl
theorem tw17127157113265513182:0=0:=rfl
theorem tw17660463171378197246:0=0:=rfl
theorem tw13827321227461814110:0=0:=rfl
theorem tw3178193314860958590:0=0:=rfl
theorem tw12211801422808675391:0=0:=rfl
theorem tw11715429091254961247:0=0:=rfl
theorem tw9518910940111055039:0=0:=rfl
theorem tw9265198913843062015:0=0:=rfl
theorem tw1527291015854726591:0=0:=rfl
theorem tw16985296934831209951:0=0:=rfl
theorem tw8788476638643253759:0=0:=rfl
theorem tw17117940635458220575:0=0:=rfl
theorem tw14834379226594859615:0=0:=rfl
theorem tw10218820731570157183:0=0:=rfl
theorem tw2240741004999120543:0=0:=rfl
theorem tw793090327880585951:0=0:=rfl
theorem tw5163190074667691775:0=0:=rfl
theorem tw9568865675205659455:0=0:=rfl
theorem tw2200757530911678335:0=0:=rfl
theorem tw15209241861809006495:0=0:=rfl
theorem tw12519577719181883391:0=0:=rfl
end PySem.W.Fast
open PySem PySem.W PyProof.Rows
set_option hygiene false in
local macro_rules | `(tactic| walk_at "kF")=> `(tactic| (refine' K64.KF.mk ?a (L2.fun_mk ?l ?c ?k);(case a=>k_is);(case l=>k_is);(case c=>k_is);(case k=>k_is)))
set_option maxRecDepth 100000 in
set_option maxHeartbeats 0 in
theorem PySem.Challenge.cw_newsways_k64_letters_of_one_wish_holds : PySem.Challenge.rw_newsways_k64_letters_of_one_wish.Holds := by
 w_on;o_law;k_head;(case hw=>w_witness2)
 k_fill
 refine K64.walk (l:=PySem.Challenge.rw_newsways_k64_letters_of_one_wish) rfl rfl (λw h Y=>PySem.W.kIn_of Y) ?F
 case F=>
  intro w mg fa h KX G hmg;refine' K64.all_mk KX G hmg ?h1 ?h2 ?h3 ?h4 ?h5 ?h6 ?h7 ?h8 ?h9 ?h10 ?h11 ?h12 ?h13 ?h14 ?h15 ?h16 ?h17 ?h18 ?h19 ?h20 ?h21 ?h22 ?h23 ?h24 ?h25 ?h26 ?h27 ?h28 ?h29 ?h30 ?h31 ?h32 ?h33 ?h34 ?h35 ?h36 ?h37 ?h38 ?h39 ?h40 ?h41 ?h42 ?h43 ?h44 ?h45 ?h46 ?h47 ?h48 ?h49 ?h50 ?h51 ?h52 ?h53 ?h54 ?h55 ?h56 ?h57 ?eML' ?eMR' ?eMH' ?eMW'  ?z_len ?z_range ?z_isinstance ?z_int ?z_bool ?z_tuple ?z_list ?z_max ?z_min ?z_all ?z_zip ?z_str ?z_dict ?z_sorted ?z_set ?z_any ?z_sum ?z_enumerate ?z_repr ?z_ord ?z_chr ?z_abs ?z_reversed
  (case h1=>walk_at "kF");(case h2=>walk_at "kF");(case h3=>walk_at "kF");(case h4=>walk_at "kF");(case h5=>walk_at "kF");(case h6=>walk_at "kF");(case h7=>walk_at "kF");(case h8=>walk_at "kF");(case h9=>walk_at "kF");(case h10=>walk_at "kF");(case h11=>walk_at "kF");(case h12=>walk_at "kF");(case h13=>walk_at "kF");(case h14=>walk_at "kF");(case h15=>walk_at "kF");(case h16=>walk_at "kF");(case h17=>walk_at "kF");(case h18=>walk_at "kF");(case h19=>walk_at "kF");(case h20=>walk_at "kF");(case h21=>walk_at "kF");(case h22=>walk_at "kF");(case h23=>walk_at "kF");(case h24=>walk_at "kF");(case h25=>walk_at "kF");(case h26=>walk_at "kF");(case h27=>walk_at "kF");(case h28=>walk_at "kF");(case h29=>walk_at "kF");(case h30=>walk_at "kF");(case h31=>walk_at "kF");(case h32=>walk_at "kF");(case h33=>walk_at "kF");(case h34=>walk_at "kF");(case h35=>walk_at "kF");(case h36=>walk_at "kF");(case h37=>walk_at "kF");(case h38=>walk_at "kF");(case h39=>walk_at "kF");(case h40=>walk_at "kF");(case h41=>walk_at "kF");(case h42=>walk_at "kF");(case h43=>walk_at "kF");(case h44=>walk_at "kF");(case h45=>walk_at "kF");(case h46=>walk_at "kF");(case h47=>walk_at "kF");(case h48=>walk_at "kF");(case h49=>walk_at "kF");(case h50=>walk_at "kF");(case h51=>walk_at "kF");(case h52=>walk_at "kF");(case h53=>walk_at "kF");(case h54=>walk_at "kF");(case h55=>walk_at "kF");(case h56=>walk_at "kF");(case h57=>walk_at "kF")
  (case eML'=>k_is);(case eMR'=>k_is);(case eMH'=>k_is);(case eMW'=>k_is)
  (case z_len=>k_is);(case z_range=>k_is);(case z_isinstance=>k_is);(case z_int=>k_is);(case z_bool=>k_is);(case z_tuple=>k_is);(case z_list=>k_is);(case z_max=>k_is);(case z_min=>k_is);(case z_all=>k_is);(case z_zip=>k_is);(case z_str=>k_is);(case z_dict=>k_is);(case z_sorted=>k_is);(case z_set=>k_is);(case z_any=>k_is);(case z_sum=>k_is);(case z_enumerate=>k_is);(case z_repr=>k_is);(case z_ord=>k_is);(case z_chr=>k_is);(case z_abs=>k_is);(case z_reversed=>k_is)
