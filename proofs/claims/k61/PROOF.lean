import PyProof.Rows.All
import Wide.All
import OpenK.AllK
import Wide.FinOn
import Lean
import PyProof.EqAt
import PyProof.EqKinds
import PyProof.TupleCall
import PyProof.NeKinds
import KE.IntBitsLaws
import PyProof.StrWalks
import PyProof.FString5
import PyProof.ConsumeWalk
import PyProof.DictCompW
import PyProof.ZipIter
import PyProof.EnumMake
import PyProof.Rows.SetFrom
import KE.KRevSl
import PyProof.FitsBits
import PyProof.Rows.SortStr
import PyProof.StrBlockL
import PyProof.JoinWalk
import PyProof.AttrMissHeap
import PyProof.ListNew
import PyProof.DictUpdate
import PyProof.DictWalks
import KE.KSortTup
import PyProof.Rows.StrMeet
import KE.KSortKey
import PyProof.ListRange
import PyProof.SumAny
import PyProof.WalkInts
import PyProof.StationsW
import PyProof.RulesAs
import OpenK.KRaise
import PyProof.ExcInit
import PyProof.ExcBaseAll.ValueError
import PyProof.PassesOwn
import PyProof.NsDelKeeps
import PyProof.Rows.Catch
import PyProof.FString
import PyProof.Rows.FStr
import PyProof.ExcArgs
import PyProof.ExcAttrAll.ValueError
import PyProof.Rows.SortWalk
import PyProof.ReprRoads
import PyProof.ReprText
import PyProof.CallFns
import KE.KEqDict
import PyProof.AutoListH
import PyProof.SliceStr2
import PyProof.StrOps2
import PyProof.Rows.StrMadeLen
import PyProof.StrLawsIn
import PyProof.TupleKey
import PyProof.DictRoadsH
import PyProof.SetScanFacts
import OpenK.KTop
import PySem.Challenge.RW_newsways_k61_known_at_rest
open Array renaming length_toList → A0, getElem?_toList → AZ, getElem?_eq_getElem → BF, getD_eq_getD_getElem? → BP, getElem?_eq_some_iff → BU, forIn_toList → Cs, mem_toList_iff → Dm, getElem_toList → Do, size_append → EG, toList_push → EH, size_push → Fm, size_map → FE
open Bool renaming false_ne_true → An, false_eq_true → A3, eq_iff_iff → Bb, and_eq_true → Bk, not_true → Ce, not_eq_true' → De, and_false → DB, eq_false_iff → EJ, not_eq_true → EW
open Classical renaming byContradiction → EN
open False renaming elim → CN
open Int renaming emod_lt_of_pos → BE, emod_nonneg → B_, eq_ofNat_of_zero_le → Ci, toNat_natCast → CL, max_eq_left → Fl, mul_le_mul → FF
open List renaming length_map → Ab, mem_append_right → Ag, mem_cons_self → Ah, mem_cons_of_mem → Ai, getElem?_map → Aj, mem_of_getElem? → Ak, size_toArray → Al, map_cons → Am, getElem?_eq_some_iff → Aq, map_append → Ar, mem_cons → As, mem_singleton → Ax, getElem?_eq_getElem → Ay, length_append → Az, getD_eq_getElem?_getD → A7, length_cons → A8, length_take → AA, mem_append → AD, length_filter_le → AE, mem_append_left → AF, mem_map → AG, replicate → AH, range → AI, not_mem_nil → AK, take_of_length_le → AO, Nodup → A_, mem_map_of_mem → Ba, take_length → Bd, filter_append → Bi, map_nil → Bq, length_replicate → By, mem_filter → BB, nodup_cons → BC, mem_range → BJ, filter_cons → BQ, replicate_succ' → BR, append_assoc → BV, drop_eq_getElem_cons → BY, lookup_cons → Cb, map_map → Cd, getElem?_of_mem → Ch, nodup_append → Ck, getElem?_append_right → Cn, any_cons → Co, any_eq_true → Cq, getElem?_append_left → Ct, pairwise_iff_getElem → Cu, append_nil → Cz, length_range → C2, all_cons → C6, toList_toArray → C8, map_replicate → CD, length_singleton → CH, mem_of_mem_take → CP, mem_filterMap → CY, find?_cons → C_, find?_eq_none → Da, length → Db, reverse_cons → Dc, take_succ → Di, getElem?_eq_none → Dk, range_succ → Dx, filter_cons_of_pos → DG, filter_cons_of_neg → DH, take_sublist → DL, drop_of_length_le → DR, length_drop → DV, getElem_map → DW, filterMap_cons → Ej, length_reverse → Ep, getElem_of_mem → Er, nodup_nil → Ew, pairwise_cons → E3, append_of_mem → E4, getElem?_drop → E6, nodup_iff_pairwise_ne → EB, flatMap_cons → EI, cons_append → EU, getElem_mem → EV, length_erase_of_mem → E_, any_map → Fb, length_eq_zero_iff → Fe, getLast?_cons_cons → Ff, of_mem_zip → Fh, forIn_cons → Fj, getElem?_set_self → Fn, range_succ_eq_map → Ft, length_pos_of_mem → Fx, forIn_nil → F8, drop_zero → FC, getElem?_set_ne → FH, mem_of_getLast? → FL, mem_iff_getElem → FN, length_eraseIdx → FO, getElem?_range → FV, map_congr_left → FY, flatMap_append → F_
open List.Perm renaming refl → DD
open List.cons renaming injEq → Dv
open Nat renaming le_refl → Af, le_trans → A2, ne_of_lt → A5, lt_of_lt_of_le → AB, zero_le → AC, le_of_lt → Bo, lt_of_le_of_lt → BO, lt_trans → Cm, ne_of_gt → Cy, lt_irrefl → C5, le_add_right → C9, not_lt_zero → CI, lt_succ_self → CT, lt_or_ge → CU, le_succ → Dr, mod_lt → DE, lt_succ_of_lt → DN, zero_add → Eh, sub_zero → EX, add_le_add_left → FU
open Ne renaming symm → CF
open Option renaming map_some → Ec, isSome_iff_exists → EO, getD_none → EQ, some_ne_none → FX
open Option.some renaming inj → A4
open PyProof.Rows renaming seqObj → Be, callWith_type1 → Bx, slot_tuple_getitem → BA, callWith_builtin1 → CZ, subscriptTail_builtinR → Fo
open PyProof.Rows.F renaming plain_set_update_loop → CC, entry_set_update_loop → D9
open PySem renaming wpAny_bind → Aa, wpAny_pure → Ac, wpAny_mono → Av, sizeLine → Aw, wpAny_loadPart' → A1, starEach → A6, mainGlobals → A9, wpAny_holding → AN, bootBuiltins → AQ, wpAny_call_entry → AR, Program → AU, SetTable → AV, compareOp → AY, wpAny_seqItems → Bc, wpAny_truthy_bool → Bf, wpAny_newObj_type → Bh, wpAny_callSpecial?_slot → Bm, Around → Bn, foldedSetIterable → Bp, wpAny_Call_Name_kw → Bs, wpAny_field → Bt, wpAny_standAt → Bu, FuncData → Bv, wpAny_forIn_list → Bw, wpAny_richCompare_same_room → Bz, sysModules → BH, letOwnedTupleGo → BL, cellsFrom → BN, codeAny_mono → BS, wpAny_specialOf → BW, codeAny_builtin → BX, wpAny_comprehension_free → Cc, wpAny_rule → Cf, compStart → Cr, wpAny_dictEntries → C4, wpAny_typeNameOfWhole_keyiter → C7, wpAny_setField_rec → CB, wpAny_passesOwn → CG, plainId_quiet → CJ, wpAny_setState_of → CM, wpAny_isInstance → CS, wpAny_typeNameOf_keyiter → CV, mem_of_lookup → CW, wpAny_typeOf → Dg, codeAny_call_builtin → Dn, wpAny_callSpecialIfBoundUnlessNone?_slot → Dp, wpAny_dictEpoch → Du, wpAny_attempt → DU, wpAny_execs_nil → Eb, codeAny_loop → Ed, wpAny_updateSeq_pair → Ef, codeAny_of_tree → Eg, wpAny_setField → Et, wpAny_letGo → Ex, wpAny_noted → Ey, wpAny_pyIter_tuple → Ez, wpAny_tupleItemsOf → E5, wpAny_onRaise → EA, wpAny_pyIter_list → ED, wpAny_sequenceKey → EE, slot_list_getitem → EF, wpAny_call → EK, wpAny_getItem_list_slice → ER, wpAny_askSetting → EY, wpAny_of_eq → Fq, codeAny_compStart_list → Fs, codeAny_compStart_dict → Fu, wpAny_listPart → F7
open PySem.Around renaming in1_units → AS, under_plainId → BD
open PySem.AutoSeq1 renaming sub_list_list → DQ, sub_tuple_tuple → EZ
open PySem.Builtin.Dict renaming showsAll → DZ, dictSlotArgs → EM, samePairs → Fw
open PySem.Builtin.Dict_items renaming ownsTuple → Eu
open PySem.Builtin.Int renaming intBits → Eo
open PySem.Builtin.List renaming listSubscript? → E1, listAllItems → EL, listTooLong → ES, listSameRef → ET
open PySem.Builtin.Range renaming rangeSize → Fc
open PySem.Builtin.Slice renaming slicePlaces → CO, sliceAdjust → Ds, sliceApplied → E8
open PySem.Builtin.SmallTypes renaming nextOf → Br, ownedTupleIsFree → Cg, ownedTupleHandOut → D7
open PySem.Builtin.Str renaming strSliceIndices → AM
open PySem.Builtin.Tuple renaming tupleCompareSizes → Cv, tupleExact → CQ, tupleItemsOf → Dq, tupleHashOf → Dw
open PySem.Calls renaming spliced_cons → D0, spliced_nil → DK, Name_function_global → E7
open PySem.F renaming plainAttrs_list → AL, slot_list_append → AW, type_list_append → AX, slot_dict_keyiterator_next → BI, slot_tuple_hash → Cj, slot_tuple_iterator_next → Cp, slot_NoneType_hash → CK, slot_zip_next → Dj, slot_tuple_eq → Dl, args_tuple_add_2 → D2, args_dict_keyiterator_next_1 → D8, entry_dict_keyiterator_next → DC, entry_tuple_add → DF, args_tuple_iterator_next_1 → DM, slot_tuple_add → DO, entry_tuple_iterator_next → DP, slot_list_pop → D_, type_list_pop → Ea, args_zip_next_1 → Fd, entry_zip_next → Fv, slot_dict_iter → Fy, plain_set_new → FB, slot_dict_eq → FM
open PySem.Heap renaming get?_push_of_some → Ae, lt_size → Ao, get?_push_size → Au, size_push → BK, SameBut → Cw, get?_update_self → Dh, get?_update_other → Fp, get?_none_of_le → FG, get?_update_ne → FW
open PySem.Heap.SameBut renaming update → BG
open PySem.Obj renaming mapSeq → AJ, data_mapFields → D6, isFreed_of_fields → F9
open PySem.PassesOwn renaming never → AT
open PySem.SeqAt renaming EqAt → DA
open PySem.SeqAt.EqAt renaming same → Dt, int_str → Dy, str_int → Dz, none_int → Ek, none_str → El, int_none → Em, str_none → En, none_bool → FI, bool_none → FJ, bool_bool → FK, bool_int → FQ, bool_str → FR, int_bool → FS, str_bool → FT
open PySem.SeqAt.RcAt renaming lists_lengths → D5
open PySem.SeqAt.RcNeAt renaming lists_lengths → E9
open PySem.SetTable renaming below → Bj, insertAt_perm → DS, advance → DX, grown → FD, sameMemory → FZ
open PySem.Str renaming ofString → Ca
open PySem.Value renaming isStrOf → DT, isStrOf_shape → FP
open PySem.W renaming Frag → Ad, kia_one → BM, kia_tup → BZ, cellsFrom_some → CA, fnOf → Df, kitx_list → DI, kitx_dict → DJ, keepIn → Es, methodObj → EC, instObj → Fg, OpenLaw → Fi, lookIn → Fz, codeIn → F6
open PySem.W.KFB renaming if_not → E2
variable{s:PySem.Shared}{w:PySem.World}{A:PySem.Around}{E:PySem.Value→PySem.Shared→Prop}{pins:List (PySem.Addr×PySem.Obj)}{prog:PySem.Program}{pos:PySem.Pos}{h:PySem.Heap}{a:PySem.Addr}{b:PySem.Addr}{i:Nat}{n:Nat}{us:List PySem.Value}{P:PySem.Program}{u:PySem.Value}{e:PySem.Expr}{scope:PySem.Scope}
open PySem PySem.Spec PyProof.Rows
set_option Elab.async false
set_option linter.all false
set_option maxRecDepth 100000
namespace L2
abbrev Iq:=Sum Int Str
def LY:Iq→Value→Bool
 | .inl k,v=>Value.isInt k v
 | .inr x,v=>DT x v
def Q8(w:World):Iq→Int
 | .inl k=>hashInt k
 | .inr x=>hashStr w x
theorem KM:∀{k:Iq}{v:Value},LY k v=true→(∃i t,k=Sum.inl i∧v=Value.int i t)∨(∃x t,k=Sum.inr x∧v=Value.str x t)
 | .inl i,v,h=>by obtain⟨t,e⟩:=Value.isInt_shape (k:=i) (v:=v) h;exact .inl ⟨i,t,rfl,e⟩
 | .inr x,v,h=>by obtain⟨t,e⟩:=FP (x:=x) (v:=v) h;exact .inr ⟨x,t,rfl,e⟩
theorem TK(i:Int)(t:Tok):LY (.inl i) (.int i t)=true:=by simp[LY,Value.isInt]
theorem TL(x:Str)(t:Tok):LY (.inr x) (.str x t)=true:=by simp[LY,DT]
theorem VQ(a b:Int):decide ((Sum.inl a:Iq)=Sum.inl b)=(a==b):=by
 by_cases e:a=b
 · subst e;simp
 · have h:¬(Sum.inl a:Iq)=Sum.inl b:=λq=>e (Sum.inl.inj q);rw[decide_eq_false h];exact(beq_eq_false_iff_ne.mpr e).symm
theorem Vm(a b:Str):decide ((Sum.inr a:Iq)=Sum.inr b)=decide (a=b):=by
 by_cases e:a=b
 · subst e;simp
 · have h:¬(Sum.inr a:Iq)=Sum.inr b:=λq=>e (Sum.inr.inj q);rw[decide_eq_false h,decide_eq_false e]
theorem VR(a:Int)(b:Str):decide ((Sum.inl a:Iq)=Sum.inr b)=false:=decide_eq_false (λq=>nomatch q)
theorem VS(a:Str)(b:Int):decide ((Sum.inr a:Iq)=Sum.inl b)=false:=decide_eq_false (λq=>nomatch q)
def Ka(prog:AU)(w:World):PySem.KeyKind prog w Iq where
 is:=LY
 hash:=Q8 w
 inj:=λv a b ha hb=>by
  rcases KM ha with⟨i,t,rfl,rfl⟩ | ⟨x,t,rfl,rfl⟩
  · rcases KM hb with⟨j,u,rfl,e⟩ | ⟨y,u,rfl,e⟩
    · injection e with e1 _;rw[e1]
    · exact nomatch e
  · rcases KM hb with⟨j,u,rfl,e⟩ | ⟨y,u,rfl,e⟩
    · exact nomatch e
    · injection e with e1 _;rw[e1]
 byValue:=λk v h=>by rcases KM h with⟨i,t,rfl,rfl⟩ | ⟨x,t,rfl,rfl⟩<;>rfl
 pyHash:=λhv h=>by
  rcases KM hv with⟨i,t,rfl,rfl⟩ | ⟨x,t,rfl,rfl⟩
  · exact wpAny_pyHash_int h
  · exact wpAny_pyHash_str h
 eqBool:=λhu hv h=>by
  rcases KM hu with⟨i,t,rfl,rfl⟩ | ⟨x,t,rfl,rfl⟩
  · rcases KM hv with⟨j,u,rfl,rfl⟩ | ⟨y,u,rfl,rfl⟩
    · rw[VQ] at h;exact wpAny_eqBool_int h
    · rw[VR] at h;exact Dy i t y u _ _ _ _ h
  · rcases KM hv with⟨j,u,rfl,rfl⟩ | ⟨y,u,rfl,rfl⟩
    · rw[VS] at h;exact Dz x t j u _ _ _ _ h
    · rw[Vm] at h;exact wpAny_eqBool_str h
 «strs»:=λk x t v h=>by
  rcases KM h with⟨i,u,rfl,e⟩ | ⟨y,u,rfl,e⟩
  · exact nomatch e
  · injection e with e1 _
    subst e1;cases v<;>rfl
theorem ZH(prog:AU)(w:World)(i:Int)(t:Tok):(Ka prog w).is (.inl i) (.int i t)=true:=TK i t
theorem ZI(prog:AU)(w:World)(x:Str)(t:Tok):(Ka prog w).is (.inr x) (.str x t)=true:=TL x t
inductive V where
 | non | bl (b:Bool) | int (i:Int) | str (x:Str) | byt (b:Array UInt8) | flt (b:UInt64) | ref (a:Addr) | ty (n:String)
 deriving DecidableEq
def RelV:V→Value→Prop
 | .non,u=>u=Value.none
 | .bl b,u=>u=Value.bool b
 | .int i,u=>∃t,u=Value.int i t
 | .str x,u=>∃t,u=Value.str x t
 | .byt b,u=>∃t,u=Value.bytes b t
 | .flt b,u=>∃t,u=Value.float b t
 | .ref a,u=>u=Value.ref a
 | .ty n,u=>u=Value.type n
abbrev Vals:List V→List Value→Prop:=Paired RelV
theorem Vals.length{xs:List V}(r:Vals xs us):xs.length=us.length:=Paired.length r
theorem Vals.get:∀{xs:List V}{us:List Value}{i:Nat}{x:V},Vals xs us→xs[i]?=some x→∃u,us[i]?=some u∧RelV x u
 | _,_,_,_,.nil,e=>by simp at e
 | _,_,0,_,.cons r _,e=>by simp at e;subst e;exact⟨_,rfl,r⟩
 | _,_,i+1,x,.cons _ t,e=>by obtain⟨u,h1,h2⟩:=Vals.get (i:=i) (x:=x) t (by simpa using e);exact⟨u,by simpa using h1,h2⟩
theorem Vals.set{x:V}(r:RelV x u):∀{xs:List V}{us:List Value}(i:Nat),Vals xs us→Vals (xs.set i x) (us.set i u)
 | _,_,_,.nil=> .nil
 | _,_,0,.cons _ t=> .cons r t
 | _,_,i+1,.cons q t=> .cons q (Vals.set r i t)
theorem Vals.append:∀{xs ys:List V}{us ws:List Value},Vals xs us→Vals ys ws→Vals (xs++ys) (us++ws)
 | _,_,_,_,.nil,s=>s
 | _,_,_,_,.cons r t,s=> .cons r (Vals.append t s)
theorem Vals.take:∀{xs:List V}{us:List Value}(n:Nat),Vals xs us→Vals (xs.take n) (us.take n)
 | _,_,0,_=> .nil
 | _,_,_+1,.nil=> .nil
 | _,_,n+1,.cons r t=> .cons r (Vals.take n t)
theorem Vals.drop:∀{xs:List V}{us:List Value}(n:Nat),Vals xs us→Vals (xs.drop n) (us.drop n)
 | _,_,0,r=>r
 | _,_,_+1,.nil=> .nil
 | _,_,n+1,.cons _ t=>Vals.drop n t
def RelO:Option V→Option Value→Prop
 | some v,some u=>RelV v u
 | none,none=>True
 | _,_=>False
def KV{κ:Type}:List (κ×V)→List (κ×Value)→Prop:=Paired λ(p:κ×V)(q:κ×Value)=>p.1=q.1∧RelV p.2 q.2
def kV:Iq→V
 | .inl i=> .int i
 | .inr x=> .str x
inductive HO where
 | lst (xs:List V)
 | tup (xs:List V)
 | dK (kvs:List (Iq×V)) | dT (kvs:List (List Iq×V))
 | set (S:Int→Bool) (n:Nat)
 | ins (C dx:Addr) (fs:List (Str×V))
 | own (x:Addr)
 | xd (fs:List (Str×V))
 | met (f x:Addr)
 | rng (lo hi:Int)
 | frz (o:Obj) (u:HO)
 | tbl (ps:Array Value)
 | ext (φ:Heap→Prop)
def IsTupP(h:Heap)(a:Addr)(items:Array Value):Prop:=∃o,h.get? a=some o∧o.cls= .type "tuple"∧o.dict=none∧∃n,o.data= .seq items n
theorem IsTupP.tup{items:Array Value}(x:IsTupP h a items):IsTup h a items:=let⟨o,h1,h2,_,h3⟩:=x;⟨o,h1,h2,h3⟩
theorem IsTupP.new(h:Heap)(items:Array Value):IsTupP (h.push {cls:= .type "tuple",data:= .seq items}) h.objs.size items:=⟨_,Au _ rfl,rfl,rfl,_,rfl⟩
abbrev Hp:=Addr→Option HO
def HD(H:Hp)(a:Addr)(o:HO):Hp:=λb=>if b=a then some o else H b
theorem HH{H:Hp}{o:HO}:HD H a o a=some o:=by unfold HD;rw[if_pos rfl]
theorem HV{H:Hp}{o:HO}(h:b≠a):HD H a o b=H b:=by unfold HD;rw[if_neg h]
theorem Mt{H:Hp}{o u:HO}(h:H a=some o)(h':H b=some u)(d:o≠u):a≠b:=by intro e;subst e;rw[h] at h';exact d (A4 h')
theorem IT{H:Hp}{o:HO}(h:H a=some o)(h':H b=none):a≠b:=by intro e;subst e;rw[h] at h';cases h'
section
variable(P:AU)(w:World)
def ObjOk(H:Hp)(h:Heap)(a:Addr):HO→Prop
 | .lst xs=>xs.length≤Aw∧∃(its:List Value)(n:Nat),Vals xs its∧h.get? a=some {cls:= .type "list",data:= .seq its.toArray n}
 | .tup xs=>xs.length≤Aw∧∃its:List Value,Vals xs its∧IsTupP h a its.toArray
 | .dK kvs=>kvs.length≤Aw∧(a==BH)=false∧∃vs,KV kvs vs∧h.DictOf (Ka P w) a vs
 | .dT kvs=>kvs.length≤Aw∧(a==BH)=false∧∃xs:List (List Iq×Addr×Value),
  Paired (λ(p:List Iq×V)(q:List Iq×Addr×Value)=>p.1=q.1∧H q.2.1=some (.tup (p.1.map kV))∧RelV p.2 q.2.2) kvs xs∧
  ∃o es ep,h.get? a=some o∧o.ExactDict∧o.data= .dict es ep∧es.toList=xs.map (entryOfKey (tupleKind (Ka P w)))∧(xs.map (·.1)).Nodup
 | .set S n=>h.SetOf (intKind P w) a S n
 | .ins C dx fs=>H dx=some (.own a)∧fs.length≤1000∧dx≠a∧h.get? a=some (Fg C dx)∧
  ∃mA,h.Ns1 dx mA∧(∀f,RelO (fs.lookup f) (mA f))∧PySem.Within mA (fs.map (·.1))
 | .own _=>∃o,h.get? a=some o
 | .xd fs=>∃mA,h.Ns1 a mA∧∀f,RelO (fs.lookup f) (mA f)
 | .rng lo hi=>∃t u v,h.get? a=some {cls:= .type "range",data:= .fields #[.int lo t,.int hi u,.int 1 v]}
 | .frz o u=>h.get? a=some o∧ObjOk H h a u
 | .tbl ps=>h.get? a=some {cls:= .none,data:= .fields ps}
 | .met f x=>h.get? a=some (EC (.ref f) (.ref x))
 | .ext φ=>φ h∧(∃o,h.get? a=some o)∧∀h1 h2:Heap,φ h1→(∀o,h1.get? a=some o→h2.get? a=some o)→φ h2
def HOk(H:Hp)(h:Heap):Prop:=∀a o,H a=some o→ObjOk P w H h a o
end
section
variable{H H':Hp}{h':Heap}{o:HO}
theorem ObjOk.lt(x:ObjOk P w H h a o):a<h.objs.size:=by
 cases o with
 | lst xs=>obtain⟨_,_,_,_,e⟩:=x;exact Ao e
 | tup xs=>obtain⟨_,_,_,p⟩:=x;exact(show IsTupP _ _ _ from p).tup.lt
 | dK kvs=>obtain⟨_,_,_,_,o,_,_,e,_⟩:=x;exact Ao e
 | dT kvs=>obtain⟨_,_,_,_,o,_,_,e,_⟩:=x;exact Ao e
 | set S n=>obtain⟨o,_,_,_,e,_⟩:=x;exact Ao e
 | ins C dx fs=>obtain⟨_,_,_,e,_⟩:=x;exact Ao e
 | own y=>obtain⟨_,e⟩:=x;exact Ao e
 | xd fs=>obtain⟨_,⟨_,_,_,e,_⟩,_⟩:=x;exact Ao e
 | rng lo hi=>obtain⟨_,_,_,e⟩:=x;exact Ao e
 | frz ob u=>obtain⟨e,_⟩:=x;exact Ao e
 | tbl ps=>exact Ao (show h.get? a=some _ from x)
 | met f y=>exact Ao (show h.get? a=some _ from x)
 | ext φ=>obtain⟨_,⟨_,e⟩,_⟩:=x;exact Ao e
theorem Paired.mapP{α β:Type}{F G:α→β→Prop}:∀{l₁:List α}{l₂:List β},Paired F l₁ l₂→(∀a b,F a b→G a b)→Paired G l₁ l₂
 | _,_,.nil,_=> .nil
 | _,_,.cons r t,f=> .cons (f _ _ r) (Paired.mapP t f)
theorem ObjOk.stay(x:ObjOk P w H h a o)(k:∀b u,(b=a∨H b=some (.own a))→h.get? b=some u→h'.get? b=some u)
 (ho:∀b,H b=some (.own a)→H' b=some (.own a)) (ht:∀b xs,H b=some (.tup xs)→H' b=some (.tup xs)):ObjOk P w H' h' a o:=by
 induction o with
 | lst xs=>obtain⟨z,its,n,r,e⟩:=x;exact⟨z,its,n,r,k _ _ (.inl rfl) e⟩
 | tup xs=>obtain⟨z,its,r,ob,e,c⟩:=x;exact⟨z,its,r,ob,k _ _ (.inl rfl) e,c⟩
 | dK kvs=>obtain⟨z,y,vs,r,ob,es,ep,e,c⟩:=x;exact⟨z,y,vs,r,ob,es,ep,k _ _ (.inl rfl) e,c⟩
 | dT kvs=> obtain⟨z,y,xs,r,ob,es,ep,e,c⟩:=x;exact⟨z,y,xs,Paired.mapP r λp q z=>⟨z.1,ht _ _ z.2.1,z.2.2⟩,ob,es,ep,k _ _ (.inl rfl) e,c⟩
 | set S n=>obtain⟨ob,es,ep,t,e,c⟩:=x;exact⟨ob,es,ep,t,k _ _ (.inl rfl) e,c⟩
 | ins C dx fs=> obtain⟨d,z,ne,e,mA,⟨od,es,ep,e2,c⟩,r⟩:=x;exact⟨ho _ d,z,ne,k _ _ (.inl rfl) e,mA,⟨od,es,ep,k _ _ (.inr d) e2,c⟩,r⟩
 | own y=>obtain⟨ob,e⟩:=x;exact⟨ob,k _ _ (.inl rfl) e⟩
 | xd fs=>obtain⟨mA,⟨od,es,ep,e,c⟩,r⟩:=x;exact⟨mA,⟨od,es,ep,k _ _ (.inl rfl) e,c⟩,r⟩
 | rng lo hi=>obtain⟨t,u,v,e⟩:=x;exact⟨t,u,v,k _ _ (.inl rfl) e⟩
 | frz ob u ih=>obtain⟨e,q⟩:=x;exact⟨k _ _ (.inl rfl) e,ih q⟩
 | tbl ps=> have e:h.get? a=some {cls:= .none,data:= .fields ps}:=x;show h'.get? a=some {cls:= .none,data:= .fields ps};exact k a _ (.inl rfl) e
 | met f y=> have e:h.get? a=some (EC (.ref f) (.ref y)):=x;show h'.get? a=some (EC (.ref f) (.ref y));exact k a _ (.inl rfl) e
 | ext φ=>obtain⟨p,⟨o,e⟩,st⟩:=x;exact⟨st _ _ p λo q=>k _ _ (.inl rfl) q,⟨o,k _ _ (.inl rfl) e⟩,st⟩
theorem HOk.lt(x:HOk P w H h)(e:H a=some o):a<h.objs.size:=(x a o e).lt
theorem HOk.fresh(x:HOk P w H h)(e:h.objs.size≤a):H a=none:=by
 cases q:H a with
 | none=>rfl
 | some u=>exact absurd (AB (x.lt q) e) (C5 _)
theorem HOk.kept(x:HOk P w H h)(k:∀b u,h.get? b=some u→h'.get? b=some u):HOk P w H h':=λa o e=>
 (x a o e).stay (λb u _ q=>k b u q) (λ_ q=>q) λ_ _ q=>q
theorem HOk.laid(x:HOk P w H h)(k:∀b u,h.get? b=some u→h'.get? b=some u)(hp:h.objs.size≤a)(new:ObjOk P w (HD H a o) h' a o):HOk P w (HD H a o) h':=λb u e=>by
 have hn:=x.fresh hp;by_cases hb:b=a
 · subst hb;rw[HH] at e;cases e;exact new
 · rw[HV hb] at e;exact(x b u e).stay (λc v _ q=>k c v q) (λc q=>by rw[HV (IT q hn)];exact q) λc xs q=>by rw[HV (IT q hn)];exact q
end
def Rd(H:Hp)(a:Addr)(u:HO):Prop:=H a=some u∨∃o,H a=some (.frz o u)
theorem Rd.ok{H:Hp}{u:HO}(r:Rd H a u)(x:HOk P w H h):ObjOk P w H h a u:=by
 rcases r with r | ⟨o,r⟩
 · exact x a u r
 · obtain⟨_,q⟩:=x a _ r;exact q
def Nk:Option HO→Prop
 | some (.lst _)=>True
 | some (.dK _)=>True
 | some (.dT _)=>True
 | some (.set _ _)=>True
 | some (.ins _ _ _)=>True
 | some (.ext _)=>True
 | _=>False
section
variable{H:Hp}{h':Heap}{x e:Addr}{o':HO}
theorem HOk.write(ok:HOk P w H h)(mu:Nk (H x))(he:e=x∨H e=some (.own x))(k:∀b u,b≠e→h.get? b=some u→h'.get? b=some u)(heo:∃u,h'.get? e=some u)
 (new:ObjOk P w (HD H x o') h' x o'):HOk P w (HD H x o') h':=λb u q=>by
 have nown:∀c y,H c=some (.own y)→c≠x:=λc y r z=>by subst z;rw[r] at mu;exact mu
 have ntup:∀c xs,H c=some (.tup xs)→c≠x:=λc xs r z=>by subst z;rw[r] at mu;exact mu
 by_cases hb:b=x
 · subst hb;rw[HH] at q;cases q;exact new
 · rw[HV hb] at q;by_cases hbe:b=e
   · have q':H b=some (.own x):=by
      rcases he with z | z
      · exact absurd (hbe.trans z) hb
      · rw[hbe];exact z
     rw[q] at q';cases q';obtain⟨v,hv⟩:=heo;exact⟨v,by rw[hbe];exact hv⟩
   · refine(ok b u q).stay (λc v hc r=>k c v ?_ r) (λc r=>by rw[HV (nown c b r)];exact r) λc xs r=>by rw[HV (ntup c xs r)];exact r
     rcases hc with rfl | hc
     · exact hbe
     · rintro rfl;rcases he with z | z
       · exact nown c b hc z
       · rw[hc] at z;cases z;exact hb rfl
end
structure Un(fs ex:List Addr)(H H':Hp)(h h':Heap):Prop where
 keep:∀b o,h.get? b=some o→H b=none→b ∉ fs→b ∉ ex→h'.get? b=some o
 slot:∀b o,h.get? b=some o→H b=none→b∈fs→b ∉ ex→∃sl,h'.get? b=some {o with slots:=sl}
 free:∀b o,h.get? b=some o→H b=none→b ∉ ex→H' b=none
 there:∀b o,h.get? b=some o→b ∉ ex→∃o',h'.get? b=some o'
 tups:∀b xs,H b=some (.tup xs)→H' b=some (.tup xs)
 frzs:∀b o u,H b=some (.frz o u)→H' b=some (.frz o u)
 tbls:∀b ps,H b=some (.tbl ps)→∃more,H' b=some (.tbl (ps++more))
section
variable{fs fs' ex ex':List Addr}{H H1 H2:Hp}{h1 h2 h':Heap}{x e:Addr}{o:HO}
theorem Un.any(u:Un fs ex H H1 h h1){ob:Obj}(q:h.get? b=some ob)(n:H b=none)(hx:b ∉ ex):∃sl,h1.get? b=some {ob with slots:=sl}:=by
 by_cases hb:b∈fs
 · exact u.slot b ob q n hb hx
 · exact⟨ob.slots,u.keep b ob q n hb hx⟩
theorem Un.kept(k:∀b u,h.get? b=some u→h'.get? b=some u):Un fs ex H H h h':=
 ⟨λb ob q _ _ _=>k b ob q,λb ob q _ _ _=>⟨ob.slots,k b ob q⟩,λ_ _ _ n _=>n,λb ob q _=>⟨ob,k b ob q⟩,λ_ _ q=>q,λ_ _ _ q=>q,λ_ ps q=>⟨#[],by rw[q];simp⟩⟩
theorem Un.refl:Un fs ex H H h h:=Un.kept λ_ _ q=>q
theorem Un.laid(k:∀b u,h.get? b=some u→h'.get? b=some u)(hp:h.objs.size≤a)(hn:H a=none):Un fs ex H (HD H a o) h h' where
 keep:=λb u q _ _ _=>k b u q
 slot:=λb u q _ _ _=>⟨u.slots,k b u q⟩
 free:=λb u q n _=>by rw[HV (A5 (AB (Ao q) hp))];exact n
 there:=λb u q _=>⟨u,k b u q⟩
 tups:=λb xs q=>by rw[HV (IT q hn)];exact q
 frzs:=λb u xs q=>by rw[HV (IT q hn)];exact q
 tbls:=λb ps q=>⟨#[],by rw[HV (IT q hn),q];simp⟩
theorem Un.write(mu:Nk (H x))(he:e=x∨H e=some (.own x))(k:∀b u,b≠e→h.get? b=some u→h'.get? b=some u)(heo:∃u,h'.get? e=some u):Un fs ex H (HD H x o) h h':=by
 have hx:∀b,H b=none→b≠x:=λb n z=>by subst z;rw[n] at mu;exact mu
 have hb:∀b,H b=none→b≠e:=λb n z=>by
  subst z;rcases he with r | r
  · exact hx b n r
  · rw[n] at r;cases r
 have hm:∀b u,H b=some u→¬Nk (some u)→b≠x:=λb u q nm z=>by subst z;rw[q] at mu;exact nm mu
 refine⟨λb u q n _ _=>k b u (hb b n) q,λb u q n _ _=>⟨u.slots,k b u (hb b n) q⟩,λb u q n _=>by rw[HV (hx b n)];exact n,λb u q _=>?_,
  λb xs q=>by rw[HV (hm b _ q λz=>z)];exact q,λb u xs q=>by rw[HV (hm b _ q λz=>z)];exact q,λb ps q=>⟨#[],by rw[HV (hm b _ q λz=>z),q];simp⟩⟩
 by_cases hbe:b=e
 · subst hbe;exact heo
 · exact⟨u,k b u hbe q⟩
end
def trk(h:Heap)(H:Hp):List Addr:=(AI h.objs.size).filter λa=>(H a).isSome
def Ju(h:Heap)(H:Hp):Heap:=PySem.W.hideAll h (trk h H)
theorem Yq(h:Heap)(H:Hp):(Ju h H).objs.size=h.objs.size:=PySem.W.hideAll_size _ _
theorem XT{H:Hp}{o:Obj}(e:h.get? b=some o)(n:H b=none):(Ju h H).get? b=some o:=
 PySem.W.hideAll_get _ e λhm=>by have q:(H b).isSome=true:=(BB.mp hm).2;rw[n] at q;simp at q
theorem Wd{H:Hp}{o:Obj}(e:(Ju h H).get? b=some o):h.get? b=some o∧H b=none:=by
 have e':h.get? b=some o:=PySem.W.of_hideAll (trk h H) e;refine⟨e',?_⟩;cases q:H b with
 | none=>rfl
 | some x=> have hm:b∈trk h H:=List.mem_filter.mpr ⟨BJ.mpr (Ao e'),by simp[q]⟩;have z:(Ju h H).get? b=none:=PySem.W.hideAll_none (trk h H) hm;rw[z] at e;cases e
def W8(g h:Heap)(L:Addr):List (Addr×Obj):=(AI h.objs.size).filterMap λa=>if a=L∨(g.get? a).isSome=true then none else(h.get? a).map λo=>(a,o)
def HI(g h:Heap)(L d:Addr):List (Addr×Obj):=(W8 g h L).filter λp=>decide (p.1≠d)
structure Mod(K:Ad)(mg:Str→Option Value)(base:Heap):Prop where
 kin:K.In base
 glob:base.Ns A9 mg
 blt:∃mb,base.Ns builtinsNs mb∧∀x:Str,x≠"__name__"→mb x=AQ x
 nolimit:base.NoLimit
structure Cx where
 prog:AU
 w:World
 K:Ad
 mg:Str→Option Value
 base:Heap
 A:Bn
 N:List Str
 s₀:Shared
 H₀:Hp
 env:Env
 outer:List Env
 stack:List Env
 ex:List Addr
 fn:Str→Bool
 calm:Bool
 pn:List (Addr×Obj)
 xe:Value→Shared→Prop
def Ks(l:List Env):List Addr:=l.filterMap (·.frame)
abbrev Cx.fs(X:Cx):List Addr:=Ks X.outer
def Oi(sc:Scope)(x:Str):Prop:=sc.names.lookup x=some .local∨sc.names.lookup x=some .cell∨sc.names.lookup x=some .free
def Nl(sc:Scope)(x:Str):Prop:=sc.names.lookup x=some .local∨sc.names.lookup x=some .cell
def QK(env:Env)(h:Heap)(m:Str→Option Value)(x:Str)(u:Value):Prop:=
 (env.kindOf x=some .local∧m x=some u)∨((env.kindOf x=some .cell∨env.kindOf x=some .free)∧∃c,env.cells.lookup x=some c∧h.IsCell c (some u))
structure Cx.Ok(X:Cx):Prop where
 mod:Mod X.K X.mg X.base
 kind:X.env.scope.kind= .function
 glob:X.env.globals=A9
 blt:X.env.builtins=builtinsNs
 above:X.s₀.heap.objs.size≤X.env.locals
 inj:∀x y c,X.env.cells.lookup x=some c→X.env.cells.lookup y=some c→x=y
 has:∀x,(X.env.kindOf x=some .cell∨X.env.kindOf x=some .free)→∃c,X.env.cells.lookup x=some c
 cab:∀x c,X.fn x=true→X.env.cells.lookup x=some c→X.s₀.heap.objs.size≤c
 hd:X.calm=true→X.A.handled=none
 frames:X.A.frames=some X.stack
 stk:X.stack=X.outer∨(X.stack=X.env::X.outer∧X.env.frame=some X.env.locals)
 exf:∀b∈X.ex,b≠X.env.locals∧∀x c,X.env.cells.lookup x=some c→c≠b
 bs:∀b o,X.base.get? b=some o→X.s₀.heap.get? b=some o∧X.H₀ b=none
 bsz:X.base.objs.size≤X.s₀.heap.objs.size
 noex:∀b o,X.base.get? b=some o→b ∉ X.ex
 exfs:∀b∈X.ex,b ∉ X.fs
 funs:X.s₀.heap.FunFrames X.base X.outer
 frf:∀b∈X.fs,X.H₀ b=none
structure Inv(X:Cx)(pins:List (Addr×Obj))(σ:List (Option V))(H:Hp)(s:Shared):Prop where
 ok:X.Ok
 os:s.os=X.s₀.os
 bare:AllBare s.gens
 base:Un X.fs X.ex X.H₀ H X.s₀.heap s.heap
 loc:∃m,s.heap.Ns X.env.locals m∧∀(i:Nat)(x:Str)(v:V),X.N[i]?=some x→σ[i]?=some (some v)→Oi X.env.scope x→∃u,RelV v u∧QK X.env s.heap m x u
 cell:∀x c,X.env.cells.lookup x=some c→∃v,s.heap.IsCell c v
 free:H X.env.locals=none
 freeC:∀x c,X.env.cells.lookup x=some c→H c=none
 pin:∀p∈X.pn++pins,s.heap.get? p.1=some p.2∧H p.1=none∧p.1≠X.env.locals∧p.1 ∉ X.fs∧∀v,p.2.data≠ .cell v
 hok:HOk X.prog X.w H s.heap
 len:σ.length=X.N.length
section
variable{X:Cx}{σ:List (Option V)}{H H':Hp}{h':Heap}
theorem Cx.Ok.nofr(ok:X.Ok){o:Obj}(e:X.base.get? b=some o):b ∉ X.fs:=λhb=>by have:=(ok.funs.mem hb).1;rw[e] at this;cases this
theorem Inv.bs(I:Inv X pins σ H s):∀b o,X.base.get? b=some o→s.heap.get? b=some o∧H b=none:=λb o e=>
 ⟨I.base.keep b o (I.ok.bs b o e).1 (I.ok.bs b o e).2 (I.ok.nofr e) (I.ok.noex b o e),I.base.free b o (I.ok.bs b o e).1 (I.ok.bs b o e).2 (I.ok.noex b o e)⟩
theorem Inv.bk(I:Inv X pins σ H s):∀b o,X.base.get? b=some o→s.heap.get? b=some o:=λb o e=>(I.bs b o e).1
theorem Inv.mod(I:Inv X pins σ H s):Mod X.K X.mg X.base:=I.ok.mod
theorem Inv.kIn(I:Inv X pins σ H s):X.K.In s.heap:=I.ok.mod.kin.keeps I.bk
theorem Inv.lt(I:Inv X pins σ H s):X.env.locals<s.heap.objs.size:=let⟨_,hn,_⟩:=I.loc;hn.lt
theorem Inv.sz(I:Inv X pins σ H s):X.s₀.heap.objs.size≤s.heap.objs.size:=A2 I.ok.above (Bo I.lt)
theorem Inv.nofs(I:Inv X pins σ H s)(h:s.heap.objs.size≤a):a ∉ X.fs:=λhb=>by obtain⟨_,o,ho,_⟩:=I.ok.funs.mem hb;exact absurd (AB (Ao ho) (A2 I.sz h)) (C5 _)
theorem Inv.cne(I:Inv X pins σ H s):∀x c,X.env.cells.lookup x=some c→c≠X.env.locals:=λx c e z=>by obtain⟨v,o,ho,hd⟩:=I.cell x c e;obtain⟨m,⟨o',es,ep,ho',hd',_⟩,_⟩:=I.loc;rw[z,ho'] at ho;cases ho;rw[hd'] at hd;cases hd
theorem Inv.funs(I:Inv X pins σ H s):s.heap.FunFrames X.base X.outer:=by
 have all:∀(l:List Env),(∀b∈Ks l,b∈X.fs)→X.s₀.heap.FunFrames X.base l→s.heap.FunFrames X.base l:=by
  intro l
  induction l with
  | nil=>intro _ _;trivial
  | cons env r ih=> intro hs hl;obtain⟨hk,⟨L,o,hf,hn,ho,hd⟩,hr⟩:=hl;have hL:L∈X.fs:=hs L (by unfold Ks;rw[Ej,hf];exact Ah);obtain⟨sl,e⟩:=I.base.slot L o ho (I.ok.frf L hL) hL λz=>I.ok.exfs L z hL;exact⟨hk,⟨L,_,hf,hn,e,hd⟩,ih (λb hb=>hs b (by unfold Ks;rw[Ej,hf];exact Ai _ hb)) hr⟩
 exact all X.outer (λ_ hb=>hb) I.ok.funs
theorem Inv.stack(I:Inv X pins σ H s):s.heap.FunFrames X.base X.stack:=by
 rcases I.ok.stk with e | ⟨e,hf⟩
 · rw[e];exact I.funs
 · rw[e];obtain⟨m,hn,_⟩:=I.loc;refine .cons (by rw[I.ok.kind];decide) hf hn ?_ I.funs;exact FG (A2 I.ok.bsz I.ok.above)
theorem Inv.stkSub(I:Inv X pins σ H s):∀b∈Ks X.stack,b∈X.env.locals::X.fs:=λb hb=>by
 rcases I.ok.stk with e | ⟨e,hf⟩
 · rw[e] at hb;exact Ai _ hb
 · rw[e] at hb;unfold Ks at hb;rw[Ej,hf] at hb;exact hb
theorem Inv.stkFree(I:Inv X pins σ H s):∀b∈Ks X.stack,H b=none:=λb hb=>by
 rcases As.mp (I.stkSub b hb) with e | hb
 · rw[e];exact I.free
 · obtain⟨_,o,ho,_⟩:=I.ok.funs.mem hb;exact I.base.free b o ho (I.ok.frf b hb) λz=>I.ok.exfs b z hb
theorem Inv.step{g':Array GenState}{t':Nat}{d':Drawn}{ch:List Addr}(I:Inv X pins σ H s)
 (hch:∀b∈ch,(b∈X.ex∨X.s₀.heap.objs.size≤b)∧b≠X.env.locals∧(∀x c,X.env.cells.lookup x=some c→c≠b)∧∀p∈X.pn++pins,p.1≠b)
 (keep:∀b o,b≠X.env.locals→b ∉ X.fs→b ∉ ch→s.heap.get? b=some o→H b=none→h'.get? b=some o)
 (slot:∀b o,b≠X.env.locals→b∈X.fs→b ∉ ch→s.heap.get? b=some o→H b=none→∃sl,h'.get? b=some {o with slots:=sl}) (free:∀b o,b ∉ ch→s.heap.get? b=some o→H b=none→H' b=none)
 (there:∀b o,b ∉ ch→s.heap.get? b=some o→∃o',h'.get? b=some o')
 (tups:∀b xs,H b=some (.tup xs)→H' b=some (.tup xs)) (frzs:∀b o u,H b=some (.frz o u)→H' b=some (.frz o u)) (tbls:∀b ps,H b=some (.tbl ps)→∃more,H' b=some (.tbl (ps++more)))
 (ns:∀m,s.heap.Ns X.env.locals m→h'.Ns X.env.locals m) (hok:HOk X.prog X.w H' h') (hg:AllBare g'):
 Inv X pins σ H' {s with heap:=h',gens:=g',drawn:=d',toks:=t'}:=by
 have neL:∀b o,X.s₀.heap.get? b=some o→b≠X.env.locals:=λb o e=>A5 (AB (Ao e) I.ok.above);have neC:∀b o,X.s₀.heap.get? b=some o→b ∉ X.ex→b ∉ ch:=λb o e hx hb=>by
  rcases(hch b hb).1 with z | z
  · exact hx z
  · exact absurd (AB (Ao e) z) (C5 _)
 have cellK:∀x c,X.env.cells.lookup x=some c→∀v,s.heap.IsCell c v→h'.IsCell c v:=λx c e v ⟨o,ho,hd⟩=>by
  have nch:c ∉ ch:=λz=>(hch c z).2.2.1 x c e rfl;by_cases hc:c∈X.fs
  · obtain⟨sl,q⟩:=slot c o (I.cne x c e) hc nch ho (I.freeC x c e);exact⟨_,q,hd⟩
  · exact⟨o,keep c o (I.cne x c e) hc nch ho (I.freeC x c e),hd⟩
 refine⟨I.ok,I.os,hg,⟨λb o e n hb hx=>?_,λb o e n hb hx=>?_,λb o e n hx=>?_,λb o e hx=>?_,λb xs e=>tups b xs (I.base.tups b xs e),λb o xs e=>frzs b o xs (I.base.frzs b o xs e),λb ps e=>?_⟩,?_,λx c e=>?_,?_,λx c e=>?_,λp hp=>?_,hok,I.len⟩
 · exact keep b o (neL b o e) hb (neC b o e hx) (I.base.keep b o e n hb hx) (I.base.free b o e n hx)
 · obtain⟨sl,e1⟩:=I.base.slot b o e n hb hx;obtain⟨sl',e2⟩:=slot b _ (neL b o e) hb (neC b o e hx) e1 (I.base.free b o e n hx);exact⟨sl',e2⟩
 · obtain⟨o',e1⟩:=I.base.there b o e hx;exact free b o' (neC b o e hx) e1 (I.base.free b o e n hx)
 · obtain⟨o',e1⟩:=I.base.there b o e hx;exact there b o' (neC b o e hx) e1
 · obtain⟨m1,e1⟩:=I.base.tbls b ps e;obtain⟨m2,e2⟩:=tbls b _ e1;exact⟨m1++m2,by rw[e2,Array.append_assoc]⟩
 · obtain⟨m,hn,hl⟩:=I.loc;refine⟨m,ns m hn,λi x v e1 e2 e3=>?_⟩;obtain⟨u,r,l⟩:=hl i x v e1 e2 e3;refine⟨u,r,?_⟩;rcases l with l | ⟨k,c,e,z⟩
   · exact .inl l
   · exact .inr ⟨k,c,e,cellK x c e _ z⟩
 · obtain⟨v,z⟩:=I.cell x c e;exact⟨v,cellK x c e v z⟩
 · obtain⟨m,⟨o,_,_,ho,_⟩,_⟩:=I.loc;exact free _ o (λz=>(hch _ z).2.1 rfl) ho I.free
 · obtain⟨v,o,ho,hd⟩:=I.cell x c e;exact free c o (λz=>(hch c z).2.2.1 x c e rfl) ho (I.freeC x c e)
 · obtain⟨e,n,ne,nf,d⟩:=I.pin p hp;have nch:p.1 ∉ ch:=λz=>(hch p.1 z).2.2.2 p hp rfl;exact⟨keep p.1 p.2 ne nf nch e n,free p.1 p.2 nch e n,ne,nf,d⟩
theorem Inv.un{t':Nat}(I:Inv X pins σ H s)(u:Un X.fs [] H H' s.heap h')(hok:HOk X.prog X.w H' h'):Inv X pins σ H' {s with heap:=h',toks:=t'}:=by obtain⟨m,⟨o,es,ep,ho,r⟩,_⟩:=id I.loc;obtain⟨sl,hL⟩:=u.any ho I.free (by simp);exact I.step (g':=s.gens) (d':=s.drawn) (ch:=[]) (λ_ z=>nomatch z) (λb o _ hb _ e n=>u.keep b o e n hb (by simp)) (λb o _ hb _ e n=>u.slot b o e n hb (by simp)) (λb o _ e n=>u.free b o e n (by simp)) (λb o _ e=>u.there b o e (by simp)) u.tups u.frzs u.tbls (λm' hm=>by obtain⟨o',es',ep',ho',r'⟩:=hm;rw[ho] at ho';cases ho';exact⟨_,es',ep',hL,r'⟩) hok I.bare
theorem Inv.call{g':Array GenState}{t':Nat}{d':Drawn}{ch:List Addr}(I:Inv X pins σ H s)(u:Un (Ks X.stack) ch H H' s.heap h')(hok:HOk X.prog X.w H' h')(hg:AllBare g')
 (hch:∀b∈ch,(b∈X.ex∨X.s₀.heap.objs.size≤b)∧b≠X.env.locals∧(∀x c,X.env.cells.lookup x=some c→c≠b)∧∀p∈X.pn++pins,p.1≠b):
 Inv X pins σ H' {s with heap:=h',gens:=g',drawn:=d',toks:=t'}:=by
 obtain⟨m,⟨o,es,ep,ho,r⟩,_⟩:=id I.loc;obtain⟨sl,hL⟩:=u.any ho I.free λz=>(hch _ z).2.1 rfl;exact I.step (ch:=ch) hch (λb o hL hb hc e n=>u.keep b o e n (λz=>(As.mp (I.stkSub b z)).elim hL hb) hc) (λb o _ _ hc e n=>u.any e n hc) (λb o hc e n=>u.free b o e n hc) (λb o hc e=>u.there b o e hc) u.tups u.frzs u.tbls (λm' hm=>by obtain⟨o',es',ep',ho',r'⟩:=hm;rw[ho] at ho';cases ho';exact⟨_,es',ep',hL,r'⟩) hok hg
theorem Inv.turned{t':Nat}{it:Addr}(I:Inv X pins σ H s)(k:∀b o,b≠it→s.heap.get? b=some o→h'.get? b=some o)(hn:H it=none)(hL:it≠X.env.locals)
 (h1:it∈X.ex∨X.s₀.heap.objs.size≤it) (h2:∀x c,X.env.cells.lookup x=some c→c≠it) (h3:∀p∈X.pn++pins,p.1≠it):Inv X pins σ H {s with heap:=h',toks:=t'}:=by
 have nit:∀b u,H b=some u→b≠it:=λb u e z=>by rw[z,hn] at e;cases e
 refine I.step (g':=s.gens) (d':=s.drawn) (ch:=[it]) (λb hb=>?_) (λb o _ _ hc e _=>k b o (λz=>hc (by simp[z])) e) (λb o _ _ hc e _=>⟨o.slots,k b o (λz=>hc (by simp[z])) e⟩) (λ_ _ _ _ n=>n)
  (λb o hc e=>⟨o,k b o (λz=>hc (by simp[z])) e⟩) (λ_ _ e=>e) (λ_ _ _ e=>e) (λb ps e=>⟨#[],by rw[e];simp⟩) (λm hm=>?_) (λb u e=>?_) I.bare
 · have e:b=it:=by simpa using hb
   subst e;exact⟨h1,hL,h2,h3⟩
 · obtain⟨o,es,ep,ho,r⟩:=hm;exact⟨o,es,ep,k _ o (CF hL) ho,r⟩
 · refine(I.hok b u e).stay (λc v hc q=>k c v ?_ q) (λ_ q=>q) λ_ _ q=>q;rcases hc with z | z
   · rw[z];exact nit b u e
   · exact nit c _ z
theorem Inv.tok(I:Inv X pins σ H s)(t:Nat):Inv X pins σ H {s with toks:=t}:=I.un (h':=s.heap) (t':=t) Un.refl I.hok
theorem Inv.kept{t':Nat}(I:Inv X pins σ H s)(k:∀b u,s.heap.get? b=some u→h'.get? b=some u):Inv X pins σ H {s with heap:=h',toks:=t'}:=I.un (Un.kept k) (I.hok.kept k)
theorem Inv.laid{o:HO}{t':Nat}(I:Inv X pins σ H s)(k:∀b u,s.heap.get? b=some u→h'.get? b=some u)(hp:s.heap.objs.size≤a)(new:ObjOk X.prog X.w (HD H a o) h' a o):
 Inv X pins σ (HD H a o) {s with heap:=h',toks:=t'}:=I.un (Un.laid k hp (I.hok.fresh hp)) (I.hok.laid k hp new)
theorem Inv.write{x e:Addr}{o:HO}{t':Nat}(I:Inv X pins σ H s)(mu:Nk (H x))(he:e=x∨H e=some (.own x))(k:∀b u,b≠e→s.heap.get? b=some u→h'.get? b=some u)(heo:∃u,h'.get? e=some u)
 (new:ObjOk X.prog X.w (HD H x o) h' x o):Inv X pins σ (HD H x o) {s with heap:=h',toks:=t'}:=I.un (Un.write mu he k heo) (I.hok.write mu he k heo new)
theorem Inv.pins_of{pins':List (Addr×Obj)}(I:Inv X pins σ H s)(h:∀p∈pins',s.heap.get? p.1=some p.2∧H p.1=none∧p.1≠X.env.locals∧p.1 ∉ X.fs∧∀v,p.2.data≠ .cell v):Inv X pins' σ H s:=
 ⟨I.ok,I.os,I.bare,I.base,I.loc,I.cell,I.free,I.freeC,λp hp=>(AD.mp hp).elim (λz=>I.pin p (AF _ z)) (h p),I.hok,I.len⟩
theorem To{N:List Str}(hN:N.Nodup){j:Nat}{x:Str}(a:N[i]?=some x)(b:N[j]?=some x):i=j:=by obtain⟨h1,e1⟩:=Aq.mp a;obtain⟨h2,e2⟩:=Aq.mp b;exact(List.getElem_inj hN).mp (e1.trans e2.symm)
theorem Ue{M:Model}{A:Bn}{E:Value→Shared→Prop}{x:Str}{v:V}{Q:Unit→Shared→Prop}(I:Inv X pins σ H s)(hN:X.N.Nodup)(hi:X.N[i]?=some x)(hx:Nl X.env.scope x)(r:RelV v u)
 (h:∀s',Inv X pins (σ.set i (some v)) H s'→(∃a,Cw a s.heap s'.heap∧(a=X.env.locals∨X.env.cells.lookup x=some a))→Q () s') (hf:X.fn x=true∨X.env.scope.names.lookup x=some .local:=by first | exact .inl rfl | exact .inr rfl | assumption):wpAny M A (storeName X.env x u) Q E s:=by
 obtain⟨m,hn,hl⟩:=id I.loc;have hcls:(X.env.scope.kind== .class || (X.env.scope.kind== .module && X.env.locals !=X.env.globals))=false:=by rw[I.ok.kind];rfl
 have hiσ:i<σ.length:=by rw[I.len];exact(Aq.mp hi).1
 have cne:=I.cne;have tracked:∀{a:Addr}{h':Heap},(∃o,s.heap.get? a=some o∧H a=none)→Cw a s.heap h'→HOk X.prog X.w H h':=λ{a h'}ha hs b ob e=>by
  obtain⟨_,_,hfree⟩:=ha;refine(I.hok b ob e).stay (λc w' hc q=>(hs.2 c ?_).trans q) (λ_ q=>q) λ_ _ q=>q;rintro rfl;rcases hc with rfl | hc
  · rw[hfree] at e;cases e
  · rw[hfree] at hc;cases hc
 rcases hx with hk | hk
 · refine wpAny_storeName_local hk hn (λh' hn' hs=>?_) hcls;obtain⟨oL,_,_,hoL,_⟩:=id hn;refine h _ ⟨I.ok,I.os,I.bare,⟨λb o e n hb hx=>?_,λb o e n hb hx=>?_,I.base.free,λb o e hx=>?_,I.base.tups,I.base.frzs,I.base.tbls⟩,⟨_,hn',λj y v' e1 e2 e3=>?_⟩,λy c e=>?_,I.free,I.freeC,λp hp=>?_,tracked ⟨oL,hoL,I.free⟩ hs,by simpa using I.len⟩ ⟨_,hs,.inl rfl⟩
   · exact(hs.2 b (A5 (AB (Ao e) I.ok.above))).trans (I.base.keep b o e n hb hx)
   · obtain⟨sl,e1⟩:=I.base.slot b o e n hb hx;exact⟨sl,(hs.2 b (A5 (AB (Ao e) I.ok.above))).trans e1⟩
   · obtain⟨o',e1⟩:=I.base.there b o e hx;exact⟨o',(hs.2 b (A5 (AB (Ao e) I.ok.above))).trans e1⟩
   · by_cases hj:j=i
     · subst hj;rw[hi] at e1;cases e1;rw[Fn hiσ] at e2;cases e2;exact⟨u,r,.inl ⟨hk,by simp⟩⟩
     · rw[FH (CF hj)] at e2;obtain⟨u',r',q⟩:=hl j y v' e1 e2 e3;refine⟨u',r',?_⟩;rcases q with⟨k,e⟩ | ⟨k,c,e,z⟩
       · refine .inl ⟨k,?_⟩;have:y≠x:=λe=>hj (To hN e1 (e ▸ hi));simp[this,e]
       · exact .inr ⟨k,c,e,z.sameBut hs (cne y c e)⟩
   · obtain⟨w',z⟩:=I.cell y c e;exact⟨w',z.sameBut hs (cne y c e)⟩
   · obtain⟨e,n,ne,nf,d⟩:=I.pin p hp;exact⟨(hs.2 p.1 ne).trans e,n,ne,nf,d⟩
 · have hfn:X.fn x=true:=by
    rcases hf with z | z
    · exact z
    · rw[z] at hk;cases hk
   obtain⟨c,hc⟩:=I.ok.has x (.inl hk);obtain⟨w',z⟩:=I.cell x c hc;refine wpAny_storeName_cell I.ok.kind hk hc z (λh' hc' hs=>?_);obtain⟨oc,hoc,hocd⟩:=id z;refine h {s with heap:=h'} ⟨I.ok,I.os,I.bare,⟨λb o e n hb hx=>?_,λb o e n hb hx=>?_,I.base.free,λb o e hx=>?_,I.base.tups,I.base.frzs,I.base.tbls⟩,⟨m,hn.sameBut hs (CF (cne x c hc)),λj y v' e1 e2 e3=>?_⟩,λy c' e=>?_,I.free,I.freeC,λp hp=>?_,tracked ⟨oc,hoc,I.freeC x c hc⟩ hs,by simpa using I.len⟩ ⟨c,hs,.inr hc⟩
   · exact(hs.2 b (A5 (AB (Ao e) (I.ok.cab x c hfn hc)))).trans (I.base.keep b o e n hb hx)
   · obtain⟨sl,e1⟩:=I.base.slot b o e n hb hx;exact⟨sl,(hs.2 b (A5 (AB (Ao e) (I.ok.cab x c hfn hc)))).trans e1⟩
   · obtain⟨o',e1⟩:=I.base.there b o e hx;exact⟨o',(hs.2 b (A5 (AB (Ao e) (I.ok.cab x c hfn hc)))).trans e1⟩
   · by_cases hj:j=i
     · subst hj;rw[hi] at e1;cases e1;rw[Fn hiσ] at e2;cases e2;exact⟨u,r,.inr ⟨.inl hk,c,hc,hc'⟩⟩
     · rw[FH (CF hj)] at e2;obtain⟨u',r',q⟩:=hl j y v' e1 e2 e3;refine⟨u',r',?_⟩;rcases q with q | ⟨k,c',e,z'⟩
       · exact .inl q
       · refine .inr ⟨k,c',e,z'.sameBut hs ?_⟩;rintro rfl;exact hj (To hN e1 (I.ok.inj _ _ _ e hc ▸ hi))
   · by_cases hcc:c'=c
     · subst hcc;exact⟨_,hc'⟩
     · obtain⟨w2,z2⟩:=I.cell y c' e;exact⟨w2,z2.sameBut hs hcc⟩
   · obtain⟨e,n,ne,nf,d⟩:=I.pin p hp;refine⟨(hs.2 p.1 ?_).trans e,n,ne,nf,d⟩;intro q;rw[q,hoc] at e;have q':oc=p.2:=A4 e;exact d w' (by rw[←q'];exact hocd)
theorem S_{M:Model}{A:Bn}{E:Value→Shared→Prop}{x:Str}{v:V}{Q:Unit→Shared→Prop}(I:Inv X pins σ H s)(hN:X.N.Nodup)(hi:X.N[i]?=some x)(hx:Nl X.env.scope x)(r:RelV v u)
 (h:∀s',Inv X pins (σ.set i (some v)) H s'→Q () s') (hf:X.fn x=true∨X.env.scope.names.lookup x=some .local:=by first | exact .inl rfl | exact .inr rfl | assumption):wpAny M A (storeName X.env x u) Q E s:=
 Ue I hN hi hx r (λs' I' _=>h s' I') hf
theorem Inv.call'{s':Shared}{ch:List Addr}(I:Inv X pins σ H s)(ho:s'.os=s.os)(u:Un (Ks X.stack) ch H H' s.heap s'.heap)(hok:HOk X.prog X.w H' s'.heap)(hg:AllBare s'.gens)
 (hch:∀b∈ch,(b∈X.ex∨X.s₀.heap.objs.size≤b)∧b≠X.env.locals∧(∀x c,X.env.cells.lookup x=some c→c≠b)∧∀p∈X.pn++pins,p.1≠b):Inv X pins σ H' s':=by
 obtain⟨h',g',d',t',o'⟩:=s';have e:o'=s.os:=ho;subst e;exact I.call (g':=g') (t':=t') (d':=d') u hok hg hch
end
abbrev XK:=Value→Option Addr→Hp→Prop
abbrev St:=List (Option V)
abbrev VK:=V→Hp→Prop
abbrev TE:=St→Hp→VK→Prop
abbrev TT:=St→Hp→(Bool→Hp→Prop)→Prop
abbrev TA:=St→Hp→(List V→Hp→Prop)→Prop
structure Ends where
 nx:St→Hp→Prop
 rt:VK
 bk:St→Hp→Prop:=λ_ _=>False
 ct:St→Hp→Prop:=λ_ _=>False
abbrev TS:=Ends→St→Hp→Prop
def EP(X:Cx)(pins:List (Addr×Obj))(σ:St)(Q:VK)(u:Value)(s':Shared):Prop:=∃v H',Inv X pins σ H' s'∧RelV v u∧Q v H'
def TP(X:Cx)(pins:List (Addr×Obj))(σ:St)(Q:Bool→Hp→Prop)(b:Bool)(s':Shared):Prop:=∃H',Inv X pins σ H' s'∧Q b H'
def AP(X:Cx)(pins:List (Addr×Obj))(σ:St)(Q:List V→Hp→Prop)(us:List Value)(s':Shared):Prop:=∃vs H',Inv X pins σ H' s'∧Vals vs us∧Q vs H'
def SP(X:Cx)(pins:List (Addr×Obj))(D:Ends)(f:Flow)(s':Shared):Prop:=
 match f with
 | .next=>∃σ' H',Inv X pins σ' H' s'∧D.nx σ' H'
 | .brk=>∃σ' H',Inv X pins σ' H' s'∧D.bk σ' H'
 | .cont=>∃σ' H',Inv X pins σ' H' s'∧D.ct σ' H'
 | .ret u=>∃v σ' H',Inv X pins σ' H' s'∧RelV v u∧D.rt v H'
def PE(X:Cx)(e:Expr)(t:TE):Prop:=
 ∀(pins:List (Addr×Obj))(s:Shared)(σ:St)(H:Hp)(Q:VK),Inv X pins σ H s→t σ H Q→wpAny (model X.prog X.w) X.A (eval e X.env) (EP X pins σ Q) X.xe s
def PT(X:Cx)(e:Expr)(t:TT):Prop:=
 ∀(pins:List (Addr×Obj))(s:Shared)(σ:St)(H:Hp)(Q:Bool→Hp→Prop),Inv X pins σ H s→t σ H Q→wpAny (model X.prog X.w) X.A (isTrue e X.env (eval e X.env)) (TP X pins σ Q) X.xe s
def PW(X:Cx)(e:Expr)(t:TT):Prop:=
 ∀(whole:Sem Value)(pins:List (Addr×Obj))(s:Shared)(σ:St)(H:Hp)(Q:Bool→Hp→Prop),Inv X pins σ H s→t σ H Q→wpAny (model X.prog X.w) X.A (isTrue e X.env whole) (TP X pins σ Q) X.xe s
theorem PW.pt{X:Cx}{t:TT}(h:PW X e t):PT X e t:=h _
def PA(X:Cx)(es:List Expr)(t:TA):Prop:=
 ∀(pos:Pos)(pins:List (Addr×Obj))(s:Shared)(σ:St)(H:Hp)(Q:List V→Hp→Prop),Inv X pins σ H s→t σ H Q→wpAny (model X.prog X.w) X.A (spliced (backTo pos (A6 es X.env))) (AP X pins σ Q) X.xe s
def PS(X:Cx)(st:Stmt)(t:TS):Prop:=
 ∀(pins:List (Addr×Obj))(s:Shared)(σ:St)(H:Hp)(D:Ends),Inv X pins σ H s→t D σ H→wpAny (model X.prog X.w) X.A (exec st X.env) (SP X pins D) X.xe s
def PSs(X:Cx)(st:List Stmt)(t:TS):Prop:=
 ∀(pins:List (Addr×Obj))(s:Shared)(σ:St)(H:Hp)(D:Ends),Inv X pins σ H s→t D σ H→wpAny (model X.prog X.w) X.A (execs st X.env) (SP X pins D) X.xe s
theorem HJ{α:Type}{t:Sem α}{Q Q':α→Shared→Prop}{M:Model}(h:wpAny M A t Q E s)(hQ:∀a s,Q a s→Q' a s):wpAny M A t Q' E s:=Av h hQ λ_ _ x=>x
section
variable{X:Cx}
def Kn(i:Nat):TE:=λσ H Q=>∃v,σ[i]?=some (some v)∧Q v H
def tC(v:V):TE:=λ_ H Q=>Q v H
theorem V0{x:Str}(hN:X.N[i]?=some x)(hv:Oi X.env.scope x)(hd:(x==("__debug__":Str))=false:=by decide)(hcd:(x==("__classdict__":Str))=false:=by decide):PE X (.Name x pos) (Kn i):=by
 intro pins s σ H Q I h;obtain⟨v,e,h⟩:=h;obtain⟨m,hn,hl⟩:=I.loc;obtain⟨u,r,l⟩:=hl i x v hN e hv;have fin:EP X pins σ Q u s:=⟨v,H,I,r,h⟩;rcases l with⟨hk,hm⟩ | ⟨hk,c,hc,hcell⟩
 · exact wpAny_Name (wpAny_loadName_local I.ok.kind hk hn hm fin) hd
 · rcases hk with hk | hk
   · exact wpAny_Name (wpAny_loadName_cell I.ok.kind hk hc hcell fin) hd
   · exact wpAny_Name (wpAny_loadName_free I.ok.kind hk hc hcell fin hcd) hd
theorem HF{i j pos}:PE X (.Constant (.int i) j pos) (tC (.int i)):=λ_ _ _ H _ I h=>wpAny_Constant_int ⟨.int i,H,I.tok _,⟨_,rfl⟩,h⟩
theorem IV{b j pos}:PE X (.Constant (.bool b) j pos) (tC (.bl b)):=λ_ _ _ H _ I h=>Constant_bool ⟨.bl b,H,I,rfl,h⟩
theorem My{j pos}:PE X (.Constant .none j pos) (tC .non):=λ_ _ _ H _ I h=>Constant_none ⟨.non,H,I,rfl,h⟩
theorem Mz{x j pos}:PE X (.Constant (.str x) j pos) (tC (.str x)):=λ_ _ _ H _ I h=>Calls.Constant_str ⟨.str x,H,I.tok _,⟨_,rfl⟩,h⟩
def Gl(X:Cx)(x:Str):Prop:=X.env.kindOf x=some .globalImplicit
theorem Sh{E:Value→Shared→Prop}{σ:St}{H:Hp}{x:Str}{pos:Pos}{Q:Value→Shared→Prop}(I:Inv X pins σ H s)(hg:Gl X x)(hm:X.mg x=some u)(h:Q u s)
 (hd:(x==("__debug__":Str))=false:=by decide):wpAny (model X.prog X.w) X.A (eval (.Name x pos) X.env) Q E s:=
 E7 I.ok.kind hg (Calls.loadGlobal_global (by rw[I.ok.glob];exact I.mod.glob.keeps I.bk) hm h) hd
theorem JV{E:Value→Shared→Prop}{σ:St}{H:Hp}{x:Str}{pos:Pos}{Q:Value→Shared→Prop}(I:Inv X pins σ H s)(hg:Gl X x)(hm:X.mg x=none)(hv:AQ x=some u)(h:Q u s)
 (hn:x≠"__name__":=by decide) (hd:(x==("__debug__":Str))=false:=by decide):wpAny (model X.prog X.w) X.A (eval (.Name x pos) X.env) Q E s:=by
 obtain⟨mb,h1,h2⟩:=I.mod.blt;exact E7 I.ok.kind hg (Calls.loadGlobal_builtin (by rw[I.ok.glob];exact I.mod.glob.keeps I.bk) hm (by rw[I.ok.blt];exact h1.keeps I.bk) ((h2 x hn).trans hv) h) hd
theorem M4{x:Str}{v:V}(hg:Gl X x)(hm:X.mg x=some u)(r:RelV v u)(hd:(x==("__debug__":Str))=false:=by decide):PE X (.Name x pos) (tC v):=
 λ_ _ _ H _ I h=>Sh I hg hm ⟨v,H,I,r,h⟩ hd
theorem Jd{x:Str}{v:V}(hg:Gl X x)(hm:X.mg x=none)(hv:AQ x=some u)(r:RelV v u)(hn:x≠"__name__":=by decide)(hd:(x==("__debug__":Str))=false:=by decide):PE X (.Name x pos) (tC v):=
 λ_ _ _ H _ I h=>JV I hg hm hv ⟨v,H,I,r,h⟩ hn hd
variable{a b:Expr}{ta tb:TE}
def PC(X:Cx)(op:CmpOp)(a b:Expr)(t:TE):Prop:=
 ∀(pins:List (Addr×Obj))(s:Shared)(σ:St)(H:Hp)(Q:VK),Inv X pins σ H s→t σ H Q→
  wpAny (model X.prog X.w) X.A (eval a X.env) (λv s₁=>wpAny (model X.prog X.w) X.A (eval b X.env) (λu s₂=>wpAny (model X.prog X.w) X.A (AY op v u) (EP X pins σ Q) X.xe s₂) X.xe s₁) X.xe s
theorem Tn(b:Expr){op:CmpOp}(h:op≠ .In)(h2:op≠ .NotIn):behindInMarks op b=false:=by
 have e1:(op==CmpOp.In)=false:=by cases op<;>first | rfl | exact absurd rfl h
 have e2:(op==CmpOp.NotIn)=false:=by cases op<;>first | rfl | exact absurd rfl h2
 cases b<;>simp[behindInMarks,e1,e2]
def Qi(ta:TE):TE:=λσ H Q=>ta σ H λx H1=>Q (.bl (decide (x= .non))) H1
def VZ(ta:TE):TE:=λσ H Q=>ta σ H λx H1=>Q (.bl (!decide (x= .non))) H1
theorem RelV.none_iff{x:V}{v:Value}(r:RelV x v):(v==Value.none)=decide (x= .non):=by
 cases x with
 | non=>cases r;rfl
 | bl _=>cases r;rfl
 | int _=>obtain⟨t,rfl⟩:=r;rfl
 | str _=>obtain⟨t,rfl⟩:=r;rfl
 | byt _=>obtain⟨t,rfl⟩:=r;rfl
 | flt _=>obtain⟨t,rfl⟩:=r;rfl
 | ref _=>cases r;rfl
 | ty _=>cases r;rfl
theorem Jz{j pos'}(ha:PE X a ta):PC X .Is a (.Constant .none j pos') (Qi ta):=by intro pins s σ H Q I h;refine HJ (ha pins s σ H _ I h) λv s1 ⟨x,H1,I1,r1,q1⟩=>?_;exact Constant_none (is_none_gen ⟨.bl _,H1,I1,by rw[r1.none_iff];rfl,q1⟩)
theorem M3{j pos'}(ha:PE X a ta):PC X .IsNot a (.Constant .none j pos') (VZ ta):=by intro pins s σ H Q I h;refine HJ (ha pins s σ H _ I h) λv s1 ⟨x,H1,I1,r1,q1⟩=>?_;exact Constant_none (isnot_none_gen ⟨.bl _,H1,I1,by rw[r1.none_iff];rfl,q1⟩)
def tB(t:TE):TT:=λσ H Q=>t σ H λx H1=>∃c,x= .bl c∧Q c H1
theorem Kf{op:CmpOp}{t:TE}(h:PC X op a b t)(h1:behindInMarks op b=false:=by first | exact Tn _ (by decide) (by decide) | rfl):PE X (.Compare a [op] [b] pos) t:=λpins s σ H Q I hw=>wpAny_Compare1 (h pins s σ H Q I hw) h1
theorem JX{op:CmpOp}{t:TE}(h:PC X op a b t)(h1:behindInMarks op b=false:=by first | exact Tn _ (by decide) (by decide) | rfl):PT X (.Compare a [op] [b] pos) (tB t):=by intro pins s σ H Q I hw;refine wpAny_isTrue_Compare1 (HJ (h pins s σ H _ I hw) λv s1 h1=>HJ h1 λu s2 h2=>HJ h2 λc s3 ⟨x,H1,I1,r1,q1⟩=>?_) h1;obtain⟨d,rfl,q⟩:=q1;cases r1;exact Bf ⟨H1,I1,q⟩
theorem Ja{t:TE}(h:PE X e t)(he:∀whole,isTrue e X.env whole=(do let v ←whole;standAt e.pos;holding [v] (truthy v)):=by intro _;rfl):PT X e (tB t):=by intro pins s σ H Q I hw;refine isTrue_plain (HJ (h pins s σ H _ I hw) λv s1 ⟨x,H1,I1,r1,q1⟩=>?_) (he _);obtain⟨d,rfl,q⟩:=q1;cases r1;exact Bf ⟨H1,I1,q⟩
variable{tA tB':TT}{HI:List Expr}
def Qn(t u:TT):TT:=λσ H Q=>t σ H λc H1=>if c=true then u σ H1 Q else Q false H1
def tOr(t u:TT):TT:=λσ H Q=>t σ H λc H1=>if c=true then Q true H1 else u σ H1 Q
def Qf(t:TT):TT:=λσ H Q=>t σ H λc H1=>Q (!c) H1
theorem Mf(ha:PT X a tA):PW X (.BoolOp .And [a] pos) tA:=by
 intro wh pins s σ H Q I h;refine isTrue_and (HJ (ha pins s σ H Q I h) λc s1 e=>?_);cases c with
 | true=>exact isTrue_and_nil e
 | false=>exact e
theorem JJ(ha:PT X a tA):PW X (.BoolOp .Or [a] pos) tA:=by
 intro wh pins s σ H Q I h;refine isTrue_or (HJ (ha pins s σ H Q I h) λc s1 e=>?_);cases c with
 | false=>exact isTrue_or_nil e
 | true=>exact e
theorem Ma(ha:PT X a tA)(hb:PW X (.BoolOp .And (b::HI) pos) tB'):PW X (.BoolOp .And (a::b::HI) pos) (Qn tA tB'):=by
 intro wh pins s σ H Q I h;refine isTrue_and (HJ (ha pins s σ H _ I h) λc s1 ⟨H1,I1,q1⟩=>?_);cases c with
 | true=>exact hb wh pins s1 σ H1 Q I1 q1
 | false=>exact⟨H1,I1,q1⟩
theorem JB(ha:PT X a tA)(hb:PW X (.BoolOp .Or (b::HI) pos) tB'):PW X (.BoolOp .Or (a::b::HI) pos) (tOr tA tB'):=by
 intro wh pins s σ H Q I h;refine isTrue_or (HJ (ha pins s σ H _ I h) λc s1 ⟨H1,I1,q1⟩=>?_);cases c with
 | true=>exact⟨H1,I1,q1⟩
 | false=>exact hb wh pins s1 σ H1 Q I1 q1
theorem Ji(ha:PT X a tA):PT X (.UnaryOp .Not a pos) (Qf tA):=by intro pins s σ H Q I h;exact isTrue_not (ha pins s σ H (λc H1=>Q (!c) H1) I h)
def VW(ta tb:TE):TE:=λσ H Q=>ta σ H λx H1=>∃c,x= .bl c∧if c=true then tb σ H1 Q else Q (.bl false) H1
def Qe(ta tb:TE):TE:=λσ H Q=>ta σ H λx H1=>∃c,x= .bl c∧if c=true then Q (.bl true) H1 else tb σ H1 Q
def V_(ta:TE):TE:=λσ H Q=>ta σ H λx H1=>∃c,x= .bl c∧Q (.bl (!c)) H1
theorem Jv{op}{t:TE}(h:PE X a t):PE X (.BoolOp op [a] pos) t:=λpins s σ H Q I hw=>BoolOp_one (h pins s σ H Q I hw)
theorem J7(ha:PE X a ta)(hb:PE X (.BoolOp .And (b::HI) pos) tb):PE X (.BoolOp .And (a::b::HI) pos) (VW ta tb):=by
 intro pins s σ H Q I h;refine BoolOp_and (HJ (ha pins s σ H _ I h) λv s1 ⟨x,H1,I1,r1,q1⟩=>?_);obtain⟨c,rfl,q1⟩:=q1;cases r1;refine Bf ?_;cases c with
 | true=>exact hb pins s1 σ H1 Q I1 q1
 | false=>exact⟨.bl false,H1,I1,rfl,q1⟩
theorem Mv(ha:PE X a ta)(hb:PE X (.BoolOp .Or (b::HI) pos) tb):PE X (.BoolOp .Or (a::b::HI) pos) (Qe ta tb):=by
 intro pins s σ H Q I h;refine BoolOp_or (HJ (ha pins s σ H _ I h) λv s1 ⟨x,H1,I1,r1,q1⟩=>?_);obtain⟨c,rfl,q1⟩:=q1;cases r1;refine Bf ?_;cases c with
 | false=>exact hb pins s1 σ H1 Q I1 q1
 | true=>exact⟨.bl true,H1,I1,rfl,q1⟩
theorem Vy(ha:PE X a ta):PE X (.UnaryOp .Not a pos) (V_ ta):=by intro pins s σ H Q I h;refine UnaryOp_ (HJ (ha pins s σ H _ I h) λv s1 ⟨x,H1,I1,r1,q1⟩=>?_);obtain⟨c,rfl,q1⟩:=q1;cases r1;exact not_of (Bf ⟨.bl (!c),H1,I1,rfl,q1⟩)
def tIf(t:TT)(ta tb:TE):TE:=λσ H Q=>t σ H λc H1=>if c=true then ta σ H1 Q else tb σ H1 Q
theorem KG{c:Expr}(hc:PT X c tA)(ha:PE X a ta)(hb:PE X b tb):PE X (.IfExp c a b pos) (tIf tA ta tb):=by
 intro pins s σ H Q I h;refine wpAny_IfExp (HJ (hc pins s σ H _ I h) λd s1 ⟨H1,I1,q1⟩=>?_);cases d with
 | true=>exact ha pins s1 σ H1 Q I1 q1
 | false=>exact hb pins s1 σ H1 Q I1 q1
end
def SqL(K:Ad)(H:Hp)(a:Addr)(xs:List V):Prop:=
 Rd H a (.lst xs)∨
  ∃(o:Obj)(its:Array Value)(n:Nat),K.lookup a=some o∧o.cls= .type "list"∧o.dict=none∧o.data= .seq its n∧its.size≤Aw∧Vals xs its.toList
def SqT(K:Ad)(H:Hp)(a:Addr)(xs:List V):Prop:=
 Rd H a (.tup xs)∨
  ∃(o:Obj)(its:Array Value)(n:Nat),K.lookup a=some o∧o.cls= .type "tuple"∧o.data= .seq its n∧its.size≤Aw∧Vals xs its.toList
def QG:Value→Option V
 | .none=>some .non
 | .bool b=>some (.bl b)
 | .int i _=>some (.int i)
 | .str x _=>some (.str x)
 | .bytes b _=>some (.byt b)
 | .float b _=>some (.flt b)
 | .ref a=>some (.ref a)
 | .type n=>some (.ty n)
 | _=>none
theorem RelV.abs{x:V}(r:RelV x u):QG u=some x:=by
 cases x with
 | non=>cases r;rfl
 | bl _=>cases r;rfl
 | int _=>obtain⟨t,rfl⟩:=r;rfl
 | str _=>obtain⟨t,rfl⟩:=r;rfl
 | byt _=>obtain⟨t,rfl⟩:=r;rfl
 | flt _=>obtain⟨t,rfl⟩:=r;rfl
 | ref _=>cases r;rfl
 | ty _=>cases r;rfl
theorem RelV.inj{x y:V}(r:RelV x u)(q:RelV y u):x=y:=A4 (r.abs.symm.trans q.abs)
theorem l0{α:Type}{P:List α→Prop}(h:P []):∀us:List α,us.length=0→P us
 | [],_=>h
theorem lS{α:Type}{n:Nat}{P:List α→Prop}(h:∀a us,us.length=n→P (a::us)):∀us:List α,us.length=n+1→P us
 | a::us,e=>h a us (Nat.succ.inj e)
theorem Vals.inj:∀{xs ys:List V}{us:List Value},Vals xs us→Vals ys us→xs=ys
 | _,_,_,.nil,.nil=>rfl
 | _,_,_,.cons r t,.cons r' t'=>by rw[r.inj r',Vals.inj t t']
section
variable{X:Cx}{σ:St}{H:Hp}{xs ys:List V}
theorem SqL.of{K:Ad}(h:H a=some (.lst xs)):SqL K H a xs:= .inl (.inl h)
theorem SqT.of{K:Ad}(h:H a=some (.tup xs)):SqT K H a xs:= .inl (.inl h)
theorem Inv.list(I:Inv X pins σ H s)(h:SqL X.K H a xs):∃its:List Value,Vals xs its∧PlainL s.heap a its.toArray∧xs.length≤Aw:=by
 rcases h with h | ⟨o,its,n,hk,hc,hd,hs,hz,r⟩
 · obtain⟨z,its,n,r,e⟩:=h.ok I.hok;exact⟨its,r,⟨_,n,e,rfl,rfl,rfl⟩,z⟩
 · refine⟨its.toList,r,⟨o,n,I.kIn a o hk,hc,hd,by simpa using hs⟩,?_⟩;have e:=r.length;simp only[A0] at e;omega
theorem Inv.tuple(I:Inv X pins σ H s)(h:SqT X.K H a xs):∃its:List Value,Vals xs its∧IsTup s.heap a its.toArray∧xs.length≤Aw:=by
 rcases h with h | ⟨o,its,n,hk,hc,hs,hz,r⟩
 · obtain⟨z,its,r,p⟩:=h.ok I.hok;exact⟨its,r,p.tup,z⟩
 · refine⟨its.toList,r,⟨o,I.kIn a o hk,hc,n,by simpa using hs⟩,?_⟩;have e:=r.length;simp only[A0] at e;omega
theorem Inv.list_inj(I:Inv X pins σ H s)(h:SqL X.K H a xs)(h':SqL X.K H a ys):xs=ys:=by
 obtain⟨its,r,⟨o,n,e,_,_,d⟩,_⟩:=I.list h;obtain⟨its',r',⟨o',n',e',_,_,d'⟩,_⟩:=I.list h';rw[e] at e';cases e';rw[d] at d';injection d' with d1 _;have:its=its':=by simpa using congrArg Array.toList d1
 subst this;exact r.inj r'
theorem Inv.tuple_inj(I:Inv X pins σ H s)(h:SqT X.K H a xs)(h':SqT X.K H a ys):xs=ys:=by
 obtain⟨its,r,⟨o,e,_,n,d⟩,_⟩:=I.tuple h;obtain⟨its',r',⟨o',e',_,n',d'⟩,_⟩:=I.tuple h';rw[e] at e';cases e';rw[d] at d';injection d' with d1 _;have:its=its':=by simpa using congrArg Array.toList d1
 subst this;exact r.inj r'
end
abbrev Cx.wish(X:Cx)(E:Value→Shared→Prop):Cx:={X with xe:=E}
abbrev Cx.nox(X:Cx):Cx:=X.wish λ_ _=>False
theorem Cx.Ok.wish{X:Cx}(ok:X.Ok)(E:Value→Shared→Prop):(X.wish E).Ok:=
 ⟨ok.mod,ok.kind,ok.glob,ok.blt,ok.above,ok.inj,ok.has,ok.cab,ok.hd,ok.frames,ok.stk,ok.exf,ok.bs,ok.bsz,ok.noex,ok.exfs,ok.funs,ok.frf⟩
theorem Cx.Ok.unwish{X:Cx}(ok:(X.wish E).Ok):X.Ok:=
 ⟨ok.mod,ok.kind,ok.glob,ok.blt,ok.above,ok.inj,ok.has,ok.cab,ok.hd,ok.frames,ok.stk,ok.exf,ok.bs,ok.bsz,ok.noex,ok.exfs,ok.funs,ok.frf⟩
section
variable{X:Cx}{σ:St}{H:Hp}
theorem Inv.wish(I:Inv X pins σ H s)(E:Value→Shared→Prop):Inv (X.wish E) pins σ H s:=⟨I.ok.wish E,I.os,I.bare,I.base,I.loc,I.cell,I.free,I.freeC,I.pin,I.hok,I.len⟩
theorem Inv.unwish(I:Inv (X.wish E) pins σ H s):Inv X pins σ H s:=⟨I.ok.unwish,I.os,I.bare,I.base,I.loc,I.cell,I.free,I.freeC,I.pin,I.hok,I.len⟩
theorem SP.unwish{D:Ends}{f:Flow}{s':Shared}(h:SP (X.wish E) pins D f s'):SP X pins D f s':=by
 cases f with
 | next=>obtain⟨σ',H',I,q⟩:=h;exact⟨σ',H',I.unwish,q⟩
 | brk=>obtain⟨σ',H',I,q⟩:=h;exact⟨σ',H',I.unwish,q⟩
 | cont=>obtain⟨σ',H',I,q⟩:=h;exact⟨σ',H',I.unwish,q⟩
 | ret u=>obtain⟨v,σ',H',I,r,q⟩:=h;exact⟨v,σ',H',I.unwish,r,q⟩
theorem PSs.nox{st:List Stmt}{t:TS}(h:PSs X.nox st t):PSs X st t:=λpins s σ H D I hw=> Av (h pins s σ H D (I.wish _) hw) (λ_ _ q=>q.unwish) λ_ _ z=>CN z
end
section
variable{X:Cx}{st:Stmt}{HI:List Stmt}{t u:TS}{te:TE}
def Re:TS:=λD σ H=>D.nx σ H
def KN(t u:TS):TS:=λD σ H=>t {D with nx:=u D} σ H
theorem Io:PSs X [] Re:=λ_ _ σ H _ I h=>Eb ⟨σ,H,I,h⟩
theorem HK(h1:PS X st t)(h2:PSs X HI u):PSs X (st::HI) (KN t u):=by
 intro pins s σ H D I h;refine wpAny_execs_cons (HJ (h1 pins s σ H {D with nx:=u D} I h) λf s1 q=>?_)
 cases f with
 | next=> obtain⟨σ',H',I',q⟩:=q;exact h2 pins s1 σ' H' D I' q
 | ret v=>exact q
 | brk=>exact q
 | cont=>exact q
theorem HM(h1:PS X st t):PSs X [st] t:=by
 intro pins s σ H D I h;refine wpAny_execs_cons (HJ (h1 pins s σ H D I h) λf s1 q=>?_);cases f with
 | next=>exact Eb q
 | ret v=>exact q
 | brk=>exact q
 | cont=>exact q
theorem Inv.quiet{σ:St}{H:Hp}(I:Inv X pins σ H s):interactive X.env=false:=by simp[interactive,I.ok.kind]
def VY(te:TE):TS:=λD σ H=>te σ H λ_ H1=>D.nx σ H1
theorem JI(he:PE X e te)(hs:swapsWith e none pos.line X.env=pure false:=by rfl):PS X (.Expr e pos) (VY te):=by intro pins s σ H D I h;exact wpAny_Expr_any (HJ (he pins s σ H _ I h) λv s1 ⟨x,H1,I1,r1,q1⟩=>⟨σ,H1,I1,q1⟩) I.quiet hs
def Qd(te:TE):TS:=λD σ H=>te σ H D.rt
theorem HX(he:PE X e te):PS X (.Return (some e) pos) (Qd te):=by intro pins s σ H D I h;exact wpAny_Return_some (HJ (he pins s σ H _ I h) λv s1 ⟨x,H1,I1,r1,q1⟩=>⟨x,σ,H1,I1,r1,q1⟩)
def Qj(c:TT)(t u:TS):TS:=λD σ H=>c σ H λb H1=>if b=true then t D σ H1 else u D σ H1
theorem Ip{c:Expr}{a b:List Stmt}{tc:TT}(hc:PT X c tc)(ha:PSs X a t)(hb:PSs X b u):PS X (.If c a b pos) (Qj tc t u):=by
 intro pins s σ H D I h;refine wpAny_If (HJ (hc pins s σ H _ I h) λd s1 ⟨H1,I1,q1⟩=>?_);cases d with
 | true=>exact ha pins s1 σ H1 D I1 q1
 | false=>exact hb pins s1 σ H1 D I1 q1
def WT:TS:=λ_ _ _=>False
theorem Pg:PS X st WT:=λ_ _ _ _ _ _ h=>h.elim
end
abbrev TG:=V→St→Hp→(St→Hp→Prop)→Prop
abbrev Lx:=List V→St→Hp→(St→Hp→Prop)→Prop
def PG(X:Cx)(target:Expr)(t:TG):Prop:=
 ∀(pins:List (Addr×Obj))(s:Shared)(σ:St)(H:Hp)(v:V)(u:Value)(Q:St→Hp→Prop),Inv X pins σ H s→RelV v u→t v σ H Q→
  wpAny (model X.prog X.w) X.A (assign target X.env u) (λ_ s'=>∃σ' H',Inv X pins σ' H' s'∧Q σ' H') X.xe s
def Ni(X:Cx)(ts:List Expr)(t:Lx):Prop:=
 ∀(pins:List (Addr×Obj))(s:Shared)(σ:St)(H:Hp)(vs:List V)(us:List Value)(Q:St→Hp→Prop),Inv X pins σ H s→Vals vs us→t vs σ H Q→
  wpAny (model X.prog X.w) X.A (assignInOrder ((assignEach ts X.env).map (·.2)) us) (λ_ s'=>∃σ' H',Inv X pins σ' H' s'∧Q σ' H') X.xe s
abbrev LQ:=V→V→V→Hp→(Hp→Prop)→Prop
def Nh(X:Cx)(t:LQ):Prop:=
 ∀(pins:List (Addr×Obj))(s:Shared)(σ:St)(H:Hp)(o i v:V)(ov iv u:Value)(Q:Hp→Prop),Inv X pins σ H s→RelV o ov→RelV i iv→RelV v u→t o i v H Q→
  wpAny (model X.prog X.w) X.A (setItem ov iv u) (λ_ s'=>∃H',Inv X pins σ H' s'∧Q H') X.xe s
section
variable{X:Cx}
def JS(i:Nat):TG:=λv σ H Q=>Q (σ.set i (some v)) H
theorem HW{x:Str}(hN:X.N.Nodup)(hi:X.N[i]?=some x)(hx:Nl X.env.scope x)(hf:X.fn x=true∨X.env.scope.names.lookup x=some .local:=by first | exact .inl rfl | exact .inr rfl | assumption):PG X (.Name x pos) (JS i):=by intro pins s σ H v u Q I r h;exact wpAny_assign_Name (S_ I hN hi hx r (λs' I'=>⟨_,H,I',h⟩) hf)
def Nd:Lx:=λvs σ H Q=>vs=[]∧Q σ H
def Op(t:TG)(u:Lx):Lx:=λvs σ H Q=>∃v r,vs=v::r∧t v σ H λσ' H'=>u r σ' H' Q
theorem Jq:Ni X [] Nd:=by intro pins s σ H vs us Q I r h;obtain⟨e,h⟩:=h;subst e;cases r;exact assignInOrder_nil ⟨σ,H,I,h⟩
theorem Ih{es:List Expr}{t:TG}{u:Lx}(h1:PG X e t)(h2:Ni X es u)
 (hs:(assignEach (e::es) X.env).map (·.2)=assign e X.env::(assignEach es X.env).map (·.2):=by rfl):Ni X (e::es) (Op t u):=by
 intro pins s σ H vs us Q I r h;obtain⟨v,vr,e1,h⟩:=h;subst e1;cases r with
 | cons r rr=> rw[hs];refine assignInOrder_cons (HJ (h1 pins s σ H _ _ _ I r h) λ_ s1 ⟨σ1,H1,I1,q1⟩=>?_);exact h2 pins s1 σ1 H1 _ _ Q I1 rr q1
def LN(K:Ad)(n:Nat)(t:Lx):TG:=λv σ H Q=>∃a xs,v= .ref a∧SqT K H a xs∧xs.length=n∧t xs σ H Q
theorem JW{es:List Expr}{k:Nat}{t:Lx}{n:Nat}(hc:X.calm=true)(h:Ni X es t)
 (hn:(assignEach es X.env).length=n:=by rfl) (hst:(assignEach es X.env).findIdx? (·.1)=none:=by rfl):PG X (.Tuple es k pos) (LN X.K n t):=by
 intro pins s σ H v u Q I r hw;obtain⟨a,xs,e1,hq,hl,hw⟩:=hw;subst e1;cases r;obtain⟨its,rv,ht,hz⟩:=I.tuple hq;refine assign_Tuple_tuple (I.ok.hd hc) ht (by simp[hn,←hl,rv.length]) hst λh' hx=>?_;have I1:Inv X pins σ H {s with heap:=h'}:=I.kept (t':=s.toks) λb o e=>hx b o (A5 (Ao e)) e
 exact h pins _ σ H xs _ Q I1 (by simpa using rv) hw
def QE(to ti:TE)(t:LQ):TG:=λv σ H Q=>to σ H λo H1=>ti σ H1 λi H2=>t o i v H2 λH3=>Q σ H3
theorem O3{o i:Expr}{to ti:TE}{t:LQ}(ho:PE X o to)(hi:PE X i ti)(hs:Nh X t)
 (ha:∀v,assign (.Subscript o i pos) X.env v=(do
  let ov ←holding [v] (eval o X.env)
  let iv ←holding [v,ov] (eval i X.env)
  standAt pos
  holding [v,ov,iv] (setItem ov iv v)
  release [v,ov,iv] []):=by intro _;rfl):PG X (.Subscript o i pos) (QE to ti t):=by
 intro pins s σ H v u Q I r h;rw[ha];refine Aa (AN (HJ (ho pins s σ H _ I h) λov s1 ⟨x,H1,I1,r1,q1⟩=>?_));refine Aa (AN (HJ (hi pins s1 σ H1 _ I1 q1) λiv s2 ⟨y,H2,I2,r2,q2⟩=>?_));refine Aa (Bu (Aa (AN (HJ (hs pins s2 σ H2 x y v ov iv u _ I2 r1 r2 r q2) λ_ s3 ⟨H3,I3,q3⟩=>?_))));exact wpAny_release ⟨σ,H3,I3,q3⟩
def KO(te:TE)(g:TG):TS:=λD σ H=>te σ H λx H1=>g x σ H1 D.nx
theorem KC{tg:Expr}{te:TE}{g:TG}(he:PE X e te)(hg:PG X tg g)(hs:swapsWithSole [tg] e pos.line X.env=pure false:=by rfl)(hw:swappedStores [tg] e X.env=pure none:=by rfl)
 (h1:(assignEach [tg] X.env).map (·.2)=[assign tg X.env]:=by rfl):PS X (.Assign [tg] e pos) (KO te g):=by
 intro pins s σ H D I h;refine wpAny_Assign_stores (HJ (he pins s σ H _ I h) λv s1 ⟨x,H1,I1,r1,q1⟩=>?_) hs hw;rw[h1];exact HJ (hg pins s1 σ H1 x v _ I1 r1 q1) λ_ s2 q=>q
theorem HY{x:Str}{te:TE}{pos':Pos}(hN:X.N.Nodup)(hi:X.N[i]?=some x)(hx:Nl X.env.scope x)(he:PE X e te)(hs:swapsWith e (some (.Name x pos')) pos.line X.env=pure false:=by rfl)(hf:X.fn x=true∨X.env.scope.names.lookup x=some .local:=by first | exact .inl rfl | exact .inr rfl | assumption):
 PS X (.Assign [.Name x pos'] e pos) (KO te (JS i)):=by
 intro pins s σ H D I h;refine wpAny_Assign_Name (HJ (he pins s σ H _ I h) λv s1 ⟨y,H1,I1,r1,q1⟩=>?_) hs;exact S_ I1 hN hi hx r1 (λs2 I2=>⟨_,H1,I2,q1⟩) hf
end
section
variable{X:Cx}
def Rn(c:TT)(tb:TS):TS:=λD σ H=>∃W:Nat→St→Hp→Prop,(∃m,W m σ H)∧∀m σ H,W m σ H→
 c σ H λb H1=>if b=true then ∃N:St→Hp→Prop,(∀σ' H',N σ' H'→∃m',m'<m∧W m' σ' H')∧tb {D with nx:=N,ct:=N,bk:=D.nx} σ H1 else D.nx σ H1
theorem Tr{c:Expr}{body:List Stmt}{tc:TT}{tb:TS}(hp:PassesOwn (model X.prog X.w) X.A X.env X.xe)(hc:PT X c tc)(hb:PSs X body tb):PS X (.While c body [] pos) (Rn tc tb):=by
 intro pins s σ H D I h;obtain⟨W,⟨m0,w0⟩,turn⟩:=h;refine wpAny_While (codeAny_whileLoop (λn s'=>∃σ' H',Inv X pins σ' H' s'∧W n σ' H') ?_ m0 ⟨σ,H,I,w0⟩);rintro n s1 ⟨σ1,H1,I1,w1⟩;refine CG hp (HJ (hc pins s1 σ1 H1 _ I1 (turn n σ1 H1 w1)) λb s2 ⟨H2,I2,q2⟩=>?_);cases b with
 | true=>
  obtain⟨N,hN,q2⟩:=q2;rw[if_pos rfl];refine CG hp (HJ (hb pins s2 σ1 H2 _ I2 q2) λf s3 q3=>?_);cases f with
  | next=> obtain⟨σ3,H3,I3,n3⟩:=q3;obtain⟨m',hm,w3⟩:=hN σ3 H3 n3;exact⟨m',hm,σ3,H3,I3,w3⟩
  | cont=> obtain⟨σ3,H3,I3,n3⟩:=q3;obtain⟨m',hm,w3⟩:=hN σ3 H3 n3;exact⟨m',hm,σ3,H3,I3,w3⟩
  | brk=>exact q3
  | ret v=>exact q3
 | false=> rw[if_neg An];exact Eb ⟨σ1,H2,I2,q2⟩
end
structure It where
 go:Nat→Hp→Prop
 yld:Nat→Hp→V→Hp→Prop
 stop:Nat→Hp→Prop
def HS(X:Cx)(pins:List (Addr×Obj))(H:Hp)(b:Addr):Prop:=
 H b=none∧b≠X.env.locals∧b ∉ X.fs∧(b∈X.ex∨X.s₀.heap.objs.size≤b)∧(∀x c,X.env.cells.lookup x=some c→c≠b)∧∀p∈X.pn++pins,p.1≠b
theorem Inv.fpOk{X:Cx}{σ:St}{H H':Hp}(I:Inv X pins σ H s)(hb:s.heap.objs.size≤b)(hn:H' b=none):HS X pins H' b:=by
 refine⟨hn,Cy (AB I.lt hb),I.nofs hb,.inr (A2 I.sz hb),λx c e z=>?_,λp hp z=>?_⟩
 · obtain⟨v,q⟩:=I.cell x c e;exact absurd (AB q.lt (by rw[z];exact hb)) (C5 _)
 · exact absurd (AB (Ao (I.pin p hp).1) (by rw[z];exact hb)) (C5 _)
structure Turn(P:AU)(w:World)(K:Ad)(tg:Expr)(J:It)(fp:List Addr)(it:Addr)(tn:Nat→Heap→Prop):Prop where
 mem:it∈fp
 obj:∀i h,tn i h→∀b∈fp,∃o,h.get? b=some o∧∀v,o.data≠ .cell v
 keep:∀i h h',tn i h→(∀b∈fp,∀o,h.get? b=some o→h'.get? b=some o)→tn i h'
 item:∀(X:Cx),X.prog=P→X.w=w→X.K=K→X.calm=true→∀(i:Nat)(pins:List (Addr×Obj))(s:Shared)(σ:St)(H:Hp)(E:Value→Shared→Prop),Inv X pins σ H s→(∀b∈fp,HS X pins H b)→tn i s.heap→J.go i H→
  wpAny (model P w) X.A (pyNext (.ref it)) (λr s1=>∃u,r=some u∧
   wpAny (model P w) X.A (BL tg (.ref it) u) (λ_ s2=>∃x H',Inv X pins σ H' s2∧RelV x u∧J.yld i H x H'∧tn (i+1) s2.heap∧∀b∈fp,H' b=none) E s1) E s
 done:∀(X:Cx),X.prog=P→X.w=w→X.K=K→X.calm=true→∀(i:Nat)(pins:List (Addr×Obj))(s:Shared)(σ:St)(H:Hp)(E:Value→Shared→Prop),Inv X pins σ H s→(∀b∈fp,HS X pins H b)→tn i s.heap→J.stop i H→
  wpAny (model P w) X.A (pyNext (.ref it)) (λr s1=>r=none∧Inv X pins σ H s1) E s
 self:∀(A:Bn)(i:Nat)(s:Shared)(Q:Value→Shared→Prop)(E:Value→Shared→Prop),tn i s.heap→Q (.ref it) s→wpAny (model P w) A (pyIter (.ref it)) Q E s
abbrev TI:=St→Hp→(It→Hp→Prop)→Prop
def UU(X:Cx)(pins:List (Addr×Obj))(σ:St)(tg:Expr)(R:It→Hp→Prop)(itv:Value)(s2:Shared):Prop:=
 ∃(it:Addr)(fp:List Addr)(tn:Nat→Heap→Prop)(J:It)(H':Hp),itv= .ref it∧Inv X pins σ H' s2∧Turn X.prog X.w X.K tg J fp it tn∧tn 0 s2.heap∧(∀b∈fp,HS X pins H' b)∧R J H'
def PI(X:Cx)(tg iter:Expr)(wi:TI):Prop:=
 ∀(pins:List (Addr×Obj))(s:Shared)(σ:St)(H:Hp)(R:It→Hp→Prop),Inv X pins σ H s→wi σ H R→
  wpAny (model X.prog X.w) X.A (eval iter X.env) (λv s1=>wpAny (model X.prog X.w) X.A (pyIter v) (UU X pins σ tg R) X.xe s1) X.xe s
theorem LX{M:Model}{A:Bn}{E:Value→Shared→Prop}{tg:Expr}{it:Addr}{u:Value}{o:Obj}{n:String}{vs:Array Value}{Q:Unit→Shared→Prop}(ho:s.heap.get? it=some o)(hc:o.cls= .type n)(hd:o.data= .fields vs)
 (hn:["enumerate","zip","dict_itemiterator","dict_reverseitemiterator","odict_iterator","itertools.zip_longest","itertools.pairwise"].contains n=false) (hQ:Q () s):wpAny M A (BL tg (.ref it) u) Q E s:=by
 unfold BL;cases tg<;>first
  | exact Ac hQ
  | (cases u<;>first
   | exact Ac hQ
   | (refine Aa (wpAny_load ho ?_)
      rw[hc,hd];show wpAny M A (if(["enumerate","zip","dict_itemiterator","dict_reverseitemiterator","odict_iterator","itertools.zip_longest","itertools.pairwise"].contains n && vs[0]?==some (rawInt _))=true then _ else _) Q E s
      rw[if_neg (by intro h;rw[hn,Bool.false_and] at h;cases h)];exact Ac hQ))
def Ku(K:Ad)(a:Addr):It:=
 ⟨λi H=>∃xs x,SqL K H a xs∧xs[i]?=some x,λi H x H'=>H'=H∧∀xs,SqL K H a xs→xs[i]?=some x,λi H=>∃xs,SqL K H a xs∧xs.length≤i⟩
def Lz(K:Ad)(a:Addr):It:=
 ⟨λi H=>∃xs x,SqT K H a xs∧xs[i]?=some x,λi H x H'=>H'=H∧∀xs,SqT K H a xs→xs[i]?=some x,λi H=>∃xs,SqT K H a xs∧xs.length≤i⟩
def L0(lo:Int)(n:Nat):It:=⟨λi _=>i<n,λi H x H'=>H'=H∧x= .int (lo+i),λi _=>n≤i⟩
theorem YT{K:Ad}{tg:Expr}(a it:Addr):Turn P w K tg (Ku K a) [it] it (λi h=>h.IsListIter it a i) where
 mem:=by simp
 obj:=λi h st b hb=>by
  have e:b=it:=by simpa using hb
  subst e;obtain⟨o,e,c,d⟩:=st;exact⟨o,e,λv z=>by rw[d] at z;cases z⟩
 keep:=λi h h' st k=>st.at λo e=>k it (by simp) o e
 item:=by
  intro X hP hw hK hc i pins s σ H E I hf st hg;subst hP hw hK;obtain⟨xs,x,hq,hx⟩:=hg;obtain⟨its,rv,p,hz⟩:=I.list hq;obtain⟨u,hu,ru⟩:=rv.get hx;obtain⟨f0,f1,f2,f3,f4,f5⟩:=hf it (by simp);refine wpAny_pyNext_list_item st p.isList (x:=u) (by simpa using hu) λh' st' sb=>?_;have I1:Inv X pins σ H {s with heap:=h'}:=I.turned (t':=s.toks) (λb o hb e=>(sb.2 b hb).trans e) f0 f1 f3 f4 f5
  obtain⟨o,e,c,d⟩:=id st';exact⟨u,rfl,LX (s:={s with heap:=h'}) e c d (by decide) ⟨x,H,I1,ru,⟨rfl,λys hy=>by rw[I.list_inj hy hq];exact hx⟩,st',λb hb=>(hf b hb).1⟩⟩
 done:=by intro X hP hw hK hc i pins s σ H E I hf st hg;subst hP hw hK;obtain⟨xs,hq,hx⟩:=hg;obtain⟨its,rv,p,hz⟩:=I.list hq;obtain⟨f0,f1,f2,f3,f4,f5⟩:=hf it (by simp);have hl:=rv.length;exact wpAny_pyNext_list_end (I.ok.hd hc) st p.isList (by simp;omega) λh' eb=>⟨rfl,I.turned (t':=s.toks) (λb o hb e=>eb b o hb e) f0 f1 f3 f4 f5⟩
 self:=λ_ _ _ _ _ st h=>wpAny_pyIter_listiter st h
theorem Zn{K:Ad}{tg:Expr}(a it:Addr):Turn P w K tg (Lz K a) [it] it (λi h=>h.IsTupleIter it a i) where
 mem:=by simp
 obj:=λi h st b hb=>by
  have e:b=it:=by simpa using hb
  subst e;obtain⟨o,e,c,d⟩:=st;exact⟨o,e,λv z=>by rw[d] at z;cases z⟩
 keep:=λi h h' st k=>st.at λo e=>k it (by simp) o e
 item:=by
  intro X hP hw hK hc i pins s σ H E I hf st hg;subst hP hw hK;obtain⟨xs,x,hq,hx⟩:=hg;obtain⟨its,rv,p,hz⟩:=I.tuple hq;obtain⟨u,hu,ru⟩:=rv.get hx;obtain⟨f0,f1,f2,f3,f4,f5⟩:=hf it (by simp);refine wpAny_pyNext_tuple_item st (show s.heap.IsTuple a its.toArray from p) (x:=u) (by simpa using hu) λh' st' sb=>?_;have I1:Inv X pins σ H {s with heap:=h'}:=I.turned (t':=s.toks) (λb o hb e=>(sb.2 b hb).trans e) f0 f1 f3 f4 f5
  obtain⟨o,e,c,d⟩:=id st';exact⟨u,rfl,LX (s:={s with heap:=h'}) e c d (by decide) ⟨x,H,I1,ru,⟨rfl,λys hy=>by rw[I.tuple_inj hy hq];exact hx⟩,st',λb hb=>(hf b hb).1⟩⟩
 done:=by intro X hP hw hK hc i pins s σ H E I hf st hg;subst hP hw hK;obtain⟨xs,hq,hx⟩:=hg;obtain⟨its,rv,p,hz⟩:=I.tuple hq;obtain⟨f0,f1,f2,f3,f4,f5⟩:=hf it (by simp);have hl:=rv.length;exact wpAny_pyNext_tuple_end (I.ok.hd hc) st (show s.heap.IsTuple a its.toArray from p) (by simp;omega) λh' eb=>⟨rfl,I.turned (t':=s.toks) (λb o hb e=>eb b o hb e) f0 f1 f3 f4 f5⟩
 self:=λ_ _ _ _ _ st h=>wpAny_pyIter_tupleiter st h
theorem Zm{K:Ad}{tg:Expr}(it:Addr)(lo:Int)(n:Nat):Turn P w K tg (L0 lo n) [it] it (λi h=>IsRangeIter h it (lo+(i:Nat)*1) ((n:Int) - (i:Nat)) 1) where
 mem:=by simp
 obj:=λi h st b hb=>by
  have e:b=it:=by simpa using hb
  subst e;exact⟨_,st,λv z=>by have z':Data.fields _=Data.cell v:=z;cases z'⟩
 keep:=λi h h' st k=>k it (by simp) _ st
 item:=by
  intro X hP hw hK hc i pins s σ H E I hf st hg;subst hP hw hK;obtain⟨f0,f1,f2,f3,f4,f5⟩:=hf it (by simp);have W:=Walks.range (prog:=X.prog) (w:=X.w) (I.ok.hd hc) it lo 1 n;refine W.item i s _ _ hg st λv h' tk hv st' kk=>?_;obtain⟨t,rfl⟩:=hv;have I1:Inv X pins σ H {s with heap:=h',toks:=tk}:=I.turned (λb o hb e=>kk b o (by simpa using hb) e) f0 f1 f3 f4 f5
  refine⟨_,rfl,LX (s:={s with heap:=h',toks:=tk}) (n:="range_iterator") st' rfl rfl (by decide) ⟨.int (lo+i),H,I1,⟨t,?_⟩,⟨rfl,rfl⟩,st',λb hb=>(hf b hb).1⟩⟩
  rw[Int.mul_one]
 done:=by intro X hP hw hK hc i pins s σ H E I hf st hg;subst hP hw hK;obtain⟨f0,f1,f2,f3,f4,f5⟩:=hf it (by simp);exact wpAny_pyNext_range_end (I.ok.hd hc) st (by have:n≤i:=hg;omega) λh' eb=>⟨rfl,I.turned (t':=s.toks) (λb o hb e=>eb b o hb e) f0 f1 f3 f4 f5⟩
 self:=λ_ _ _ _ _ st h=>wpAny_pyIter_rangeiter st h
section
variable{X:Cx}{tg:Expr}
def QX(K:Ad)(tl:TE):TI:=λσ H R=>tl σ H λx H1=>∃a,x= .ref a∧(∃xs,SqL K H1 a xs)∧R (Ku K a) H1
def QA(K:Ad)(tl:TE):TI:=λσ H R=>tl σ H λx H1=>∃a,x= .ref a∧(∃xs,SqT K H1 a xs)∧R (Lz K a) H1
theorem Jm{l:Expr}{tl:TE}(hl:PE X l tl):PI X tg l (QX X.K tl):=by
 intro pins s σ H R I h;refine HJ (hl pins s σ H _ I h) λv s1 ⟨x,H1,I1,r1,q1⟩=>?_;obtain⟨a,e,⟨xs,hq⟩,q⟩:=q1;subst e;cases r1;obtain⟨its,rv,p,hz⟩:=I1.list hq;refine ED p.isList ?_;refine⟨s1.heap.objs.size,[s1.heap.objs.size],_,_,H1,rfl,I1.kept (t':=s1.toks) λb o e=>Ae _ e,YT a _,⟨_,Au _ rfl,rfl,rfl⟩,λb hb=>?_,q⟩;have e:b=s1.heap.objs.size:=by simpa using hb
 subst e;exact I1.fpOk (Af _) (I1.hok.fresh (Af _))
theorem LC{l:Expr}{tl:TE}(hl:PE X l tl):PI X tg l (QA X.K tl):=by
 intro pins s σ H R I h;refine HJ (hl pins s σ H _ I h) λv s1 ⟨x,H1,I1,r1,q1⟩=>?_;obtain⟨a,e,⟨xs,hq⟩,q⟩:=q1;subst e;cases r1;obtain⟨its,rv,p,hz⟩:=I1.tuple hq;refine Ez (show s1.heap.IsTuple a its.toArray from p) ?_;refine⟨s1.heap.objs.size,[s1.heap.objs.size],_,_,H1,rfl,I1.kept (t':=s1.toks) λb o e=>Ae _ e,Zn a _,⟨_,Au _ rfl,rfl,rfl⟩,λb hb=>?_,q⟩;have e:b=s1.heap.objs.size:=by simpa using hb
 subst e;exact I1.fpOk (Af _) (I1.hok.fresh (Af _))
theorem XD{σ:St}{H:Hp}{R:It→Hp→Prop}{E:Value→Shared→Prop}{lo hi:Int}{t u v:Tok}{tk:Nat}(I:Inv X pins σ H s)(h1: -(2^62)≤lo)(h2:lo<2^62)(h3: -(2^62)≤hi)(h4:hi<2^62)
 (q:R (L0 lo (hi - lo).toNat) H):wpAny (model X.prog X.w) X.A (pyIter (.ref s.heap.objs.size)) (UU X pins σ tg R) E {s with heap:=s.heap.push {cls:= .type "range",data:= .fields #[.int lo t,.int hi u,.int 1 v]},toks:=tk}:=by
 refine wpAny_pyIter_range (IsRange.new ..) (small_one h1 h2 h3 h4) ?_;have I1:Inv X pins σ H {s with heap:=s.heap.push {cls:= .type "range",data:= .fields #[.int lo t,.int hi u,.int 1 v]},toks:=tk}:=I.kept λb o e=>Ae _ e
 refine⟨(s.heap.push {cls:= .type "range",data:= .fields #[.int lo t,.int hi u,.int 1 v]}).objs.size,[(s.heap.push {cls:= .type "range",data:= .fields #[.int lo t,.int hi u,.int 1 v]}).objs.size],_,_,H,rfl,
  I1.kept (t':=tk) λb o e=>Ae _ e,Zm _ lo (hi - lo).toNat,?_,λb hb=>?_,q⟩
 · have e1:lo+((0:Nat):Int)*1=lo:=by simp
   have e2:(((hi - lo).toNat:Nat):Int) - ((0:Nat):Int)=Fc lo hi 1:=by rw[rangeSize_one];split<;>omega
   show IsRangeIter _ _ (lo+((0:Nat):Int)*1) ((((hi - lo).toNat:Nat):Int) - ((0:Nat):Int)) 1;rw[e1,e2];exact Au _ rfl
 · have e:b=(s.heap.push {cls:= .type "range",data:= .fields #[.int lo t,.int hi u,.int 1 v]}).objs.size:=by simpa using hb
   subst e;exact I1.fpOk (Af _) (I1.hok.fresh (Af _))
def Ve(ta:TA):TI:=λσ H R=>ta σ H λvs H1=>∃j:Int,vs=[.int j]∧ -(2^62)≤j∧j<2^62∧R (L0 0 j.toNat) H1
theorem KD{a:Expr}{ta:TA}{p:Pos}(hg:Gl X "range")(hm:X.mg "range"=none)(ha:PA X [a] ta)(hs:A6 [a] X.env=[(false,eval a X.env)]:=by rfl):PI X tg (.Call (.Name "range" p) [a] [] pos) (Ve ta):=by
 intro pins s σ H R I h;refine Call_ (JV I hg hm boot_range (Bx (HJ (ha pos pins s σ H _ I h) λus s1 ⟨vs,H1,I1,r1,q1⟩=>?_) hs rfl));obtain⟨j,e,q1,q2,q⟩:=q1;subst e;cases r1 with
 | cons r rr=> cases rr;obtain⟨t,rfl⟩:=r;exact call_range_1 (XD I1 (by omega) (by omega) q1 q2 (by simpa using q))
def Qk(wi:TI)(g:TG)(tb:TS):TS:=λD σ H=>wi σ H λJ H1=>∃W:Nat→Nat→St→Hp→Prop,(∃m,W 0 m σ H1)∧∀i m σ H,W i m σ H→
 (J.stop i H∧D.nx σ H)∨(J.go i H∧∃N:St→Hp→Prop,(∀σ' H',N σ' H'→∃m',m'<m∧W (i+1) m' σ' H')∧∀x H',J.yld i H x H'→g x σ H' λσ2 H2=>tb {D with nx:=N,ct:=N,bk:=D.nx} σ2 H2)
def Ky(fp:List Addr)(h:Heap):List (Addr×Obj):=fp.filterMap λb=>(h.get? b).map λo=>(b,o)
theorem JK{fp:List Addr}{o:Obj}(hb:b∈fp)(e:h.get? b=some o):(b,o)∈Ky fp h:=CY.mpr ⟨b,hb,by rw[e];rfl⟩
theorem Yc{fp:List Addr}{p:Addr×Obj}(hp:p∈Ky fp h):p.1∈fp∧h.get? p.1=some p.2:=by
 obtain⟨b,hb,e⟩:=CY.mp hp;cases q:h.get? b with
 | none=>rw[q] at e;cases e
 | some o=> rw[q] at e;have e':(b,o)=p:=A4 e;subst e';exact⟨hb,q⟩
theorem Inv.pinned{σ:St}{H:Hp}{fp:List Addr}(I:Inv X pins σ H s)(hf:∀b∈fp,HS X pins H b)(ho:∀b∈fp,∃o,s.heap.get? b=some o∧∀v,o.data≠ .cell v):Inv X (pins++Ky fp s.heap) σ H s:=
 I.pins_of λp hp=>(AD.mp hp).elim (λz=>I.pin p (Ag _ z)) λz=>by obtain⟨hb,e⟩:=Yc z;obtain⟨f0,f1,f2,_⟩:=hf p.1 hb;obtain⟨o,e',d⟩:=ho p.1 hb;rw[e] at e';cases e';exact⟨e,f0,f1,f2,d⟩
theorem Inv.unpinned{pl:List (Addr×Obj)}{σ:St}{H:Hp}(I:Inv X (pins++pl) σ H s):Inv X pins σ H s:=I.pins_of λp hp=>I.pin p (Ag _ (AF _ hp))
theorem JC{iter:Expr}{body:List Stmt}{wi:TI}{g:TG}{tb:TS}{pos:Pos}(hp:PassesOwn (model X.prog X.w) X.A X.env X.xe)(hc:X.calm=true)(hi:PI X tg iter wi)(hg:PG X tg g)(hb:PSs X body tb)
 (hs:∀x,Bp iter X.env x=pure x:=by intro _;rfl):PS X (.For tg iter body [] pos) (Qk wi g tb):=by
 intro pins s σ H D I h;refine wpAny_For (HJ (hi pins s σ H _ I h) λv s1 h1=>HJ h1 λitv s2 h2=>?_) hs;obtain⟨it,fp,tn,J,H2,e,I2,T,st2,f2,W,⟨m0,w0⟩,turn⟩:=h2;subst e;have stat:∀{H':Hp},(∀b∈fp,H' b=none)→∀b∈fp,HS X pins H' b:=λhn b hb=>⟨hn b hb,(f2 b hb).2⟩;refine codeAny_forLoop_any (λn s'=>∃i σ' H',Inv X pins σ' H' s'∧tn i s'.heap∧(∀b∈fp,H' b=none)∧W i n σ' H') ?_ m0 ⟨0,σ,H2,I2,st2,λb hb=>(f2 b hb).1,w0⟩;rintro n s3 ⟨i,σ3,H3,I3,st3,fr3,w3⟩;rcases turn i n σ3 H3 w3 with⟨stop,qn⟩ | ⟨go,N,hN,step⟩
 · refine CG hp (HJ (T.done X rfl rfl rfl hc i pins s3 σ3 H3 X.xe I3 (stat fr3) st3 stop) λr s4 ⟨hr,I4⟩=>?_);subst hr;exact Eb ⟨σ3,H3,I4,qn⟩
 · refine CG hp (HJ (T.item X rfl rfl rfl hc i pins s3 σ3 H3 X.xe I3 (stat fr3) st3 go) λr s4 ⟨u,hr,h4⟩=>?_);subst hr;refine CG hp (HJ h4 λ_ s5 ⟨x,H5,I5,r5,y5,st5,fr5⟩=>?_);have I5':=I5.pinned (stat fr5) (T.obj _ _ st5);refine CG hp (HJ (hg _ s5 σ3 H5 x u _ I5' r5 (step x H5 y5)) λ_ s6 ⟨σ6,H6,I6,q6⟩=>?_);refine CG hp (HJ (hb _ s6 σ6 H6 _ I6 q6) λf s7 q7=>?_);have again:∀{σ7:St}{H7:Hp},Inv X (pins++Ky fp s5.heap) σ7 H7 s7→N σ7 H7→∃m,m<n∧∃i σ' H',Inv X pins σ' H' s7∧tn i s7.heap∧(∀b∈fp,H' b=none)∧W i m σ' H':=λ{σ7 H7}I7 n7=>by
    obtain⟨m',hm,w7⟩:=hN σ7 H7 n7;refine⟨m',hm,i+1,σ7,H7,I7.unpinned,T.keep _ _ _ st5 λb hb o e=>(I7.pin (b,o) (Ag _ (Ag _ (JK hb e)))).1,λb hb=>?_,w7⟩;obtain⟨o,e,d⟩:=T.obj _ _ st5 b hb;exact(I7.pin (b,o) (Ag _ (Ag _ (JK hb e)))).2.1
   cases f with
   | next=>obtain⟨σ7,H7,I7,n7⟩:=q7;exact again I7 n7
   | cont=>obtain⟨σ7,H7,I7,n7⟩:=q7;exact again I7 n7
   | brk=>obtain⟨σ7,H7,I7,q7⟩:=q7;exact⟨σ7,H7,I7.unpinned,q7⟩
   | ret v=>obtain⟨x7,σ7,H7,I7,r7,q7⟩:=q7;exact⟨x7,σ7,H7,I7.unpinned,r7,q7⟩
end
theorem LG{K:Ad}{xs:List V}{g:TG}{tb:TS}{D:Ends}{σ:St}{H:Hp}(Pv:Nat→St→Hp→Prop)(h0:Pv 0 σ H)(hl:∀i σ H,i≤xs.length→Pv i σ H→SqL K H a xs)
 (hs:∀i x σ H,xs[i]?=some x→Pv i σ H→g x σ H λσ2 H2=>tb {D with nx:=Pv (i+1),ct:=Pv (i+1),bk:=D.nx} σ2 H2) (hd:∀σ H,Pv xs.length σ H→D.nx σ H):
 ∃W:Nat→Nat→St→Hp→Prop,(∃m,W 0 m σ H)∧∀i m σ H,W i m σ H→
  ((Ku K a).stop i H∧D.nx σ H)∨((Ku K a).go i H∧∃N:St→Hp→Prop,(∀σ' H',N σ' H'→∃m',m'<m∧W (i+1) m' σ' H')∧∀x H',(Ku K a).yld i H x H'→g x σ H' λσ2 H2=>tb {D with nx:=N,ct:=N,bk:=D.nx} σ2 H2):=by
 refine⟨λi m σ H=>m=xs.length - i∧i≤xs.length∧Pv i σ H,⟨xs.length,by simp,AC _,h0⟩,?_⟩;rintro i m σ H ⟨rfl,hi,p⟩;have q:=hl i σ H hi p;by_cases hlt:i<xs.length
 · refine .inr ⟨⟨xs,xs[i],q,by simp[hlt]⟩,Pv (i+1),λσ' H' p'=>⟨xs.length - (i+1),by omega,rfl,hlt,p'⟩,λx H' y=>?_⟩;obtain⟨e,y⟩:=y;subst e;exact hs i x σ _ (y xs q) p
 · have e:i=xs.length:=by omega
   subst e;exact .inl ⟨⟨xs,q,Af _⟩,hd σ H p⟩
theorem N2{K:Ad}{xs:List V}{g:TG}{tb:TS}{D:Ends}{σ:St}{H:Hp}(Pv:Nat→St→Hp→Prop)(h0:Pv 0 σ H)(hl:∀i σ H,i≤xs.length→Pv i σ H→SqT K H a xs)
 (hs:∀i x σ H,xs[i]?=some x→Pv i σ H→g x σ H λσ2 H2=>tb {D with nx:=Pv (i+1),ct:=Pv (i+1),bk:=D.nx} σ2 H2) (hd:∀σ H,Pv xs.length σ H→D.nx σ H):
 ∃W:Nat→Nat→St→Hp→Prop,(∃m,W 0 m σ H)∧∀i m σ H,W i m σ H→
  ((Lz K a).stop i H∧D.nx σ H)∨((Lz K a).go i H∧∃N:St→Hp→Prop,(∀σ' H',N σ' H'→∃m',m'<m∧W (i+1) m' σ' H')∧∀x H',(Lz K a).yld i H x H'→g x σ H' λσ2 H2=>tb {D with nx:=N,ct:=N,bk:=D.nx} σ2 H2):=by
 refine⟨λi m σ H=>m=xs.length - i∧i≤xs.length∧Pv i σ H,⟨xs.length,by simp,AC _,h0⟩,?_⟩;rintro i m σ H ⟨rfl,hi,p⟩;have q:=hl i σ H hi p;by_cases hlt:i<xs.length
 · refine .inr ⟨⟨xs,xs[i],q,by simp[hlt]⟩,Pv (i+1),λσ' H' p'=>⟨xs.length - (i+1),by omega,rfl,hlt,p'⟩,λx H' y=>?_⟩;obtain⟨e,y⟩:=y;subst e;exact hs i x σ _ (y xs q) p
 · have e:i=xs.length:=by omega
   subst e;exact .inl ⟨⟨xs,q,Af _⟩,hd σ H p⟩
theorem OY{lo:Int}{n:Nat}{g:TG}{tb:TS}{D:Ends}{σ:St}{H:Hp}(Pv:Nat→St→Hp→Prop)(h0:Pv 0 σ H)
 (hs:∀i σ H,i<n→Pv i σ H→g (.int (lo+i)) σ H λσ2 H2=>tb {D with nx:=Pv (i+1),ct:=Pv (i+1),bk:=D.nx} σ2 H2) (hd:∀σ H,Pv n σ H→D.nx σ H):
 ∃W:Nat→Nat→St→Hp→Prop,(∃m,W 0 m σ H)∧∀i m σ H,W i m σ H→
  ((L0 lo n).stop i H∧D.nx σ H)∨((L0 lo n).go i H∧∃N:St→Hp→Prop,(∀σ' H',N σ' H'→∃m',m'<m∧W (i+1) m' σ' H')∧∀x H',(L0 lo n).yld i H x H'→g x σ H' λσ2 H2=>tb {D with nx:=N,ct:=N,bk:=D.nx} σ2 H2):=by
 refine⟨λi m σ H=>m=n - i∧i≤n∧Pv i σ H,⟨n,by simp,AC _,h0⟩,?_⟩;rintro i m σ H ⟨rfl,hi,p⟩;by_cases hlt:i<n
 · refine .inr ⟨hlt,Pv (i+1),λσ' H' p'=>⟨n - (i+1),by omega,rfl,hlt,p'⟩,λx H' y=>?_⟩;obtain⟨e,y⟩:=y;subst e y;exact hs i σ _ hlt p
 · have e:i=n:=by omega
   subst e;exact .inl ⟨Af _,hd σ H p⟩
abbrev R2:=V→V→Hp→VK→Prop
def Iv(X:Cx)(f:Value→Value→Sem Value)(r:R2):Prop:=
 ∀(pins:List (Addr×Obj))(s:Shared)(σ:St)(H:Hp)(x y:V)(v u:Value)(Q:VK),Inv X pins σ H s→RelV x v→RelV y u→r x y H Q→
  wpAny (model X.prog X.w) X.A (f v u) (EP X pins σ Q) X.xe s
def QH(X:Cx)(f:Value→Sem Value)(r:V→Hp→VK→Prop):Prop:=
 ∀(pins:List (Addr×Obj))(s:Shared)(σ:St)(H:Hp)(x:V)(v:Value)(Q:VK),Inv X pins σ H s→RelV x v→r x H Q→
  wpAny (model X.prog X.w) X.A (f v) (EP X pins σ Q) X.xe s
def JA(X:Cx)(f:Value)(r:List V→Hp→VK→Prop):Prop:=
 ∀(pins:List (Addr×Obj))(s:Shared)(σ:St)(H:Hp)(xs:List V)(us:List Value)(Q:VK),Inv X pins σ H s→Vals xs us→r xs H Q→
  wpAny (model X.prog X.w) X.A (call f us) (EP X pins σ Q) X.xe s
def Mm(r:R2)(ta tb:TE):TE:=λσ H Q=>ta σ H λx H1=>tb σ H1 λy H2=>r x y H2 Q
def tUn(r:V→Hp→VK→Prop)(ta:TE):TE:=λσ H Q=>ta σ H λx H1=>r x H1 Q
def rI(C:Int→Int→Prop)(g:Int→Int→V):R2:=λx y H Q=>∃i j,x= .int i∧y= .int j∧C i j∧Q (g i j) H
def KP(g:Int→Int→V):R2:=λx y H Q=>∃i j,x= .int i∧y= .int j∧Q (g i j) H
def rU(g:Int→V):V→Hp→VK→Prop:=λx H Q=>∃i,x= .int i∧Q (g i) H
section
variable{X:Cx}{a b c:Expr}{ta tb tc:TE}
theorem LP(ha:PE X a ta)(hb:PE X b tb){σ:St}{H:Hp}{R:V→V→Hp→Prop}(I:Inv X pins σ H s)
 (h:ta σ H λx H1=>tb σ H1 λy H2=>R x y H2) {Q:Value→Shared→Prop} {f:Value→Value→Sem Value}
 (hf:∀v u s2 x y H2,Inv X pins σ H2 s2→RelV x v→RelV y u→R x y H2→wpAny (model X.prog X.w) X.A (f v u) Q X.xe s2):
 wpAny (model X.prog X.w) X.A (eval a X.env) (λv s₁=>wpAny (model X.prog X.w) X.A (eval b X.env) (λu s₂=>wpAny (model X.prog X.w) X.A (f v u) Q X.xe s₂) X.xe s₁) X.xe s:=by
 refine HJ (ha pins s σ H _ I h) λv s1 ⟨x,H1,I1,r1,q1⟩=>?_;refine HJ (hb pins s1 σ H1 _ I1 q1) λu s2 ⟨y,H2,I2,r2,q2⟩=>?_;exact hf v u s2 x y H2 I2 r1 r2 q2
theorem HU{op:Operator}{r:R2}(ho:Iv X (binaryOp op) r)(ha:PE X a ta)(hb:PE X b tb):PE X (.BinOp a op b pos) (Mm r ta tb):=by intro pins s σ H Q I h;exact wpAny_BinOp (LP ha hb I h λv u s2 x y H2 I2 rx ry q=>ho pins s2 σ H2 x y v u Q I2 rx ry q)
theorem Om{op:UnaryOp}{r:V→Hp→VK→Prop}(ho:QH X (unaryOp op) r)(ha:PE X a ta):PE X (.UnaryOp op a pos) (tUn r ta):=by intro pins s σ H Q I h;exact UnaryOp_ (HJ (ha pins s σ H _ I h) λv s1 ⟨x,H1,I1,r1,q1⟩=>ho pins s1 σ H1 x v Q I1 r1 q1)
theorem MQ{f:Value→Value→Sem Value}{C:Int→Int→Prop}{g:Int→Int→Int}
 (rule:∀(i j:Int)(t u:Tok)(s:Shared)(Q:Value→Shared→Prop)(E:Value→Shared→Prop),C i j→Q (.int (g i j) s.toks) {s with toks:=s.toks+1}→wpAny (model X.prog X.w) X.A (f (.int i t) (.int j u)) Q E s):
 Iv X f (rI C λi j=> .int (g i j)):=by
 intro pins s σ H x y v u Q I rx ry h;obtain⟨i,j,rfl,rfl,hc,q⟩:=h;obtain⟨t,rfl⟩:=rx;obtain⟨t',rfl⟩:=ry;exact rule i j t t' s _ _ hc ⟨.int (g i j),H,I.tok _,⟨_,rfl⟩,q⟩
theorem MP{f:Value→Value→Sem Value}{g:Int→Int→Int}
 (rule:∀(i j:Int)(t u:Tok)(s:Shared)(Q:Value→Shared→Prop)(E:Value→Shared→Prop),Q (.int (g i j) s.toks) {s with toks:=s.toks+1}→wpAny (model X.prog X.w) X.A (f (.int i t) (.int j u)) Q E s):
 Iv X f (KP λi j=> .int (g i j)):=by
 intro pins s σ H x y v u Q I rx ry h;obtain⟨i,j,rfl,rfl,q⟩:=h;obtain⟨t,rfl⟩:=rx;obtain⟨t',rfl⟩:=ry;exact rule i j t t' s _ _ ⟨.int (g i j),H,I.tok _,⟨_,rfl⟩,q⟩
theorem KQ{f:Value→Value→Sem Value}{g:Int→Int→Bool}
 (rule:∀(i j:Int)(t u:Tok)(s:Shared)(Q:Value→Shared→Prop)(E:Value→Shared→Prop),Q (.bool (g i j)) s→wpAny (model X.prog X.w) X.A (f (.int i t) (.int j u)) Q E s):
 Iv X f (KP λi j=> .bl (g i j)):=by
 intro pins s σ H x y v u Q I rx ry h;obtain⟨i,j,rfl,rfl,q⟩:=h;obtain⟨t,rfl⟩:=rx;obtain⟨t',rfl⟩:=ry;exact rule i j t t' s _ _ ⟨.bl (g i j),H,I,rfl,q⟩
def CMul(i j:Int):Prop:=(-(2^64)<i∧i<2^64)∨(-(2^64)<j∧j<2^64)
theorem CMul.ok{i j:Int}(h:CMul i j):IntMulOk i j:=by
 rcases h with⟨h1,h2⟩ | ⟨h1,h2⟩
 · exact .of_left (intBits_le_64 h1 h2)
 · exact .of_right (intBits_le_64 h1 h2)
theorem IM:Iv X (binaryOp .Add) (KP λi j=> .int (i+j)):=MP λ_ _ _ _ _ _ _ q=>add_int q
theorem Lh:Iv X (binaryOp .Sub) (KP λi j=> .int (i - j)):=MP λ_ _ _ _ _ _ _ q=>sub_int q
theorem LB:Iv X (binaryOp .Mult) (rI CMul λi j=> .int (i*j)):=MQ λ_ _ _ _ _ _ _ hc q=>mul_int q hc.ok
theorem KB:Iv X (binaryOp .Mod) (rI (λ_ j=>0<j) λi j=> .int (i%j)):=MQ λi j _ _ _ _ _ hc q=>by have h1:(0:Int)<j:=hc;exact mod_int' (by omega) (by rw[Int.fmod_eq_emod_of_nonneg i (by omega)];exact q)
theorem unI{f:Value→Sem Value}{g:Int→Int}
 (rule:∀(i:Int)(t:Tok)(s:Shared)(Q:Value→Shared→Prop)(E:Value→Shared→Prop),Q (.int (g i) s.toks) {s with toks:=s.toks+1}→wpAny (model X.prog X.w) X.A (f (.int i t)) Q E s):
 QH X f (rU λi=> .int (g i)):=by
 intro pins s σ H x v Q I rx h;obtain⟨i,rfl,q⟩:=h;obtain⟨t,rfl⟩:=rx;exact rule i t s _ _ ⟨.int (g i),H,I.tok _,⟨_,rfl⟩,q⟩
theorem O7:QH X (unaryOp .USub) (rU λi=> .int (-i)):=unI λ_ _ _ _ _ q=>neg_int q
end
def MI:V→V→Bool
 | .non,.non=>true | .non,.int _=>true | .int _,.non=>true | .non,.bl _=>true | .bl _,.non=>true | .non,.str _=>true | .str _,.non=>true
 | .int _,.int _=>true | .bl _,.bl _=>true | .str _,.str _=>true | .byt _,.byt _=>true
 | .int _,.str _=>true | .str _,.int _=>true | .bl _,.str _=>true | .str _,.bl _=>true
 | _,_=>false
def UO:R2:=λx y H Q=>MI x y=true∧Q (.bl (decide (x=y))) H
def rNe:R2:=λx y H Q=>MI x y=true∧Q (.bl (!decide (x=y))) H
theorem Sm{i j:Int}:decide (V.int i=V.int j)=(i==j):=by rw[Bb];simp
theorem Rq{i j:Bool}:decide (V.bl i=V.bl j)=(i==j):=by rw[Bb];simp
theorem So{i j:Str}:decide (V.str i=V.str j)=(i==j):=by rw[Bb];simp
theorem Sl{i j:Array UInt8}:decide (V.byt i=V.byt j)=(i.toList==j.toList):=by rw[Bb];cases i;cases j;simp
section
variable{X:Cx}{a b c:Expr}{ta tb tc:TE}
theorem IG{σ:St}{H:Hp}{Q:VK}{k k':Bool}(I:Inv X pins σ H s)(q:Q (.bl k) H)(e:k=k'):EP X pins σ Q (.bool k') s:=by subst e;exact⟨.bl k,H,I,rfl,q⟩
theorem Jg:Iv X (AY .Eq) UO:=by
 intro pins s σ H x y v u Q I rx ry h;obtain⟨hs,q⟩:=h;cases x with
 | non=>
  cases rx;cases y with
  | non=>cases ry;exact PySem.EqNone.eq_none_none (IG I q (by simp))
  | bl j=>cases ry;exact PySem.EqNone.eq_none_bool (IG I q (by simp))
  | int j=>obtain⟨t',rfl⟩:=ry;exact PySem.EqNone.eq_none_int (IG I q (by simp))
  | str j=>obtain⟨t',rfl⟩:=ry;exact PySem.EqNone.eq_none_str (IG I q (by simp))
  | _=>exact absurd (show false=true from hs) An
 | bl i=>
  cases rx;cases y with
  | non=>cases ry;exact PySem.EqNone.eq_bool_none (IG I q (by simp))
  | bl j=>cases ry;exact eq_bool (IG I q Rq)
  | str j=>obtain⟨t',rfl⟩:=ry;exact PySem.EqMixed.eq_bool_str (IG I q (by simp))
  | _=>exact absurd (show false=true from hs) An
 | int i=>
  obtain⟨t,rfl⟩:=rx;cases y with
  | non=>cases ry;exact PySem.EqNone.eq_int_none (IG I q (by simp))
  | int j=>obtain⟨t',rfl⟩:=ry;exact eq_int (IG I q Sm)
  | str j=>obtain⟨t',rfl⟩:=ry;exact PySem.EqMixed.eq_int_str (IG I q (by simp))
  | _=>exact absurd (show false=true from hs) An
 | str i=>
  obtain⟨t,rfl⟩:=rx;cases y with
  | non=>cases ry;exact PySem.EqNone.eq_str_none (IG I q (by simp))
  | bl j=>cases ry;exact PySem.EqMixed.eq_str_bool (IG I q (by simp))
  | int j=>obtain⟨t',rfl⟩:=ry;exact PySem.EqMixed.eq_str_int (IG I q (by simp))
  | str j=>obtain⟨t',rfl⟩:=ry;exact eq_str (IG I q So)
  | _=>exact absurd (show false=true from hs) An
 | byt i=>
  obtain⟨t,rfl⟩:=rx;cases y with
  | byt j=>obtain⟨t',rfl⟩:=ry;exact PySem.W.eq_bytes (IG I q Sl)
  | _=>exact absurd (show false=true from hs) An
 | _=>cases y<;>exact absurd (show false=true from hs) An
theorem L5:Iv X (AY .NotEq) rNe:=by
 intro pins s σ H x y v u Q I rx ry h;obtain⟨hs,q⟩:=h;cases x with
 | non=>
  cases rx;cases y with
  | non=>cases ry;exact PySem.EqNone.ne_none_none (IG I q (by simp))
  | bl j=>cases ry;exact PySem.EqNone.ne_none_bool (IG I q (by simp))
  | int j=>obtain⟨t',rfl⟩:=ry;exact PySem.EqNone.ne_none_int (IG I q (by simp))
  | str j=>obtain⟨t',rfl⟩:=ry;exact PySem.EqNone.ne_none_str (IG I q (by simp))
  | _=>exact absurd (show false=true from hs) An
 | bl i=>
  cases rx;cases y with
  | non=>cases ry;exact PySem.EqNone.ne_bool_none (IG I q (by simp))
  | bl j=>cases ry;exact ne_bool (IG I q (congrArg not Rq))
  | str j=>obtain⟨t',rfl⟩:=ry;exact PySem.EqMixed.ne_bool_str (IG I q (by simp))
  | _=>exact absurd (show false=true from hs) An
 | int i=>
  obtain⟨t,rfl⟩:=rx;cases y with
  | non=>cases ry;exact PySem.EqNone.ne_int_none (IG I q (by simp))
  | int j=>obtain⟨t',rfl⟩:=ry;exact ne_int (IG I q (congrArg not Sm))
  | str j=>obtain⟨t',rfl⟩:=ry;exact PySem.EqMixed.ne_int_str (IG I q (by simp))
  | _=>exact absurd (show false=true from hs) An
 | str i=>
  obtain⟨t,rfl⟩:=rx;cases y with
  | non=>cases ry;exact PySem.EqNone.ne_str_none (IG I q (by simp))
  | bl j=>cases ry;exact PySem.EqMixed.ne_str_bool (IG I q (by simp))
  | int j=>obtain⟨t',rfl⟩:=ry;exact PySem.EqMixed.ne_str_int (IG I q (by simp))
  | str j=>obtain⟨t',rfl⟩:=ry;exact ne_str (IG I q (congrArg not So))
  | _=>exact absurd (show false=true from hs) An
 | byt i=>
  obtain⟨t,rfl⟩:=rx;cases y with
  | byt j=>obtain⟨t',rfl⟩:=ry;exact PySem.W.ne_bytes (IG I q (congrArg not Sl))
  | _=>exact absurd (show false=true from hs) An
 | _=>cases y<;>exact absurd (show false=true from hs) An
theorem Mu:Iv X (AY .Lt) (KP λi j=> .bl (decide (i<j))):=KQ λ_ _ _ _ _ _ _ q=>lt_int q
theorem Kw:Iv X (AY .LtE) (KP λi j=> .bl (decide (i≤j))):=KQ λ_ _ _ _ _ _ _ q=>le_int q
theorem LZ:Iv X (AY .Gt) (KP λi j=> .bl (decide (j<i))):=KQ λ_ _ _ _ _ _ _ q=>gt_int q
theorem Vi:Iv X (AY .GtE) (KP λi j=> .bl (decide (j≤i))):=KQ λ_ _ _ _ _ _ _ q=>ge_int q
theorem Yf:Iv X (AY .Lt) (λx y H Q=>∃i j,x= .str i∧y= .str j∧Q (.bl (decide (i.cps.toList<j.cps.toList))) H):=by intro pins s σ H x y v u Q I rx ry h;obtain⟨i,j,rfl,rfl,q⟩:=h;obtain⟨t,rfl⟩:=rx;obtain⟨t',rfl⟩:=ry;exact lt_str (IG I q rfl)
theorem Ie(b:Expr){op:CmpOp}(h:op≠ .In:=by decide)(h2:op≠ .NotIn:=by decide):behindInMarks op b=false:=by
 have e1:(op==CmpOp.In)=false:=by cases op<;>first | rfl | exact absurd rfl h
 have e2:(op==CmpOp.NotIn)=false:=by cases op<;>first | rfl | exact absurd rfl h2
 cases b<;>simp[behindInMarks,e1,e2]
theorem K2{op:CmpOp}{r:R2}(ho:Iv X (AY op) r)(ha:PE X a ta)(hb:PE X b tb)(hm:behindInMarks op b=false):PE X (.Compare a [op] [b] pos) (Mm r ta tb):=by intro pins s σ H Q I h;exact wpAny_Compare1 (LP ha hb I h λv u s2 x y H2 I2 rx ry q=>ho pins s2 σ H2 x y v u Q I2 rx ry q) hm
def Oq(t:TE):TT:=λσ H Q=>t σ H λx H'=>∃k,x= .bl k∧Q k H'
theorem Ig{op:CmpOp}{r:R2}(ho:Iv X (AY op) r)(ha:PE X a ta)(hb:PE X b tb)(hm:behindInMarks op b=false):PT X (.Compare a [op] [b] pos) (Oq (Mm r ta tb)):=by intro pins s σ H Q I h;refine wpAny_isTrue_Compare1 (HJ (ha pins s σ H _ I h) λv s1 ⟨x,H1,I1,r1,q1⟩=>HJ (hb pins s1 σ H1 _ I1 q1) λu s2 ⟨y,H2,I2,r2,q2⟩=> HJ (ho pins s2 σ H2 x y v u _ I2 r1 r2 q2) λc s3 ⟨z,H3,I3,r3,k,e,q3⟩=>?_) hm;subst e;cases r3;exact Bf ⟨H3,I3,q3⟩
def Rm(r r':R2)(ta tb tc:TE):TE:=λσ H Q=>ta σ H λx H1=>tb σ H1 λy H2=>r x y H2 λz H3=>∃k,z= .bl k∧
 (if k=true then tc σ H3 λw' H4=>r' y w' H4 Q else Q (.bl false) H3)
theorem Pe{op op':CmpOp}{r r':R2}(ho:Iv X (AY op) r)(ho':Iv X (AY op') r')(ha:PE X a ta)(hb:PE X b tb)(hc:PE X c tc)
 (hm:lastMarks [op,op'] [b,c]=false:=by with_unfolding_all rfl):PE X (.Compare a [op,op'] [b,c] pos) (Rm r r' ta tb tc):=by
 intro pins s σ H Q I h;refine Compare_chain (HJ (ha pins s σ H _ I h) λv s1 ⟨x,H1,I1,r1,q1⟩=>chain_link (HJ (hb pins s1 σ H1 _ I1 q1) λu s2 ⟨y,H2,I2,r2,q2⟩=> HJ (ho pins s2 σ H2 x y v u _ I2 r1 r2 q2) λd s3 ⟨z,H3,I3,r3,k,e,q3⟩=>?_)) hm;subst e;cases r3;refine Bf ?_;cases k with
 | false=>exact ite_ff ⟨.bl false,H3,I3,rfl,q3⟩
 | true=>exact ite_tt (chain_last (HJ (hc pins s3 σ H3 _ I3 q3) λw' s4 ⟨z',H4,I4,r4,q4⟩=>ho' pins s4 σ H4 y z' u w' Q I4 r2 r4 q4))
theorem X8{op op':CmpOp}{r r':R2}(ho:Iv X (AY op) r)(ho':Iv X (AY op') r')(ha:PE X a ta)(hb:PE X b tb)(hc:PE X c tc)
 (hm:lastMarks [op,op'] [b,c]=false:=by with_unfolding_all rfl):PT X (.Compare a [op,op'] [b,c] pos) (Oq (Rm r r' ta tb tc)):=by
 intro pins s σ H Q I h;refine isTrue_chain (HJ (ha pins s σ H _ I h) λv s1 ⟨x,H1,I1,r1,q1⟩=>test_link (HJ (hb pins s1 σ H1 _ I1 q1) λu s2 ⟨y,H2,I2,r2,q2⟩=> HJ (ho pins s2 σ H2 x y v u _ I2 r1 r2 q2) λd s3 ⟨z,H3,I3,r3,k,e,q3⟩=>?_)) hm;subst e;cases r3;refine Bf ?_;cases k with
 | false=> obtain⟨k',e',q'⟩:=q3;cases e';exact ite_ff ⟨H3,I3,q'⟩
 | true=> refine ite_tt (test_last (HJ (hc pins s3 σ H3 _ I3 q3) λw' s4 ⟨z',H4,I4,r4,q4⟩=>HJ (ho' pins s4 σ H4 y z' u w' _ I4 r2 r4 q4) λd' s5 ⟨z2,H5,I5,r5,k2,e2,q5⟩=>?_));subst e2;cases r5;exact Bf ⟨H5,I5,q5⟩
theorem L_:(Aw:Nat)<2^63:=by rw[sizeLine_eq];decide
theorem NQ:Iv X (binaryOp .Add) (λx y H Q=>∃i j,x= .str i∧y= .str j∧i.length+j.length≤Aw∧Q (.str (i++j)) H):=by intro pins s σ H x y v u Q I rx ry h;obtain⟨i,j,rfl,rfl,hz,q⟩:=h;obtain⟨t,rfl⟩:=rx;obtain⟨t',rfl⟩:=ry;exact add_str (λt' tk=>⟨.str (i++j),H,I.tok _,⟨_,rfl⟩,q⟩) hz
theorem JT{x:V}(r:Vals [x] us):∃u,us=[u]∧RelV x u:=by
 cases r with
 | cons r1 r2=>cases r2;exact⟨_,rfl,r1⟩
theorem Mw{x y:V}(r:Vals [x,y] us):∃u w',us=[u,w']∧RelV x u∧RelV y w':=by
 cases r with
 | cons r1 r2=>
  cases r2 with
  | cons r3 r4=>cases r4;exact⟨_,_,rfl,r1,r3⟩
theorem OT:JA X (.builtin "abs") (λxs H Q=>∃i,xs=[.int i]∧Q (.int (if i<0 then -i else i)) H):=by intro pins s σ H xs us Q I r h;obtain⟨i,rfl,q⟩:=h;obtain⟨u,rfl,t,rfl⟩:=JT r;exact call_abs_int λu tk=>⟨.int (if i<0 then -i else i),H,I.tok _,⟨_,rfl⟩,q⟩
theorem Xy(hc:X.calm=true):JA X (.builtin "max") (λxs H Q=>∃i j,xs=[.int i,.int j]∧Q (.int (if j>i then j else i)) H):=by
 intro pins s σ H xs us Q I r h;obtain⟨i,j,rfl,q⟩:=h;obtain⟨u,w',rfl,⟨t,rfl⟩,⟨t',rfl⟩⟩:=Mw r;refine max_two_ints (I.ok.hd hc) λh' tk k=>⟨_,H,I.kept k,?_,q⟩;by_cases hj:j>i
 · rw[if_pos hj,if_pos hj];exact⟨_,rfl⟩
 · rw[if_neg hj,if_neg hj];exact⟨_,rfl⟩
theorem OV(hc:X.calm=true):JA X (.builtin "min") (λxs H Q=>∃i j,xs=[.int i,.int j]∧Q (.int (if j<i then j else i)) H):=by
 intro pins s σ H xs us Q I r h;obtain⟨i,j,rfl,q⟩:=h;obtain⟨u,w',rfl,⟨t,rfl⟩,⟨t',rfl⟩⟩:=Mw r;refine min_two_ints (I.ok.hd hc) λh' tk k=>⟨_,H,I.kept k,?_,q⟩;by_cases hj:j<i
 · rw[if_pos hj,if_pos hj];exact⟨_,rfl⟩
 · rw[if_neg hj,if_neg hj];exact⟨_,rfl⟩
end
structure ObjM(h:Heap)(x dx C:Addr)(mA:Str→Option Value):Prop where
 obj:h.get? x=some (Fg C dx)
 ns:h.Ns1 dx mA
 ne:dx≠x
theorem Yx{dx:Addr}{mA:Str→Option Value}(n:h.Ns1 dx mA):∃od,h.get? dx=some od∧∀name,Fz name od=some (mA name):=by
 obtain⟨o,es,ep,ho,hd,hk,_,hm⟩:=n;refine⟨o,ho,λname=>?_⟩;have e:=hm name;unfold nsFind findBy at e;rw[←Array.find?_toList] at e;unfold Fz;rw[hd];dsimp only
 split
 · rename_i y q;rw[q] at e;exact congrArg some e
 · rename_i q;rw[q] at e;have a:es.toList.any (·.refKey)=false:=by
    rw[List.any_eq_false];intro y hy;obtain⟨z,t,hkey⟩:=hk y (Dm.mp hy);simp[DictEntry.refKey,hkey]
   have a':¬es.toList.any (·.refKey)=true:=by rw[a];exact An
   rw[if_neg a'];exact congrArg some e
theorem ObjM.look{x dx C:Addr}{mA:Str→Option Value}(I:ObjM h x dx C mA):∃od,PySem.W.InstAt h x (Fg C dx) C (some od)∧∀name,Fz name od=some (mA name):=
 let⟨od,ho,hl⟩:=Yx I.ns
 ⟨od,⟨I.obj,rfl,rfl,ho⟩,hl⟩
section
variable{K:Ad}{x dx C f:Addr}{mA:Str→Option Value}{name:Str}{v:Value}
end
theorem RelO.some_of{v:V}{o:Option Value}(r:RelO (some v) o):∃u,o=some u∧RelV v u:=by
 cases o with
 | none=>exact(show False from r).elim
 | some u=>exact⟨u,rfl,r⟩
section
variable{H H':Hp}{h':Heap}{C dx:Addr}{fs fs':List (Str×V)}
theorem WM(hok:HOk P w H h)(e:H a=some (.ins C dx fs)):∃mA,ObjM h a dx C mA∧(∀f,RelO (fs.lookup f) (mA f))∧PySem.Within mA (fs.map (·.1))∧fs.length≤1000∧H dx=some (.own a):=by obtain⟨d,z,ne,ob,mA,n,r,q⟩:=(show ObjOk P w H h a (.ins C dx fs) from hok a _ e);exact⟨mA,⟨ob,n,ne⟩,r,q,z,d⟩
end
structure Cls(K:Ad)(C:Addr):Prop where
 pg:PySem.W.plainGet K C Str.empty=true
 hd:PySem.W.hasDictIn K C=true
 po:PySem.W.plainOver K C=true
 sa:PySem.W.findIn K (.ref C) "__setattr__"=some (some (.builtin "object.__setattr__"))
theorem Cls.get{K:Ad}{C:Addr}(c:Cls K C)(f:Str):PySem.W.plainGet K C f=true:=c.pg
section
variable{X:Cx}{σ:St}{H:Hp}{C dx:Addr}{fs:List (Str×V)}{f:Str}{v:V}
end
section
variable{X:Cx}{o value:Expr}{f:Str}{pos' tpos:Pos}{ta tv:TE}
end
section
variable{X:Cx}{σ:St}{H:Hp}{Q:Value→Shared→Prop}{c:Value}{b:Bool}
inductive TyOf(K:Ad)(H:Hp):V→Value→Prop where
 | non:TyOf K H .non (.type "NoneType")
 | bl (x:Bool):TyOf K H (.bl x) (.type "bool")
 | int (i:Int):TyOf K H (.int i) (.type "int")
 | str (x:Str):TyOf K H (.str x) (.type "str")
 | flt (x:UInt64):TyOf K H (.flt x) (.type "float")
 | lst {a:Addr} {xs:List V} (e:H a=some (.lst xs)):TyOf K H (.ref a) (.type "list")
 | frz {a:Addr} {o:Obj} {xs:List V} (e:H a=some (.frz o (.lst xs))):TyOf K H (.ref a) (.type "list")
 | tup {a:Addr} {xs:List V} (e:H a=some (.tup xs)):TyOf K H (.ref a) (.type "tuple")
 | dK {a:Addr} {kvs:List (Iq×V)} (e:H a=some (.dK kvs)):TyOf K H (.ref a) (.type "dict")
 | dT {a:Addr} {kvs:List (List Iq×V)} (e:H a=some (.dT kvs)):TyOf K H (.ref a) (.type "dict")
 | ins {a C dx:Addr} {fs:List (Str×V)} (e:H a=some (.ins C dx fs)) (cl:Cls K C) (ha:PySem.W.findIn K (.ref C) "__class__"=some (some (.builtin "object.__class__")))
  (hn:PySem.W.specialIn K (.builtin "object.__class__") "__get__"=some (some (.builtin "getset_descriptor.__get__"))) (htk:PySem.W.takesIn K (.builtin "object.__class__")=some true)
  (hm:PySem.W.mroIn K C (.type "object")=some true):TyOf K H (.ref a) (.ref C)
theorem Yt{x:V}{t:Value}(I:Inv X pins σ H s)(rx:RelV x u)(ty:TyOf X.K H x t)(e:PySem.W.kitOne X.K t c=some b)(h:∀tk,Q (.bool b) {s with toks:=tk}):
 wpAny (model X.prog X.w) A (call (.builtin "isinstance") [u,c]) Q E s:=by
 cases ty with
 | non=>cases(show u=Value.none from rx);exact BM PySem.W.kitx_none I.kIn True.intro e (λz=>nomatch z) h
 | bl y=>cases(show u=Value.bool y from rx);exact BM PySem.W.kitx_bool I.kIn True.intro e (λz=>nomatch z) h
 | int i=>obtain⟨t,q⟩:=(show ∃t,u=Value.int i t from rx);cases q;exact BM PySem.W.kitx_int I.kIn True.intro e (λz=>nomatch z) h
 | str y=>obtain⟨t,q⟩:=(show ∃t,u=Value.str y t from rx);cases q;exact BM PySem.W.kitx_str I.kIn True.intro e (λz=>nomatch z) h
 | flt y=>obtain⟨t,q⟩:=(show ∃t,u=Value.float y t from rx);cases q;exact BM PySem.W.kitx_float I.kIn True.intro e (λz=>nomatch z) h
 | @lst a xs ea=> cases(show u=Value.ref a from rx);obtain⟨_,_,n,_,h1⟩:=(show ObjOk X.prog X.w H s.heap a (.lst xs) from I.hok a _ ea);exact BM DI I.kIn ⟨_,h1,rfl⟩ e (λz=>nomatch z) h
 | @frz a ob xs ea=> cases(show u=Value.ref a from rx);obtain⟨_,_,_,n,_,h1⟩:=(show ObjOk X.prog X.w H s.heap a (.frz ob (.lst xs)) from I.hok a _ ea);exact BM DI I.kIn ⟨_,h1,rfl⟩ e (λz=>nomatch z) h
 | @tup a xs ea=> cases(show u=Value.ref a from rx);obtain⟨_,_,_,p⟩:=(show ObjOk X.prog X.w H s.heap a (.tup xs) from I.hok a _ ea);obtain⟨o,h1,h2,_⟩:=p;exact BM PySem.W.kitx_tuple I.kIn ⟨o,h1,h2⟩ e (λz=>nomatch z) h
 | @dK a kvs ea=> cases(show u=Value.ref a from rx);obtain⟨_,_,vs,_,p⟩:=(show ObjOk X.prog X.w H s.heap a (.dK kvs) from I.hok a _ ea);obtain⟨o,es,ep,h1,h2,_⟩:=p;exact BM DJ I.kIn ⟨o,h1,h2.1⟩ e (λz=>nomatch z) h
 | @dT a kvs ea=> cases(show u=Value.ref a from rx);obtain⟨_,_,xs,_,o,es,ep,h1,h2,_⟩:=(show ObjOk X.prog X.w H s.heap a (.dT kvs) from I.hok a _ ea);exact BM DJ I.kIn ⟨o,h1,h2.1⟩ e (λz=>nomatch z) h
 | @ins a C dx fs ea cl ha hn htk hm=> cases(show u=Value.ref a from rx);obtain⟨mA,O,_⟩:=WM I.hok ea;obtain⟨od,J,_⟩:=O.look;exact BM (PySem.W.kitx_own (cl.get _) cl.hd ha hn htk hm) I.kIn J e (λz=>nomatch z) h
end
structure Room(k:Nat)(A:Bn):Prop where
 hd:A.handled=none
 dp:A.depth+3*k+5<recursionLimit
 un:A.units+16*k+200<cLine
 gd:A.guards=some []
theorem Room.mono{j k:Nat}(r:Room k A)(h:j≤k):Room j A:=⟨r.hd,by have:=r.dp;omega,by have:=r.un;omega,r.gd⟩
theorem Room.deeper{k:Nat}(r:Room (k+1) A)(env:Env):Room k (A.deeper env):=
 ⟨r.hd,by have:=r.dp;show A.depth+1+3*k+5<_;omega,by have:=r.un;show A.units+3+16*k+200<_;omega,r.gd⟩
theorem Room.in1{k:Nat}(r:Room (k+1) A):Room k A.in1:=
 ⟨r.hd,by have:=r.dp;show A.depth+3*k+5<_;omega,by have:=r.un;show A.units+1+16*k+200<_;omega,r.gd⟩
theorem Room.depth{k:Nat}(r:Room k A):A.depth<recursionLimit:=by have:=r.dp;omega
theorem Room.units{k:Nat}(r:Room k A):A.units+64<cLine:=by have:=r.un;omega
def MH:TA:=λ_ H Q=>Q [] H
def Rc(ta:TE)(tr:TA):TA:=λσ H Q=>ta σ H λx H1=>tr σ H1 λxs H2=>Q (x::xs) H2
section
variable{X:Cx}{es:List Expr}{te:TE}{t:TA}
theorem HC:PA X [] MH:=λ_ _ _ _ H Q I h=>DK ⟨[],H,I,.nil,h⟩
theorem HB(ha:PE X e te)(hr:PA X es t)(hs:A6 (e::es) X.env=(false,eval e X.env)::A6 es X.env:=by rfl):PA X (e::es) (Rc te t):=by intro pos pins s σ H Q I h;rw[hs];show wpAny _ _ (spliced ((false,eval e X.env)::backTo pos (A6 es X.env))) _ _ s;refine D0 (HJ (ha pins s σ H _ I h) λu s1 ⟨x,H1,I1,r1,q1⟩=>?_);exact HJ (hr pos pins s1 σ H1 _ I1 q1) λus s2 ⟨xs,H2,I2,r2,q2⟩=>⟨x::xs,H2,I2,.cons r1 r2,q2⟩
def Qb(t:TA):TE:=λσ H Q=>t σ H λxs H1=>xs.length≤Aw∧∀p,H1 p=none→Q (.ref p) (HD H1 p (.tup xs))
def Qg(t:TA):TE:=λσ H Q=>t σ H λxs H1=>xs.length≤Aw∧∀p,H1 p=none→Q (.ref p) (HD H1 p (.lst xs))
theorem I_{x1}(h:PA X es t):PE X (.Tuple es x1 pos) (Qb t):=by intro pins s σ H Q I hq;refine wpAny_Tuple_spliced (HJ (h pos pins s σ H _ I hq) λus s1 ⟨xs,H1,I1,r,z,q⟩=>⟨by rw[←r.length];exact z,?_⟩);have hf:H1 s1.heap.objs.size=none:=I1.hok.fresh (Af _);refine⟨.ref s1.heap.objs.size,HD H1 s1.heap.objs.size (.tup xs),I1.laid (t':=s1.toks) (λb u e=>Ae _ e) (Af _) ?_,rfl,q _ hf⟩;exact⟨z,us,r,⟨_,Au _ rfl,rfl,rfl,_,rfl⟩⟩
theorem IP(h:PA X es t):PE X (.List es pos) (Qg t):=by intro pins s σ H Q I hq;refine wpAny_List_spliced (HJ (h pos pins s σ H _ I hq) λus s1 ⟨xs,H1,I1,r,z,q⟩=>⟨by rw[←r.length];exact z,?_⟩);have hf:H1 s1.heap.objs.size=none:=I1.hok.fresh (Af _);refine⟨.ref s1.heap.objs.size,HD H1 s1.heap.objs.size (.lst xs),I1.laid (t':=s1.toks) (λb u e=>Ae _ e) (Af _) ?_,rfl,q _ hf⟩;exact⟨z,us,0,r,Au _ rfl⟩
end
abbrev Sp:=List V→Hp→VK→XK→Prop
abbrev Kv:=List Env→Hp→Shared→XK→Value→Shared→Prop
structure Env0(P:AU)(w:World)(K:Ad)(mg:Str→Option Value)(base:Heap)(A:Bn)(outer:List Env)(s:Shared)(H:Hp):Prop where
 frames:A.frames=some outer
 mod:Mod K mg base
 bs:∀b o,base.get? b=some o→s.heap.get? b=some o∧H b=none
 bsz:base.objs.size≤s.heap.objs.size
 funs:s.heap.FunFrames base outer
 frf:∀b∈Ks outer,H b=none
 hok:HOk P w H s.heap
 bare:AllBare s.gens
def CE(outer:List Env)(P:AU)(w:World)(H:Hp)(s:Shared)(Q:VK)(u:Value)(s':Shared):Prop:=
 ∃v H',s'.os=s.os∧AllBare s'.gens∧Un (Ks outer) [] H H' s.heap s'.heap∧HOk P w H' s'.heap∧RelV v u∧Q v H'
def CR(CX:Kv)(outer:List Env)(P:AU)(w:World)(H:Hp)(s:Shared)(Q:VK)(E:XK)(r:Result)(s':Shared):Prop:=
 match r with
 | .ok (.ret u)=>CE outer P w H s Q u s'
 | .ok _=>False
 | .error e=>CX outer H s E e s'
structure FnOk(P:AU)(w:World)(K:Ad)(mg:Str→Option Value)(base:Heap)(CX:Kv)(k:Nat)(f:Addr)(fd:Bv)(ps:List Str)(sp:Sp):Prop where
 len:∀vs H Q E,sp vs H Q E→vs.length=ps.length
 run:∀(A:Bn)(outer:List Env)(s:Shared)(H:Hp)(args:Args)(us:List Value)(vs:List V)(Q:VK)(E:XK),Room k A→Env0 P w K mg base A outer s H→BindsTo s fd args (ps.zip us)→Vals vs us→sp vs H Q E→
  codeAny (model P w) A (.call (.ref f) args) (CR CX outer P w H s Q E) s
section
variable{X:Cx}{σ:St}{H:Hp}{s':Shared}
theorem Inv.env0(I:Inv X pins σ H s):Env0 X.prog X.w X.K X.mg X.base X.A X.stack s H:=
 ⟨I.ok.frames,I.ok.mod,I.bs,A2 I.ok.bsz I.sz,I.stack,I.stkFree,I.hok,I.bare⟩
theorem Inv.after{Q:VK}(I:Inv X pins σ H s)(h:CE X.stack X.prog X.w H s Q u s'):EP X pins σ Q u s':=by obtain⟨v,H',os,bare,un,hok,r,q⟩:=h;obtain⟨hh,g,d,t,os'⟩:=s';obtain rfl:os'=s.os:=os;exact⟨v,H',I.call (h':=hh) (g':=g) (d':=d) (t':=t) (ch:=[]) un hok bare (λb z=>absurd z (by simp)),r,q⟩
end
def Rb(sp:Sp)(dvs:List V)(E:XK)(t:TA):TE:=λσ H Q=>t σ H λvs H1=>sp (vs++dvs) H1 Q E
def Binds(K:Ad)(fd:Bv)(ps:List Str)(ds:List Value):Prop:=
 ∀(s:Shared)(us:List Value),K.In s.heap→(us++ds).length=ps.length→BindsTo s fd ⟨us,[]⟩ (ps.zip (us++ds))
theorem Binds.all{K:Ad}{fd:Bv}{ps:List Str}(h:∀us:List Value,us.length=ps.length→bindArgs fd ⟨us,[]⟩=pure (ps.zip us)):Binds K fd ps []:=λs us _ hl=>by rw[Cz] at hl ⊢;exact .of_eq (h us hl)
def Ou(CX:Kv)(X:Cx)(E:XK):Prop:=∀(pins:List (Addr×Obj))(σ:St)(H:Hp)(s:Shared)(e:Value)(s':Shared),Inv X pins σ H s→CX X.stack H s E e s'→X.xe e s'
section
variable{X:Cx}{CX:Kv}{k:Nat}{f C:Addr}{fd:Bv}{ps:List Str}{sp:Sp}{dvs:List V}{ds:List Value}{E:XK}{x m:Str}{p apos:Pos}{o:Expr}{es:List Expr}{ta:TE}{t:TA}
theorem R7{pins:List (Addr×Obj)}{σ:St}{H:Hp}{s:Shared}{Q:VK}{us:List Value}{vs:List V}(F:FnOk X.prog X.w X.K X.mg X.base CX k f fd ps sp)(hr:Room k X.A)(hb:Binds X.K fd ps ds)(hd:Vals dvs ds)(hx:Ou CX X E)
 (I:Inv X pins σ H s) (r:Vals vs us) (h:sp (vs++dvs) H Q E):wpAny (model X.prog X.w) X.A (call (.ref f) us) (EP X pins σ Q) X.xe s:=by
 have r2:Vals (vs++dvs) (us++ds):=r.append hd;have hl:(us++ds).length=ps.length:=by rw[←r2.length];exact F.len _ _ _ _ h
 refine EK (BS (F.run X.A X.stack s H ⟨us,[]⟩ (us++ds) (vs++dvs) Q E hr I.env0 (hb s us I.kIn hl) r2 h) λr s' hq=>?_);cases r with
 | error e=>exact hx pins σ H s e s' I hq
 | ok fl=>
  cases fl with
  | ret u=>exact I.after hq
  | next=>exact CN hq
  | brk=>exact CN hq
  | cont=>exact CN hq
theorem Wh(F:FnOk X.prog X.w X.K X.mg X.base CX k f fd ps sp)(hr:Room k X.A)(hg:Gl X x)(hm:X.mg x=some (.ref f))(hk:Es X.K (.ref f)=true)(hb:Binds X.K fd ps ds)(hd:Vals dvs ds)(hx:Ou CX X E)
 (ha:PA X (e::es) t) (hdb:(x==("__debug__":Str))=false:=by decide) (he:A6 (e::es) X.env=(false,eval e X.env)::A6 es X.env:=by rfl) (hpl:(backTo pos (A6 es X.env)).any (·.1)=false:=by rfl):
 PE X (.Call (.Name x p) (e::es) [] pos) (Rb sp dvs E t):=by
 intro pins s σ H Q I h;refine Bs (Sh I hg hm ?_ hdb);refine PySem.W.callWith_K (h₀:=X.base) I.ok.mod.kin hk (HJ (ha pos pins s σ H _ I h) λus s1 ⟨vs,H1,I1,r,q⟩=>⟨I1.kIn,?_⟩) he hpl;exact R7 F hr hb hd hx I1 r q
end
def PK(X:Cx)(kws:List Keyword)(t:TA):Prop:=
 ∀(pos:Pos)(pins:List (Addr×Obj))(s:Shared)(σ:St)(H:Hp)(Q:List V→Hp→Prop),Inv X pins σ H s→t σ H Q→wpAny (model X.prog X.w) X.A (evalAll ((backToKw pos (keywordEach kws X.env)).map (·.2))) (AP X pins σ Q) X.xe s
section
variable{X:Cx}{CX:Kv}{k:Nat}{f C:Addr}{fd:Bv}{ps ks:List Str}{sp:Sp}{E:XK}{x m:Str}{p apos kpos:Pos}{o:Expr}{es:List Expr}{kws:List Keyword}{te ta:TE}{t tk:TA}{nm:Option Str}
theorem V3:PK X [] MH:=λ_ _ _ _ H Q I h=>wpAny_evalAll_nil ⟨[],H,I,.nil,h⟩
theorem Wj(ha:PE X e te)(hr:PK X kws t):PK X (⟨nm,e,kpos⟩::kws) (Rc te t):=by
 intro pos pins s σ H Q I h;show wpAny _ _ (evalAll ((do let v ←eval e X.env;standAt pos;pure v)::(backToKw pos (keywordEach kws X.env)).map (·.2))) _ _ s
 refine wpAny_evalAll_cons (Aa (HJ (ha pins s σ H _ I h) λu s1 ⟨x,H1,I1,r1,q1⟩=>Aa (Bu (Ac ?_))));exact HJ (hr pos pins s1 σ H1 _ I1 q1) λus s2 ⟨xs,H2,I2,r2,q2⟩=>⟨x::xs,H2,I2,.cons r1 r2,q2⟩
variable{g:List Value→List Value→List Value}{gV:List V→List V→List V}
end
structure FnScope(N P:List Str)(sc:Scope):Prop where
 kind:sc.kind= .function
 co:sc.isCoroutine=false
 gen:sc.isGenerator=false
 nd:N.Nodup
 pre:N.take P.length=P
 par:∀x∈P,sc.names.lookup x=some .local∨sc.names.lookup x=some .cell
 nofree:∀y∈sc.names,y.2≠ .free
theorem T9{kindOf:Str→Option NameKind}{x:Str}:∀{binds:List (Str×Value)}{m:Str→Option Value},(∀v,(x,v) ∉ binds)→bindL kindOf binds m x=m x
 | [],_,_=>rfl
 | (n,v)::r,m,h=>by
  unfold bindL;rw[T9 λw hw=>h w (Ai _ hw)]
  split
  · have:x≠n:=by rintro rfl;exact h v Ah
    simp[this]
  · rfl
theorem T7{kindOf:Str→Option NameKind}{x:Str}:∀{binds:List (Str×Value)}{m:Str→Option Value},(∀v,(x,v) ∉ binds)→bindC kindOf binds m x=m x
 | [],_,_=>rfl
 | (n,v)::r,m,h=>by
  unfold bindC;rw[T7 λw hw=>h w (Ai _ hw)]
  split
  · rfl
  · have:x≠n:=by rintro rfl;exact h v Ah
    simp[this]
theorem T8{kindOf:Str→Option NameKind}{x:Str}{v:Value}:∀{P:List Str}{vs:List Value}{i:Nat}{m:Str→Option Value},P.Nodup→P[i]?=some x→vs[i]?=some v→kindOf x=some .local→
 bindL kindOf (P.zip vs) m x=some v
 | [],_,_,_,_,h,_,_=>by simp at h
 | _::_,[],_,_,_,_,h,_=>by simp at h
 | p::P,w::vs,0,m,nd,h1,h2,hk=>by simp at h1 h2;subst h1;subst h2;show bindL kindOf ((p,w)::P.zip vs) m p=_;unfold bindL;rw[T9 λv hv=>(BC.mp nd).1 (Fh hv).1,if_pos hk];simp
 | p::P,w::vs,i+1,m,nd,h1,h2,hk=>by show bindL kindOf ((p,w)::P.zip vs) m x=_;unfold bindL;exact T8 (i:=i) (BC.mp nd).2 (by simpa using h1) (by simpa using h2) hk
theorem T6{kindOf:Str→Option NameKind}{x:Str}{v:Value}:∀{P:List Str}{vs:List Value}{i:Nat}{m:Str→Option Value},P.Nodup→P[i]?=some x→vs[i]?=some v→kindOf x≠some .local→
 bindC kindOf (P.zip vs) m x=some v
 | [],_,_,_,_,h,_,_=>by simp at h
 | _::_,[],_,_,_,_,h,_=>by simp at h
 | p::P,w::vs,0,m,nd,h1,h2,hk=>by simp at h1 h2;subst h1;subst h2;show bindC kindOf ((p,w)::P.zip vs) m p=_;unfold bindC;rw[T7 λv hv=>(BC.mp nd).1 (Fh hv).1,if_neg hk];simp
 | p::P,w::vs,i+1,m,nd,h1,h2,hk=>by show bindC kindOf ((p,w)::P.zip vs) m x=_;unfold bindC;exact T6 (i:=i) (BC.mp nd).2 (by simpa using h1) (by simpa using h2) hk
def Lf(N:List Str)(vs:List V):St:=vs.map some++AH (N.length - vs.length) none
def JR(CX:Kv)(P:AU)(w:World)(K:Ad)(mg:Str→Option Value)(base:Heap)(N:List Str)(qual:Str)(scope:Scope)(f:Addr)(cd:Value)(A:Bn)(outer:List Env)(s:Shared)(H:Hp)(E:XK):Cx where
 prog:=P
 w:=w
 K:=K
 mg:=mg
 base:=base
 A:=A.deeper (envOfC qual scope s.heap.objs.size f cd)
 N:=N
 s₀:=s
 H₀:=H
 env:=envOfC qual scope s.heap.objs.size f cd
 outer:=outer
 stack:=envOfC qual scope s.heap.objs.size f cd::outer
 ex:=[]
 calm:=true
 fn:=λ_=>true
 pn:=[]
 xe:=λe s'=>wpAny (model P w) (A.deeper (envOfC qual scope s.heap.objs.size f cd)) (leaving (envOfC qual scope s.heap.objs.size f cd) e) (λ_ s''=>CX outer H s E e s'') (λe' s''=>CX outer H s E e' s'') s'
theorem Tf{sc:Scope}{x:Str}(h:sc.names.lookup x=some .cell):∃c,(BN n sc.names []).lookup x=some c:=by have q:=CA sc.names n [] (.inl h);exact EO.mp q
theorem Yr{CX:Kv}{P:AU}{w:World}{K:Ad}{mg:Str→Option Value}{base:Heap}{N ps:List Str}{qual:Str}{scope:Scope}{f:Addr}{cd:Value}{A:Bn}{outer:List Env}{s s1:Shared}{H:Hp}{E:XK}{us:List Value}{vs:List V}
 (S:FnScope N ps scope) (hd:A.handled=none) (e0:Env0 P w K mg base A outer s H) (hl:vs.length=ps.length) (r:Vals vs us)
 (x:InCallC s s.heap.objs.size (bindL (envOfC qual scope s.heap.objs.size f cd).kindOf (ps.zip us) λ_=>none) (BN (s.heap.objs.size+1) scope.names []) (bindC (envOfC qual scope s.heap.objs.size f cd).kindOf (ps.zip us) λ_=>none) s1):
 Inv (JR CX P w K mg base N qual scope f cd A outer s H E) [] (Lf N vs) H s1:=by
 have hpl:ps.length≤N.length:=by have:=congrArg Db S.pre;rw[AA] at this;omega
 obtain⟨h1,tk,rfl,hk⟩:=x.done;have noA:∀b:Addr,b ∉ (JR CX P w K mg base N qual scope f cd A outer s H E).ex:=λb z=>absurd (show b∈([]:List Addr) from z) (by simp);refine⟨⟨e0.mod,S.kind,rfl,rfl,Af _,λy z c h1 h2=>?_,λy hy=>?_,λy c _ h=>?_,λ_=>hd,Around.frames_deeper e0.frames,.inr ⟨rfl,rfl⟩,λb z=>absurd z (noA b),e0.bs,e0.bsz,λb _ _=>noA b,λb z=>absurd z (noA b),e0.funs,e0.frf⟩,
  rfl,e0.bare,Un.kept hk,⟨_,x.toInCall.ns,λi y v h1 h2 h3=>?_⟩,λy c h=>⟨_,x.cell y c h⟩,e0.hok.fresh (Af _),λy c h=>?_,λp hp=>absurd (show p∈([]:List (Addr×Obj)) from hp) (by simp),e0.hok.kept hk,?_⟩
 · exact name_of_addr x.apart (CW h1) (CW h2)
 · have hy:scope.names.lookup y=some .cell∨scope.names.lookup y=some .free:=hy;rcases hy with hy | hy
   · exact Tf hy
   · exact absurd rfl (S.nofree _ (CW hy))
 · exact Bo (x.above y c (CW h))
 · have hi:i<vs.length:=by
    unfold Lf at h2;by_cases hi:i<vs.length
    · exact hi
    · rw[Cn (by simpa using hi)] at h2;rw[List.getElem?_replicate] at h2
      split at h2<;>cases h2
   have ha:vs[i]?=some v:=by
    unfold Lf at h2;rw[Ct (by simpa using hi),Aj] at h2;cases e:vs[i]? with
    | none=>rw[e] at h2;cases h2
    | some a=>rw[e] at h2;cases h2;rfl
   obtain⟨u,hu,rv⟩:=r.get ha;have hp:ps[i]?=some y:=by rw[←S.pre,List.getElem?_take_of_lt (by omega)];exact h1
   have ndP:ps.Nodup:=by rw[←S.pre];exact S.nd.sublist (DL _ _)
   refine⟨u,rv,?_⟩;rcases S.par y (Ak hp) with k | k
   · exact .inl ⟨k,T8 ndP hp hu k⟩
   · obtain⟨c,e⟩:=Tf (n:=s.heap.objs.size+1) k;refine .inr ⟨.inl k,c,e,?_⟩;have q:=x.cell y c e;rw[T6 ndP hp hu (by show scope.names.lookup y≠_;rw[k];decide)] at q;exact q
 · exact e0.hok.fresh (Bo (x.above y c (CW h)))
 · unfold Lf;show _=N.length;rw[Az,Ab,By];omega
theorem Vb{CX:Kv}{P:AU}{w:World}{K:Ad}{mg:Str→Option Value}{base:Heap}{k:Nat}{f:Addr}{name qual:Str}{params:Arguments}{body:List Stmt}{scope:Scope}{dV kV doc pm cdv ct oc:Value}{an od:Option Addr}
 {osl:Array (Option Value)} {N ps:List Str} {sp:Sp} (lk:K.lookup f=some ⟨oc,od,.func (Df name qual params body scope dV kV doc pm an cdv ct),osl⟩) (hcd:F6 K cdv qual=true) (S:FnScope N ps scope)
 (len:∀vs H Q E,sp vs H Q E→vs.length=ps.length)
 (hbody:∀(A:Bn)(outer:List Env)(s:Shared)(H:Hp)(vs:List V)(Q:VK)(E:XK),Room k (A.deeper (envOfC qual scope s.heap.objs.size f cdv))→sp vs H Q E→
  ∃t,PSs (JR CX P w K mg base N qual scope f cdv A outer s H E) body t∧t {nx:=λ_ H'=>Q .non H',rt:=Q} (Lf N vs) H):
 FnOk P w K mg base CX (k+1) f (Df name qual params body scope dV kV doc pm an cdv ct) ps sp:=by
 refine⟨len,λA outer s H args us vs Q E hr e0 hb r hsp=>?_⟩;have hl:=len _ _ _ _ hsp;have KX:K.In s.heap:=e0.mod.kin.keeps λb o e=>(e0.bs b o e).1;have lim:s.heap.NoLimit:=e0.mod.nolimit.keeps λb o e=>(e0.bs b o e).1;have hkind:∀y∈ps.zip us,scope.names.lookup y.1=some .local∨(scope.names.lookup y.1=some .cell∧((BN (s.heap.objs.size+1) scope.names []).lookup y.1).isSome=true):=λ⟨n,v⟩ hy=>by
  rcases S.par n (Fh hy).1 with q | q
  · exact .inl q
  · exact .inr ⟨q,CA _ _ _ (.inl q)⟩
 refine codeAny_call_function hr.depth (KX _ _ lk) rfl S.co S.gen rfl (PySem.W.codeRec_of KX hcd) (hb _ _ _ _ ?_);refine wpAny_newFunctionEnv_cells S.kind hkind λenv he s1 x=>?_;subst he;refine⟨lim.keeps x.toInCall.keep,codeAny_func ?_⟩;obtain⟨t,ht,hq⟩:=hbody A outer s H vs Q E (hr.deeper _) hsp;have I:Inv (JR CX P w K mg base N qual scope f cdv A outer s H E) [] (Lf N vs) H s1:=Yr S hr.hd e0 hl r x;refine Av (ht [] s1 (Lf N vs) H _ I hq) (λfl s' hs=>?_) λe s' hs=>hs;have fin:∀{σ':St}{H':Hp}{v:V}{u:Value},Inv (JR CX P w K mg base N qual scope f cdv A outer s H E) [] σ' H' s'→RelV v u→Q v H'→CE outer P w H s Q u s':=
  λ{σ' H' v u}J rv q=>⟨v,H',J.os,J.bare,J.base,J.hok,rv,q⟩
 cases fl with
 | ret u=> obtain⟨v,σ',H',J,rv,q⟩:=hs;exact fin J rv q
 | next=> obtain⟨σ',H',J,q⟩:=hs;exact fin (v:=V.non) (u:=Value.none) J rfl q
 | brk=> obtain⟨_,_,_,q⟩:=hs;exact CN q
 | cont=> obtain⟨_,_,_,q⟩:=hs;exact CN q
section
variable{X:Cx}{x:Str}{p:Pos}{es:List Expr}{t:TA}{id T:String}{r:List V→Hp→VK→Prop}
def UM(r:List V→Hp→VK→Prop)(t:TA):TE:=λσ H Q=>t σ H λvs H1=>r vs H1 Q
theorem Ia(hc:JA X (.builtin id) r)(hg:Gl X x)(hm:X.mg x=none)(hv:AQ x=some (.builtin id))(ha:PA X (e::es) t)(hn:x≠"__name__":=by decide)(hdb:(x==("__debug__":Str))=false:=by decide)
 (he:A6 (e::es) X.env=(false,eval e X.env)::A6 es X.env:=by rfl) (hpl:(backTo pos (A6 es X.env)).any (·.1)=false:=by rfl):PE X (.Call (.Name x p) (e::es) [] pos) (UM r t):=by
 intro pins s σ H Q I h;refine Bs (JV I hg hm hv ?_ hn hdb);exact CZ (HJ (ha pos pins s σ H _ I h) λus s1 ⟨vs,H1,I1,r1,q1⟩=>hc pins s1 σ H1 vs us Q I1 r1 q1) he hpl
theorem Mj(hc:JA X (.type T) r)(hg:Gl X x)(hm:X.mg x=none)(hv:AQ x=some (.type T))(ha:PA X (e::es) t)(hn:x≠"__name__":=by decide)(hdb:(x==("__debug__":Str))=false:=by decide)
 (he:A6 (e::es) X.env=(false,eval e X.env)::A6 es X.env:=by rfl) (hpl:(backTo pos (A6 es X.env)).any (·.1)=false:=by rfl):PE X (.Call (.Name x p) (e::es) [] pos) (UM r t):=by
 intro pins s σ H Q I h;refine Bs (JV I hg hm hv ?_ hn hdb);exact Bx (HJ (ha pos pins s σ H _ I h) λus s1 ⟨vs,H1,I1,r1,q1⟩=>hc pins s1 σ H1 vs us Q I1 r1 q1) he hpl
end
end L2
variable{H:L2.Hp}{X:L2.Cx}{σ:L2.St}{xs:List L2.V}{x:PySem.Str}
namespace HT
open PySem PyProof.Rows
section
open PySem.SeqAt
open PySem.AutoSeq1 (wpAny_loadPart')
open PySem.MeetsSeq PySem.MeetsSeq2 PySem.MeetsSeq3
end
theorem cat_tup{t:Addr}{vs ws:List Value}{Q:Value→Shared→Prop}(ht:IsTup s.heap t vs.toArray)(hb:IsTup s.heap b ws.toArray)(hv:vs≠[])
 (h1:ws=[]→Q (.ref t) s) (h2:ws≠[]→Q (.ref s.heap.objs.size) {s with heap:=s.heap.push {cls:= .type "tuple",data:= .seq (vs++ws).toArray}})
 (hsz:vs.length+ws.length≤Aw):wpAny (model prog w) A (binaryOp .Add (.ref t) (.ref b)) Q E s:=by
 obtain⟨⟨cls,dd,data,sl⟩,ho,hc,n,hd⟩:=id ht;obtain⟨⟨cls2,dd2,data2,sl2⟩,ho2,hc2,n2,hd2⟩:=id hb;simp only at hc hd hc2 hd2;subst hc hd hc2 hd2;have e:vs.toArray++ws.toArray=(vs++ws).toArray:=by simp
 by_cases hw:ws=[]
 · exact concat_meets ⟨_,ho,rfl⟩ ⟨_,ho2,rfl⟩ noFill_tuple_add seq_tuple_add DO DF (D2 _ _)
    (tuple_addW1 t b vs.toArray ws.toArray n n2 dd dd2 sl sl2 (by simpa using hv) (by simp[hw])) ⟨ho,ho2,h1 hw⟩
 · refine concat_meets ⟨_,ho,rfl⟩ ⟨_,ho2,rfl⟩ noFill_tuple_add seq_tuple_add DO DF (D2 _ _)
    (tuple_addW2 t b vs.toArray ws.toArray n n2 dd dd2 sl sl2 (by simpa using hv) (by simpa using hw) (by rw[Al,Al];exact hsz)) ⟨ho,ho2,?_⟩
   rw[e];exact h2 hw
def sIx(n d:Nat):Option Int→Nat
 | none=>d
 | some v=>if v<0 then(v+(n:Int)).toNat else min v.toNat n
theorem sIx_none(n d:Nat):sIx n d none=d:=rfl
theorem sIx_nat(n d k:Nat):sIx n d (some (k:Int))=min k n:=by
 show(if(k:Int)<0 then((k:Int)+(n:Int)).toNat else min (k:Int).toNat n)=min k n
 rw[if_neg (by omega),CL]
theorem V7(n d:Nat)(hd:d≤n)(o:Option Int):sIx n d o≤n:=by
 cases o with
 | none=>exact hd
 | some v=>
  show(if v<0 then(v+(n:Int)).toNat else min v.toNat n)≤n
  by_cases hv:v<0
  · rw[if_pos hv];omega
  · rw[if_neg hv];exact Nat.min_le_right _ _
theorem Sk(v:Int)(n d:Nat):(if v<0 then max (v+(n:Int)) 0 else min v (n:Int))=((sIx n d (some v):Nat):Int):=by
 show(if v<0 then max (v+(n:Int)) 0 else min v (n:Int))=(((if v<0 then(v+(n:Int)).toNat else min v.toNat n):Nat):Int)
 by_cases hv:v<0
 · simp only[if_pos hv];omega
 · simp only[if_neg hv];omega
theorem Y5(lo hi:Option Int)(n:Nat):Ds lo hi 1 (n:Int)=(((sIx n 0 lo:Nat):Int),((sIx n n hi:Nat):Int)):=by
 have h1:¬((1:Int)<0):=by omega
 unfold Ds;simp only[h1,if_false];refine Prod.ext ?_ ?_
 · cases lo with
   | none=>rfl
   | some v=>exact Sk v n 0
 · cases hi with
   | none=>rfl
   | some v=>exact Sk v n n
theorem YM(i j:Nat):CO (i:Int) (j:Int) 1=j - i:=by
 unfold CO;have h1:(1:Int)>0:=by omega
 simp only[h1,if_true,Int.ediv_one]
 split<;>omega
theorem U1{v:Value}{o:Option Int}{Q:Option Int→Shared→Prop}(p:IsPart v o)(h:Q o s):wpAny (model prog w) A (Builtin.Slice.slicePartIndex v) Q E s:=by
 cases p with
 | none=>exact slicePart_none h
 | int i t=>exact slicePart_int h
theorem sliceApplied_gen{sl:Addr}{vl vu:Value}{lo hi:Option Int}{n:Nat}{Q:Int×Int×Nat→Shared→Prop}(hs:s.heap.IsSliceOf sl vl vu .none)(pl:IsPart vl lo)(pu:IsPart vu hi)
 (h:Q (((sIx n 0 lo:Nat):Int),1,sIx n n hi - sIx n 0 lo) s):wpAny (model prog w) A (E8 (.ref sl) (pure (n:Int))) Q E s:=by
 obtain⟨os,hos,hcs,hds⟩:=id hs;unfold E8 Builtin.Slice.sliceFields;refine Aa (Aa (Bt hos hds (x:=vl) rfl (Aa (Bt hos hds (x:=vu) rfl (Aa (Bt hos hds (x:= .none) rfl (Ac ?_)))))));refine Aa (slicePart_none ?_);show wpAny _ _ (if((1:Int)==0)=true then _ else _) _ _ s
 rw[if_neg (by decide)];refine Aa (U1 pl (Aa (U1 pu (Aa (Ac ?_)))));show wpAny _ _ (match Ds lo hi 1 (n:Int) with | (lo,hi)=>pure (lo,(1:Int),CO lo hi 1)) _ _ s
 rw[Y5 lo hi n];show wpAny _ _ (pure (((sIx n 0 lo:Nat):Int),(1:Int),CO ((sIx n 0 lo:Nat):Int) ((sIx n n hi:Nat):Int) 1)) _ _ s;rw[YM];exact Ac h
theorem X6(xs:Array Value)(i k:Nat):((AI k).filterMap λ(m:Nat)=>xs[((i:Int)+(m:Int)*1).toNat]?).toArray=((xs.toList.drop i).take k).toArray:=by
 have e:(λ(m:Nat)=>xs[((i:Int)+(m:Int)*1).toNat]?)=λm=>xs[i+m]?:=by
  funext m;have:((i:Int)+(m:Int)*1).toNat=i+m:=by omega
  rw[this]
 rw[e];have:=pick_run xs i k;rw[List.filterMap_map] at this;have e2:((λx=>xs[x]?)∘λx=>i+x)=λm=>xs[i+m]?:=rfl;rw[e2] at this;rw[this]
theorem getItem_tuple_cut{t sl:Addr}{items:Array Value}{vl vu:Value}{lo hi:Option Int}{Q:Value→Shared→Prop}(ht:IsTup s.heap t items)(hs:s.heap.IsSliceOf sl vl vu .none)(pl:IsPart vl lo)(pu:IsPart vu hi)
 (hw:¬(sIx items.size 0 lo=0∧sIx items.size items.size hi=items.size))
 (h:Q (.ref s.heap.objs.size) {s with heap:=s.heap.push {cls:= .type "tuple",data:= .seq ((items.toList.drop (sIx items.size 0 lo)).take (sIx items.size items.size hi - sIx items.size 0 lo)).toArray}})
 (hsz:items.size≤Aw):wpAny (model prog w) A (getItem (.ref t) (.ref sl)) Q E s:=by
 have htake:sizeOk (.seq ((items.toList.drop (sIx items.size 0 lo)).take (sIx items.size items.size hi - sIx items.size 0 lo)).toArray):=by show((items.toList.drop (sIx items.size 0 lo)).take (sIx items.size items.size hi - sIx items.size 0 lo)).toArray.size≤Aw;rw[Al,AA,DV,A0];omega
 have hj:sIx items.size items.size hi≤items.size:=V7 _ _ (Af _) hi;obtain⟨os,hos,hcs,hds⟩:=id hs;have hTs:s.TypeIs (.ref sl) "slice":=⟨os,hos,hcs⟩;unfold getItem
 try with_reducible refine AN ?_
 first | refine Aa (Ac ?_) | skip
 refine Aa (EE ht.typeIs (by decide) ?_);refine Aa (Bm (name:=Ca "__getitem__") ht.typeIs BA
  (AR BA ht.typeIs entry_tuple_getitem ?_ (args_tuple_getitem _ _)))
 show wpAny _ _ (Dq (.ref t)>>=_) _ _ s;refine Aa (tupleItemsOf_ ht ?_);refine Aa (Dg hTs ?_);rw[if_pos (by decide)];refine Aa (sliceApplied_gen hs pl pu ?_);have hno:¬((((sIx items.size 0 lo:Nat):Int)==0 && (1:Int)==1 && (sIx items.size items.size hi - sIx items.size 0 lo)==items.size)=true):=by intro q;rw[Bk,Bk] at q;have q1:((sIx items.size 0 lo:Nat):Int)=0:=eq_of_beq q.1.1;have q2:sIx items.size items.size hi - sIx items.size 0 lo=items.size:=eq_of_beq q.2;exact hw ⟨by omega,by omega⟩
 show wpAny _ _ (if(((sIx items.size 0 lo:Nat):Int)==0 && (1:Int)==1 && (sIx items.size items.size hi - sIx items.size 0 lo)==items.size)=true then _ else _) _ _ s
 rw[if_neg hno,X6]
 first
  | exact Aa (m:=CQ _) (Bh (Ac ⟨_,rfl,Ac h⟩) htake)
  | exact Aa (m:=CQ _) (Bh (Aa (Ac (Ac ⟨_,rfl,Ac h⟩))) htake)
  | exact Aa (Aa (m:=CQ _) (Bh (Ac (Ac ⟨_,rfl,Ac h⟩)) htake))
  | exact Aa (Aa (m:=CQ _) (Bh (Ac ⟨_,rfl,Ac h⟩) htake))
end HT
namespace L2
abbrev TO:=St→Hp→(Option Int→Hp→Prop)→Prop
def PO(X:Cx)(e:Option Expr)(t:TO):Prop:=
 ∀(pins:List (Addr×Obj))(s:Shared)(σ:St)(H:Hp)(Q:Option Int→Hp→Prop),Inv X pins σ H s→t σ H Q→
  wpAny (model X.prog X.w) X.A (evalPart e X.env) (λu s'=>∃o H',Inv X pins σ H' s'∧IsPart u o∧Q o H') X.xe s
def SG:TO:=λ_ H Q=>Q none H
def Wa(t:TE):TO:=λσ H Q=>t σ H λx H1=>∃i,x= .int i∧Q (some i) H1
section
variable{te:TE}{lo hi:Option Expr}{tl th:TO}{p2:Pos}
theorem KA:PO X none SG:=by intro pins s σ H Q I h;rw[evalPart_none];exact Ac ⟨none,H,I,.none,h⟩
theorem KI(h:PE X e te):PO X (some e) (Wa te):=by intro pins s σ H Q I hw;rw[evalPart_some];refine HJ (h pins s σ H _ I hw) λu s1 ⟨x,H1,I1,r1,q1⟩=>?_;obtain⟨i,rfl,q⟩:=q1;obtain⟨t,rfl⟩:=r1;exact⟨some i,H1,I1,.int i t,q⟩
def Mr(X:Cx)(r:V→Option Int→Option Int→Hp→VK→Prop):Prop:=
 ∀(pins:List (Addr×Obj))(s:Shared)(σ:St)(H:Hp)(x:V)(v vl vu:Value)(lo hi:Option Int)(sl:Addr)(Q:VK),Inv X pins σ H s→RelV x v→s.heap.IsSliceOf sl vl vu .none→IsPart vl lo→IsPart vu hi→r x lo hi H Q→
  ∃T id,typeLookup (.type T) "__getitem__"=pure (some (.builtin id))∧s.TypeIs v T∧wpAny (model X.prog X.w) X.A (getItem v (.ref sl)) (EP X pins σ Q) X.xe s
def tSl(r:V→Option Int→Option Int→Hp→VK→Prop)(te:TE)(tl th:TO):TE:=λσ H Q=>te σ H λx H1=>tl σ H1 λl H2=>th σ H2 λu H3=>r x l u H3 Q
theorem KH{r:V→Option Int→Option Int→Hp→VK→Prop}(hr:Mr X r)(he:PE X e te)(hl:PO X lo tl)(hu:PO X hi th):PE X (.Subscript e (.Slice lo hi none p2) pos) (tSl r te tl th):=by
 intro pins s σ H Q I h;refine Subscript_ (HJ (he pins s σ H _ I h) λv s1 ⟨x,H1,I1,r1,q1⟩=>?_);refine wpAny_Slice (HJ (hl pins s1 σ H1 _ I1 q1) λvl s2 ⟨l,H2,I2,pl,q2⟩=>HJ (hu pins s2 σ H2 _ I2 q2) λvu s3 ⟨u,H3,I3,pu,q3⟩=>?_);rw[evalPart_none];refine Ac ?_;have I4:Inv X pins σ H3 {s3 with heap:=s3.heap.push {cls:= .type "slice",data:= .fields #[vl,vu,.none]}}:=I3.kept (t':=s3.toks) λb ob q=>Ae _ q
 obtain⟨T,id,hT,ht,hg⟩:=hr pins {s3 with heap:=s3.heap.push {cls:= .type "slice",data:= .fields #[vl,vu,.none]}} σ H3 x v vl vu l u s3.heap.objs.size Q I4 r1 (Heap.IsSliceOf.new ..) pl pu q3;show wpAny (model X.prog X.w) X.A (subscriptTail e (.Slice lo hi none p2) v (.ref s3.heap.objs.size)) (EP X pins σ Q) X.xe {s3 with heap:=s3.heap.push {cls:= .type "slice",data:= .fields #[vl,vu,.none]}};exact tail_any (ops:=[.ref s3.heap.objs.size,v]) ht hT hg (by with_unfolding_all rfl)
def Iz(xs:List V)(lo hi:Option Int):List V:=(xs.drop (HT.sIx xs.length 0 lo)).take (HT.sIx xs.length xs.length hi - HT.sIx xs.length 0 lo)
theorem Ur(xs:List V)(lo hi:Option Int):(Iz xs lo hi).length≤xs.length:=by unfold Iz;rw[AA,DV];omega
def Qs(K:Ad):V→Option Int→Option Int→Hp→VK→Prop:=λx lo hi H Q=>∃a xs,x= .ref a∧SqT K H a xs∧
 ¬(HT.sIx xs.length 0 lo=0∧HT.sIx xs.length xs.length hi=xs.length)∧∀p,H p=none→Q (.ref p) (HD H p (.tup (Iz xs lo hi)))
theorem WR:Mr X (Qs X.K):=by
 intro pins s σ H x v vl vu lo hi sl Q I rx hs pl pu h;obtain⟨a,xs,rfl,hx,hw,q⟩:=h;cases rx;obtain⟨its,r,ht,hz⟩:=I.tuple hx;have hlen:its.toArray.size=xs.length:=by rw[Al];exact r.length.symm
 refine⟨"tuple",_,BA.lookup,ht.typeIs,?_⟩;refine HT.getItem_tuple_cut ht hs pl pu (by rw[hlen];exact hw) ?_ (by rw[hlen];exact hz);rw[hlen];refine⟨.ref s.heap.objs.size,_,I.laid (t':=s.toks) (o:= .tup (Iz xs lo hi)) (λb ob q=>Ae _ q) (Af _) ?_,rfl,q _ (I.hok.fresh (Af _))⟩;exact⟨A2 (Ur xs lo hi) hz,_,(r.drop (HT.sIx xs.length 0 lo)).take (HT.sIx xs.length xs.length hi - HT.sIx xs.length 0 lo),IsTupP.new _ _⟩
theorem Vals.nil_iff(r:Vals xs us):us=[]↔xs=[]:=by
 cases r with
 | nil=>simp
 | cons _ _=>simp
end
def K6(n:Nat)(i:Int):Option Nat:=if 0≤i then(if i<n then some i.toNat else none) else if -(n:Int)≤i then some (i+n).toNat else none
def IL{α:Type}(xs:List α)(i:Int):Option α:=(K6 xs.length i).bind λj=>xs[j]?
theorem OM{i:Int}{j:Nat}(h:K6 n i=some j):seqIndex? i n=some j∧j<n∧ -(n:Int)≤i∧i<n:=by
 unfold K6 at h;by_cases h0:0≤i
 · rw[if_pos h0] at h;by_cases h1:i<n
   · rw[if_pos h1] at h;have e:i.toNat=j:=A4 h;exact⟨by rw[seqIndex_of h0 h1,e],by omega,by omega,h1⟩
   · rw[if_neg h1] at h;cases h
 · rw[if_neg h0] at h;by_cases h1: -(n:Int)≤i
   · rw[if_pos h1] at h;have e:(i+n).toNat=j:=A4 h;exact⟨by rw[seqIndex_neg (by omega) h1,e],by omega,h1,by omega⟩
   · rw[if_neg h1] at h;cases h
theorem OC{α:Type}{xs:List α}{i:Int}{v:α}(h:IL xs i=some v):∃j,seqIndex? i xs.length=some j∧xs[j]?=some v∧j<xs.length∧ -(xs.length:Int)≤i∧i<xs.length:=by
 unfold IL at h;cases e:K6 xs.length i with
 | none=>rw[e] at h;cases h
 | some j=> rw[e] at h;obtain⟨h1,h2,h3,h4⟩:=OM e;exact⟨j,h1,h,h2,h3,h4⟩
theorem J9{α:Type}{xs:List α}{j:Nat}{v:α}(h:xs[j]?=some v):IL xs (j:Int)=some v:=by
 have hj:j<xs.length:=(Aq.mp h).1;have e:K6 xs.length (j:Int)=some j:=by unfold K6;rw[if_pos (by omega),if_pos (by omega)];simp
 unfold IL;rw[e];exact h
def W7(b:Expr):Prop:=∀o i,subscripted b false o i=operate [o,i] (getItem o i)
def Ly(X:Cx)(r:R2):Prop:=
 ∀(value slice:Expr)(pins:List (Addr×Obj))(s:Shared)(σ:St)(H:Hp)(x y:V)(v u:Value)(Q:VK),Inv X pins σ H s→RelV x v→RelV y u→r x y H Q→
  subscripted slice false v u=operate [v,u] (getItem v u)→wpAny (model X.prog X.w) X.A (subscriptTail value slice v u) (EP X pins σ Q) X.xe s
def UV(X:Cx)(id:String)(r:V→List V→Hp→VK→Prop):Prop:=
 ∀(pins:List (Addr×Obj))(s:Shared)(σ:St)(H:Hp)(x:V)(xs:List V)(v:Value)(us:List Value)(Q:VK),Inv X pins σ H s→RelV x v→Vals xs us→r x xs H Q→
  wpAny (model X.prog X.w) X.A (call (.builtin id) (v::us)) (EP X pins σ Q) X.xe s
section
variable{a b:Expr}{ta tb:TE}
theorem Ii{r:R2}(hr:Ly X r)(ha:PE X a ta)(hb:PE X b tb)(hs:W7 b):PE X (.Subscript a b pos) (Mm r ta tb):=by intro pins s σ H Q I h;exact Subscript_ (LP ha hb I h λv u s2 x y H2 I2 rx ry q=>hr a b pins s2 σ H2 x y v u Q I2 rx ry q (hs _ _))
def MM(K:Ad):R2:=λx y H Q=>∃p xs i v,x= .ref p∧y= .int i∧SqL K H p xs∧IL xs i=some v∧Q v H
def ML(K:Ad):R2:=λx y H Q=>∃p xs i v,x= .ref p∧y= .int i∧SqT K H p xs∧IL xs i=some v∧Q v H
def Qv:R2:=λx y H Q=>∃z i c,x= .str z∧y= .int i∧z.length≤Aw∧IL z.cps.toList i=some c∧Q (.str ⟨#[c]⟩) H
theorem IA:Ly X (MM X.K):=by
 intro value slice pins s σ H x y v u Q I rx ry h hs;obtain⟨p,xs,i,z,rfl,rfl,hq,he,q⟩:=h;cases rx;obtain⟨t,rfl⟩:=ry;obtain⟨its,r,pl,hz⟩:=I.list hq;obtain⟨j,h1,h2,h3,h4,h5⟩:=OC he;obtain⟨w,ew,rw'⟩:=r.get h2;have hl:=r.length;have hn:=L_;have fin:EP X pins σ Q w s:=⟨z,H,I,rw',q⟩;by_cases h0:0≤i
 · have hj:i.toNat=j:=by
    rw[seqIndex_of h0 h5] at h1;exact A4 h1
   exact item_listR pl.isList h0 (by omega) (by rw[hj];simpa using ew) fin hs
 · have hj:(i+(its.toArray.size:Int)).toNat=j:=by
    rw[seqIndex_neg (by omega) h4] at h1;rw[Al,←hl];exact A4 h1
   exact Fo (x:=w) pl.isList.typeIs EF.lookup
    (wpAny_getItem_list_neg (Q:=λr s'=>r=w∧EP X pins σ Q r s') pl.isList (by omega) (by rw[Al]<;>omega) (by omega) (by rw[hj];simpa using ew) ⟨rfl,fin⟩) hs
theorem JN:Ly X (ML X.K):=by
 intro value slice pins s σ H x y v u Q I rx ry h hs;obtain⟨p,xs,i,z,rfl,rfl,hq,he,q⟩:=h;cases rx;obtain⟨t,rfl⟩:=ry;obtain⟨its,r,pl,hz⟩:=I.tuple hq;obtain⟨j,h1,h2,h3,h4,h5⟩:=OC he;obtain⟨w,ew,rw'⟩:=r.get h2;have hl:=r.length;have hn:=L_;have fin:EP X pins σ Q w s:=⟨z,H,I,rw',q⟩;exact Fo (x:=w) pl.typeIs slot_tuple_getitem.lookup
  (getItem_tuple (j:=j) (Q:=λr s'=>r=w∧EP X pins σ Q r s') pl (by omega) (by omega) (by rw[Al,←hl];exact h1) (by simpa using ew) ⟨rfl,fin⟩) hs
theorem Rt:Ly X Qv:=by
 intro value slice pins s σ H x y v u Q I rx ry h hs;obtain⟨z,i,c,rfl,rfl,hz,he,q⟩:=h;obtain⟨t,rfl⟩:=rx;obtain⟨t',rfl⟩:=ry;obtain⟨j,h1,h2,h3,h4,h5⟩:=OC he;have hl:z.cps.toList.length=z.length:=by simp[Str.length]
 rw[hl] at h1 h4 h5;have hn:=L_;exact tail_any (typeIs_str s z t) slot_str_getitem.lookup (getItem_str (c:=c) (by have e1:decide (i< -(2^63:Int))=false:=decide_eq_false (by omega);have e2:decide (i≥2^63)=false:=decide_eq_false (by omega);rw[e1,e2,Bool.or_false]) (by rw[h1];simpa using h2) ⟨.str ⟨#[c]⟩,H,I.tok _,⟨_,rfl⟩,q⟩) hs
theorem YC(its:List Value)(n j:Nat)(u:Value):AJ (·.setIfInBounds j u) {cls:= .type "list",data:= .seq its.toArray n}={cls:= .type "list",data:= .seq (its.set j u).toArray n}:=by simp[AJ]
theorem Inv.lst{p:Addr}(I:Inv X pins σ H s)(h:H p=some (.lst xs)):
 ∃(its:List Value)(n:Nat),Vals xs its∧s.heap.get? p=some {cls:= .type "list",data:= .seq its.toArray n}∧xs.length≤Aw:=by
 obtain⟨z,its,n,r,e⟩:=I.hok p _ h;exact⟨its,n,r,e,z⟩
theorem Inv.lstUpd{p:Addr}{ys:List V}{its its':List Value}{n n':Nat}{f:Obj→Obj}(I:Inv X pins σ H s)(h:H p=some (.lst xs))
 (ho:s.heap.get? p=some {cls:= .type "list",data:= .seq its.toArray n}) (hf:f {cls:= .type "list",data:= .seq its.toArray n}={cls:= .type "list",data:= .seq its'.toArray n'}) (r:Vals ys its') (hz:ys.length≤Aw) (t:Nat):
 Inv X pins σ (HD H p (.lst ys)) {s with heap:=s.heap.update p f,toks:=t}:=by
 have e:(s.heap.update p f).get? p=some {cls:= .type "list",data:= .seq its'.toArray n'}:=by rw[Dh f ho (by rw[hf]<;>rfl),hf]
 refine I.write (x:=p) (e:=p) (by rw[h];trivial) (.inl rfl) (λb u hb q=>(Fp _ _ (CF hb)).trans q) ⟨_,e⟩ ?_;exact⟨hz,its',n',r,e⟩
def VU:V→V→V→Hp→(Hp→Prop)→Prop:=λo i v H Q=>∃p xs k j,o= .ref p∧i= .int k∧H p=some (.lst xs)∧K6 xs.length k=some j∧Q (HD H p (.lst (xs.set j v)))
theorem O_:Nh X VU:=by
 intro pins s σ H o i v ov iv u Q I ro ri rv h;obtain⟨p,xs,k,j,rfl,rfl,hp,hj,q⟩:=h;cases ro;obtain⟨t,rfl⟩:=ri;obtain⟨its,n,r,ho,hz⟩:=I.lst hp;obtain⟨h1,h2,h3,h4⟩:=OM hj;have hl:=r.length;have hn:=L_;have I':Inv X pins σ (HD H p (.lst (xs.set j v))) {s with heap:=s.heap.update p (AJ (·.setIfInBounds j u))}:=
  I.lstUpd hp ho (YC its n j u) (r.set rv j) (by rw[List.length_set];exact hz) s.toks
 by_cases h0:0≤k
 · have hk:k.toNat=j:=by
    rw[seqIndex_of h0 h4] at h1;exact A4 h1
   exact PySem.W.ki_setAt ho h0 (by omega) (by rw[Al,←hl];exact h4) (by rw[hk];exact⟨_,I',q⟩)
 · have hk:(k+(its.toArray.size:Int)).toNat=j:=by
    rw[seqIndex_neg (by omega) h3] at h1;rw[Al,←hl];exact A4 h1
   exact PySem.W.ki_setBack ho (by omega) (by rw[Al,←hl];exact h3) (by omega) (by rw[hk];exact⟨_,I',q⟩)
theorem zfX(lo hi:Option Int)(n:Nat):(sliceBounds lo hi none n).1=((HT.sIx n 0 lo:Nat):Int)∧(sliceBounds lo hi none n).2.1=((HT.sIx n n hi:Nat):Int)∧(sliceBounds lo hi none n).2.2=1:=by
 refine⟨?_,?_,rfl⟩
 · cases lo with
   | none=>simp[sliceBounds,HT.sIx]
   | some i=>
    simp only[sliceBounds,HT.sIx,EQ,show(1:Int)>0 by decide,if_true];by_cases h:i<0
    · simp only[h,if_true]<;>omega
    · simp only[h,if_false]<;>omega
 · cases hi with
   | none=>simp[sliceBounds,HT.sIx]
   | some i=>
    simp only[sliceBounds,HT.sIx,EQ,show(1:Int)>0 by decide,if_true];by_cases h:i<0
    · simp only[h,if_true]<;>omega
    · simp only[h,if_false]<;>omega
theorem zeV(its:List Value)(lo hi:Option Int):slicePick its.toArray lo hi none=((its.drop (HT.sIx its.length 0 lo)).take (HT.sIx its.length its.length hi - HT.sIx its.length 0 lo)).toArray:=by obtain⟨h1,h2,h3⟩:=zfX lo hi its.toArray.size;unfold slicePick;rw[h1,h2,h3];simp only[sliceRange_one,pick_run,Al]<;>rfl
def Qt(K:Ad):V→Option Int→Option Int→Hp→VK→Prop:=λx lo hi H Q=>∃a xs,x= .ref a∧SqL K H a xs∧∀p,H p=none→Q (.ref p) (HD H p (.lst (Iz xs lo hi)))
theorem OJ:Mr X (Qt X.K):=by intro pins s σ H x v vl vu lo hi sl Q I rx hs pl pu h;obtain⟨a,xs,rfl,hx,q⟩:=h;cases rx;obtain⟨its,r,ht,hz⟩:=I.list hx;have hlen:=r.length;refine⟨"list",_,EF.lookup,ht.isList.typeIs,?_⟩;refine ER ht.isList hs pl pu .none (by simp) ?_ (by rw[Al]<;>omega);rw[zeV,←hlen];refine⟨.ref s.heap.objs.size,_,I.laid (t':=s.toks) (o:= .lst (Iz xs lo hi)) (λb ob q=>Ae _ q) (Af _) ?_,rfl,q _ (I.hok.fresh (Af _))⟩;exact⟨A2 (Ur xs lo hi) hz,_,0,(r.drop (HT.sIx xs.length 0 lo)).take (HT.sIx xs.length xs.length hi - HT.sIx xs.length 0 lo),Au _ rfl⟩
def Kx:V→Bool
 | .non=>true
 | .bl _=>true
 | .int _=>true
 | .str _=>true
 | _=>false
def K7:V→V→Bool
 | .non,.non=>true
 | .bl a,.bl b=>a==b
 | .bl a,.int b=>(if a then 1 else 0)==b
 | .int a,.bl b=>a==(if b then 1 else 0)
 | .int a,.int b=>a==b
 | .str a,.str b=>a==b
 | _,_=>false
theorem VM{y x:V}{v:Value}(ry:RelV y u)(rx:RelV x v)(fy:Kx y=true)(fx:Kx x=true):DA A s u v (K7 y x):=by
 cases y with
 | non=>
  cases ry;cases x with
  | non=>cases rx;exact Dt _
  | bl b=>cases rx;exact FI b
  | int b=>obtain⟨t,rfl⟩:=rx;exact Ek b t
  | str b=>obtain⟨t,rfl⟩:=rx;exact El b t
  | _=>exact absurd (show false=true from fx) An
 | bl a=>
  cases ry;cases x with
  | non=>cases rx;exact FJ a
  | bl b=>cases rx;exact FK a b
  | int b=>obtain⟨t,rfl⟩:=rx;exact FQ a b t
  | str b=>obtain⟨t,rfl⟩:=rx;exact FR a b t
  | _=>exact absurd (show false=true from fx) An
 | int a=>
  obtain⟨t',rfl⟩:=ry;cases x with
  | non=>cases rx;exact Em a t'
  | bl b=>cases rx;exact FS a t' b
  | int b=>obtain⟨t,rfl⟩:=rx;exact SeqAt.EqAt.int_int a t' b t
  | str b=>obtain⟨t,rfl⟩:=rx;exact Dy a t' b t
  | _=>exact absurd (show false=true from fx) An
 | str a=>
  obtain⟨t',rfl⟩:=ry;cases x with
  | non=>cases rx;exact En a t'
  | bl b=>cases rx;exact FT a t' b
  | int b=>obtain⟨t,rfl⟩:=rx;exact Dz a t' b t
  | str b=>obtain⟨t,rfl⟩:=rx;exact SeqAt.EqAt.str_str a t' b t
  | _=>exact absurd (show false=true from fx) An
 | _=>exact absurd (show false=true from fy) An
def JF(x:V)(u:Value):Bool:=match u with
 | .none=>K7 .non x
 | .bool b=>K7 (.bl b) x
 | .int i _=>K7 (.int i) x
 | .str z _=>K7 (.str z) x
 | _=>false
theorem Rs{x y:V}(r:RelV y u)(f:Kx y=true):JF x u=K7 y x:=by
 cases y with
 | non=>cases r;rfl
 | bl b=>cases r;rfl
 | int i=>obtain⟨t,rfl⟩:=r;rfl
 | str z=>obtain⟨t,rfl⟩:=r;rfl
 | _=>exact absurd (show false=true from f) An
theorem M1{x:V}:∀{xs:List V}{us:List Value},Vals xs us→xs.all Kx=true→us.any (JF x)=xs.any λy=>K7 y x
 | _,_,.nil,_=>rfl
 | y::xs,u::us,.cons r t,f=>by rw[C6,Bk] at f;rw[Co,Co,Rs r f.1,M1 t f.2]
theorem M8{x:V}{v:Value}(rx:RelV x v)(fx:Kx x=true):∀{xs:List V}{us:List Value},Vals xs us→xs.all Kx=true→∀u∈us,DA A s u v (JF x u)
 | _,_,.nil,_=>λu hu=>by cases hu
 | y::xs,u::us,.cons r t,f=>λu' hu=>by
  rw[C6,Bk] at f;rcases As.mp hu with rfl | hu
  · rw[Rs r f.1];exact VM r rx f.1 fx
  · exact M8 rx fx t f.2 u' hu
def Mp(x:V)(xs:List V):Bool:=xs.any λy=>K7 y x
def Mo(K:Ad)(neg:Bool):R2:=λx y H Q=>∃p xs,y= .ref p∧(SqL K H p xs∨SqT K H p xs)∧Kx x=true∧xs.all Kx=true∧Q (.bl (if neg then !Mp x xs else Mp x xs)) H
theorem TN:Iv X (AY .In) (Mo X.K false):=by
 intro pins s σ H x y v u Q I rx ry h;obtain⟨p,xs,rfl,hq,fx,fs,q⟩:=h;cases ry;rcases hq with hq | hq
 · obtain⟨its,r,pl,hz⟩:=I.list hq;refine SeqAt.in_listAt (JF x) pl.isList (λw hw=>M8 rx fx r fs w (by simpa using hw)) ⟨.bl _,H,I,rfl,?_⟩;rw[show its.toArray.any (JF x)=its.any (JF x) by simp,M1 r fs];exact q
 · obtain⟨its,r,pl,hz⟩:=I.tuple hq;refine SeqAt.in_tupleAt (JF x) pl (λw hw=>M8 rx fx r fs w (by simpa using hw)) ⟨.bl _,H,I,rfl,?_⟩;rw[show its.toArray.any (JF x)=its.any (JF x) by simp,M1 r fs];exact q
theorem NU:Iv X (AY .NotIn) (Mo X.K true):=by
 intro pins s σ H x y v u Q I rx ry h;obtain⟨p,xs,rfl,hq,fx,fs,q⟩:=h;cases ry;rcases hq with hq | hq
 · obtain⟨its,r,pl,hz⟩:=I.list hq;refine SeqAt.notIn_listAt (JF x) pl.isList (λw hw=>M8 rx fx r fs w (by simpa using hw)) ⟨.bl _,H,I,rfl,?_⟩;rw[show its.toArray.any (JF x)=its.any (JF x) by simp,M1 r fs];exact q
 · obtain⟨its,r,pl,hz⟩:=I.tuple hq;refine SeqAt.notIn_tupleAt (JF x) pl (λw hw=>M8 rx fx r fs w (by simpa using hw)) ⟨.bl _,H,I,rfl,?_⟩;rw[show its.toArray.any (JF x)=its.any (JF x) by simp,M1 r fs];exact q
theorem IN:JA X (.builtin "len") (λxs H Q=>∃p ys,xs=[.ref p]∧(SqL X.K H p ys∨SqT X.K H p ys)∧Q (.int ys.length) H):=by
 intro pins s σ H xs us Q I r h;obtain⟨p,ys,rfl,hq,q⟩:=h;obtain⟨u,rfl,rx⟩:=JT r;cases rx;have hn:=L_;rcases hq with hq | hq
 · obtain⟨its,r',pl,hz⟩:=I.list hq;have hlen:=r'.length;exact Calls.call_len_list pl.isList (by simp only[Al]<;>omega) ⟨.int ys.length,H,I.tok _,⟨s.toks+1,by rw[Al,hlen]⟩,q⟩
 · obtain⟨its,r',pl,hz⟩:=I.tuple hq;have hlen:=r'.length;exact len_tuple pl (by simp only[Al]<;>omega) ⟨.int ys.length,H,I.tok _,⟨s.toks+1,by rw[Al,hlen]⟩,q⟩
theorem UE:JA X (.builtin "len") (λxs H Q=>∃z,xs=[.str z]∧z.length≤Aw∧Q (.int z.length) H):=by intro pins s σ H xs us Q I r h;obtain⟨z,rfl,hz,q⟩:=h;obtain⟨u,rfl,t,rfl⟩:=JT r;have hn:=L_;exact len_str (by omega) ⟨.int z.length,H,I.tok _,⟨_,rfl⟩,q⟩
theorem NT:JA X (.type "list") (λxs H Q=>∃p ys,xs=[.ref p]∧(SqL X.K H p ys∨SqT X.K H p ys)∧∀l,H l=none→Q (.ref l) (HD H l (.lst ys))):=by
 intro pins s σ H xs us Q I r h;obtain⟨p,ys,rfl,hq,q⟩:=h;obtain⟨u,rfl,rx⟩:=JT r;cases rx;have fin:∀(its:List Value),Vals ys its→ys.length≤Aw→∀(h':Heap)(c':Nat),(∀b o',s.heap.get? b=some o'→h'.get? b=some o')→
  h'.get? s.heap.objs.size=some {cls:= .type "list",dict:=none,data:= .seq its.toArray c',slots:=#[]}→EP X pins σ Q (.ref s.heap.objs.size) {s with heap:=h'}:=λits r' hz h' c' kp e=>
  ⟨.ref s.heap.objs.size,_,I.laid (t':=s.toks) kp (Af _) (show ObjOk X.prog X.w _ h' _ (.lst ys) from⟨hz,its,c',r',e⟩),rfl,q _ (I.hok.fresh (Af _))⟩
 rcases hq with hq | hq
 · obtain⟨its,r',pl,hz⟩:=I.list hq;have hlen:=r'.length;obtain⟨o,ho,hc,n,hd⟩:=pl.isList;exact call_list_seq p (.inl rfl) ho hc hd (λh' c' kp e=>fin its r' hz h' c' kp e) (by simp only[Al]<;>omega)
 · obtain⟨its,r',pl,hz⟩:=I.tuple hq;have hlen:=r'.length;obtain⟨o,ho,hc,n,hd⟩:=pl;exact call_list_seq p (.inr rfl) ho hc hd (λh' c' kp e=>fin its r' hz h' c' kp e) (by simp only[Al]<;>omega)
theorem UJ:JA X (.type "tuple") (λxs H Q=>∃p ys,xs=[.ref p]∧((SqL X.K H p ys∧∀l,H l=none→Q (.ref l) (HD H l (.tup ys)))∨(SqT X.K H p ys∧Q (.ref p) H))):=by
 intro pins s σ H xs us Q I r h;obtain⟨p,ys,rfl,h⟩:=h;obtain⟨u,rfl,rx⟩:=JT r;cases rx;rcases h with⟨hq,q⟩ | ⟨hq,q⟩
 · obtain⟨its,r',pl,hz⟩:=I.list hq;have hlen:=r'.length;refine call_tuple_list pl.isList (λh' kp=>?_) (by simp only[Al]<;>omega);have I1:Inv X pins σ H {s with heap:=h'}:=I.kept (t':=s.toks) kp;have I2:Inv X pins σ (HD H h'.objs.size (.tup ys)) {s with heap:=h'.push {cls:= .type "tuple",data:= .seq its.toArray}}:=
    I1.laid (t':=s.toks) (λb o e=>Ae _ e) (Af _) (show ObjOk X.prog X.w _ _ _ (.tup ys) from⟨hz,its,r',IsTupP.new _ _⟩)
   exact⟨.ref h'.objs.size,_,I2,rfl,q _ (I1.hok.fresh (Af _))⟩
 · obtain⟨its,r',pl,hz⟩:=I.tuple hq;exact call_tuple_same pl ⟨.ref p,H,I,rfl,q⟩
def UK(K:Ad)(T:String)(x:V)(H:Hp):Prop:=match x with
 | .str _=>T="str"
 | .int _=>T="int"
 | .ref p=>(T="list"∧∃xs,SqL K H p xs)∨(T="tuple"∧∃o,K.lookup p=some o∧o.cls= .type "tuple"∧o.dict=none)∨
  (T="dict"∧((∃kvs,H p=some (.dK kvs))∨∃kvs,H p=some (.dT kvs)))∨(T="set"∧∃S n,H p=some (.set S n))
 | _=>False
theorem Wz{T:String}{x:V}{v:Value}(I:Inv X pins σ H s)(r:RelV x v)(ty:UK X.K T x H):
 s.TypeIs v T∧∀a,v= .ref a→∃ob,s.heap.get? a=some ob∧ob.dict=none:=by
 cases x with
 | str z=> obtain⟨t,rfl⟩:=r;cases(show T="str" from ty);exact⟨typeIs_str s z t,λ_ e=>nomatch e⟩
 | int i=> obtain⟨t,rfl⟩:=r;cases(show T="int" from ty);exact⟨typeIs_int s i t,λ_ e=>nomatch e⟩
 | ref p=>
  cases r;rcases ty with⟨rfl,xs,hq⟩ | ⟨rfl,o,hk,hc,hd⟩ | ⟨rfl,hk⟩ | ⟨rfl,S,n,hk⟩
  · obtain⟨its,_,pl,_⟩:=I.list hq;refine⟨pl.isList.typeIs,λa e=>?_⟩;cases e;obtain⟨o,n,e,c,hd,_⟩:=pl;exact⟨o,e,hd⟩
  · refine⟨⟨o,I.kIn p o hk,hc⟩,λa e=>?_⟩;cases e;exact⟨o,I.kIn _ o hk,hd⟩
  · have z:∃o,s.heap.get? p=some o∧o.ExactDict:=by
     rcases hk with⟨kvs,hk⟩ | ⟨kvs,hk⟩
     · obtain⟨_,_,_,_,o,_,_,e,ex,_⟩:=I.hok p _ hk;exact⟨o,e,ex⟩
     · obtain⟨_,_,_,_,o,_,_,e,ex,_⟩:=I.hok p _ hk;exact⟨o,e,ex⟩
    obtain⟨o,e,ex⟩:=z;refine⟨⟨o,e,ex.1⟩,λa e2=>?_⟩;cases e2;exact⟨o,e,ex.2.1⟩
  · obtain⟨o,_,_,_,e,ex,_⟩:=I.hok p _ hk;refine⟨⟨o,e,ex.1⟩,λa e2=>?_⟩;cases e2;exact⟨o,e,ex.2.1⟩
 | _=>exact CN ty
def UN(K:Ad)(T:String)(r:V→List V→Hp→VK→Prop)(to:TE)(t:TA):TE:=λσ H Q=>to σ H λx H1=>UK K T x H1∧t σ H1 λxs H2=>r x xs H2 Q
variable{o:Expr}{es:List Expr}{to:TE}{t:TA}{name:Str}{apos cpos:Pos}{T id:String}{r:V→List V→Hp→VK→Prop}
theorem JM(pa:PlainAttrs T)(slot:Slot T name id)(hty:typeOf (.builtin id)=pure (.type "method_descriptor"))(hm:UV X id r)(ho:PE X o to)(ha:PA X (e::es) t)
 (hbase:attributeBase o name X.env (eval o X.env)=eval o X.env:=by rfl)
 (hfew:((backTo cpos (A6 (e::es) X.env)).all (λx=>!x.1) && (backToKw cpos (keywordEach [] X.env)).all (λx=>x.1.isSome)
  && decide ((e::es).length+([]:List Keyword).length+(if([]:List Keyword).isEmpty then 0 else 1)<30))=true:=by rfl)
 (hline:(apos.endLine==cpos.line)=true:=by rfl) (hs:A6 (e::es) X.env=(false,eval e X.env)::A6 es X.env:=by rfl) (hplain:(backTo cpos (A6 es X.env)).any (·.1)=false:=by rfl):
 PE X (.Call (.Attribute o name apos) (e::es) [] cpos) (UN X.K T r to t):=by
 intro pins s σ H Q I h;refine wpAny_Call_method_late hbase hfew hline rfl (HJ (ho pins s σ H _ I h) λv s1 ⟨x,H1,I1,r1,ty,q1⟩=>?_);obtain⟨h1,h2⟩:=Wz I1 r1 ty;refine⟨T,id,pa,slot,hty,h1,h2,?_⟩;have hA:=ha cpos pins s1 σ H1 _ I1 q1;rw[hs] at hA ⊢;refine Calls.callWith_builtin (by show(false || (backTo cpos (A6 es X.env)).any (·.1))=false;rw[hplain]<;>rfl) (Calls.evalArgs_plain ?_);exact HJ hA λus s2 ⟨vs,H2,I2,r2,q2⟩=>hm pins s2 σ H2 x vs v us Q I2 r1 r2 q2
end
def QJ(X:Cx)(id:String)(r:V→List V→Hp→VK→Prop):Prop:=
 ∀(pins:List (Addr×Obj))(s:Shared)(σ:St)(H:Hp)(x:V)(xs:List V)(v:Value)(us:List Value)(Q:VK),Inv X pins σ H s→RelV x v→Vals xs us→r x xs H Q→
  wpAny (model X.prog X.w) X.A (call (.builtin id) (v::us)) (EP X pins σ Q) X.xe s
theorem Vals.one:∀{x:V}{us:List Value},Vals [x] us→∃u,us=[u]∧RelV x u
 | _,_,.cons r .nil=>⟨_,rfl,r⟩
theorem Vals.eraseIdx:∀{xs:List V}{us:List Value}(i:Nat),Vals xs us→Vals (xs.eraseIdx i) (us.eraseIdx i)
 | _,_,_,.nil=> .nil
 | _,_,0,.cons _ t=>t
 | _,_,i+1,.cons r t=> .cons r (Vals.eraseIdx i t)
theorem TM{α:Type}:∀(l:List α)(i:Nat),(l.eraseIdx i).length≤l.length
 | [],_=>Af _
 | _::_,0=>Dr _
 | _::r,i+1=>Nat.succ_le_succ (TM r i)
section
variable{l:Addr}{ys zs:List V}
theorem Inv.lset{its its':List Value}{n:Nat}{f:Array Value→Array Value}{t':Nat}(I:Inv X pins σ H s)(hH:H l=some (.lst xs))
 (e:s.heap.get? l=some {cls:= .type "list",data:= .seq its.toArray n}) (hf:f its.toArray=its'.toArray) (hv:Vals ys its') (hz:ys.length≤Aw):
 Inv X pins σ (HD H l (.lst ys)) {s with heap:=s.heap.update l (AJ f),toks:=t'}:=by
 have q:=PySem.IsL.update e f;rw[hf] at q;refine I.write (x:=l) (e:=l) (by rw[hH];exact trivial) (.inl rfl) (λb' u hb hu=>(Fp s.heap (AJ f) (CF hb)).trans hu) ⟨_,q⟩ ?_;exact⟨hz,its',_,hv,q⟩
theorem Inv.lnew{its:List Value}{t':Nat}(I:Inv X pins σ H s)(hv:Vals ys its)(hz:ys.length≤Aw):
 Inv X pins σ (HD H s.heap.objs.size (.lst ys)) {s with heap:=s.heap.push {cls:= .type "list",data:= .seq its.toArray},toks:=t'}:=
 I.laid (λ_ _ q=>Ae _ q) (Af _) ⟨hz,its,0,hv,Au _ rfl⟩
theorem Inv.fresh(I:Inv X pins σ H s):H s.heap.objs.size=none:=I.hok.fresh (Af _)
theorem Inv.lstM(I:Inv X pins σ H s)(hH:H l=some (.lst xs)):xs.length≤Aw∧∃(its:List Value)(n:Nat),Vals xs its∧xs.length=its.length∧s.heap.get? l=some {cls:= .type "list",data:= .seq its.toArray n}:=by obtain⟨z,its,n,r,e⟩:=I.hok l _ hH;exact⟨z,its,n,r,r.length,e⟩
theorem Tp(h:n≤Aw):ES n=false:=by unfold ES;exact decide_eq_false (by omega)
end
def RX:V→List V→Hp→VK→Prop:=λx vs H Q=>∃l xs y,x= .ref l∧vs=[y]∧H l=some (.lst xs)∧xs.length<Aw∧Q .non (HD H l (.lst (xs++[y])))
theorem Kb:QJ X "list.append" RX:=by intro pins s σ H x vs v us Q I rx rv h;obtain⟨l,xs,y,rfl,rfl,hH,hz,q⟩:=h;cases rx;obtain⟨u,rfl,ru⟩:=rv.one;obtain⟨z,its,n,r,hl,e⟩:=I.lstM hH;refine call_meets F.slot_list_append ⟨_,e,rfl⟩ F.entry_list_append (F.args_list_append_2 _ _) (PySem.list_append l its.toArray n u (by rw[Al];omega)) ⟨e,?_⟩;refine⟨.non,_,I.lset (its':=its++[u]) hH e (by simp) (r.append (.cons ru .nil)) ?_,rfl,q⟩;rw[Az,CH];omega
def V4:V→List V→Hp→VK→Prop:=λx vs H Q=>∃l xs i k y,x= .ref l∧vs=[.int i]∧H l=some (.lst xs)∧ -(2^63)≤i∧i<2^63∧seqIndex? i xs.length=some k∧xs[k]?=some y∧Q y (HD H l (.lst (xs.eraseIdx k)))
theorem OR:QJ X "list.pop" V4:=by
 intro pins s σ H x vs v us Q I rx rv h;obtain⟨l,xs,i,k,y,rfl,rfl,hH,h1,h2,hk,hy,q⟩:=h;cases rx;obtain⟨u,rfl,ru⟩:=rv.one;obtain⟨t,rfl⟩:=ru;obtain⟨z,its,n,r,hl,e⟩:=I.lstM hH;obtain⟨w,hw,rw'⟩:=r.get hy;refine call_meets F.slot_list_pop ⟨_,e,rfl⟩ F.entry_list_pop (F.args_list_pop_2 _ _)
  (MeetsSeq.list_pop_at l its.toArray n i t k w (fitsIndex_both h1 h2) (by rw[Al,←hl];exact hk) (by rw[←AZ];exact hw) (by rw[Al];omega)) ⟨e,?_⟩
 refine⟨y,_,I.lset (its':=its.eraseIdx k) hH e ?_ (r.eraseIdx k) ?_,rw',q⟩
 · show its.toArray.eraseIdxIfInBounds k=(its.eraseIdx k).toArray;rw[List.eraseIdxIfInBounds_toArray]
 · have:=TM xs k;omega
def MO:R2:=λx y H Q=>∃l b xs zs,x= .ref l∧y= .ref b∧H l=some (.lst xs)∧H b=some (.lst zs)∧xs.length+zs.length≤Aw∧∀p,H p=none→Q (.ref p) (HD H p (.lst (xs++zs)))
theorem Mx:Iv X (binaryOp .Add) MO:=by
 intro pins s σ H x y v u Q I rx ry h;obtain⟨l,b,xs,zs,rfl,rfl,hH,hB,hz,q⟩:=h;cases rx;cases ry;obtain⟨z,its,n,r,hl,e⟩:=I.lstM hH;obtain⟨z2,its2,n2,r2,hl2,e2⟩:=I.lstM hB;refine PySem.P.add_list e e2 ?_ (by rw[Al,Al];omega);have ea:its.toArray++its2.toArray=(its++its2).toArray:=by simp
 rw[ea];exact⟨.ref _,_,I.lnew (t':=s.toks) (r.append r2) (by rw[Az];omega),rfl,q _ I.fresh⟩
theorem Y7{a c:Nat}(hac:a≤c)(hc:c≤n):sliceBounds (some (a:Int)) (some (c:Int)) none n=((a:Int),(c:Int),1):=by
 simp only[sliceBounds,EQ];have h1:¬((a:Int)<0):=by omega
 have h2:¬((c:Int)<0):=by omega
 simp only[h1,h2,if_false,show(1:Int)>0 by decide,if_true];congr 1
 · omega
 · congr 1;omega
set_option maxRecDepth 100000 in
theorem K4{l b sl:Addr}{items new:Array Value}{n n2:Nat}{vl vu:Value}{a c:Nat}{Q:Unit→Shared→Prop}
 (e:s.heap.get? l=some {cls:= .type "list",data:= .seq items n}) (e2:s.heap.get? b=some {cls:= .type "list",data:= .seq new n2}) (hne:l≠b)
 (hs:s.heap.IsSliceOf sl vl vu .none) (pl:IsPart vl (some (a:Int))) (pu:IsPart vu (some (c:Int))) (hac:a≤c) (hc:c≤items.size)
 (hsz:items.size+new.size≤Aw) (h:Q () {s with heap:=s.heap.update l (AJ λxs=>xs.extract 0 a++new++xs.extract c xs.size)}):
 wpAny (model prog w) A (setItem (.ref l) (.ref sl) (.ref b)) Q E s:=by
 have hl:s.heap.IsList l items:=PySem.IsL.isList e;have hb:s.heap.IsList b new:=PySem.IsL.isList e2;obtain⟨os,hos,hcs,hds⟩:=id hs;have hTs:s.TypeIs (.ref sl) "slice":=⟨os,hos,hcs⟩;have hstep:¬((rawPart none==rawInt 0)=true):=An;have hsame:ET (.ref l) (.ref b)=false:=by unfold ET;exact beq_eq_false_iff_ne.mpr hne
 have hmax:(max (a:Int) (c:Int)).toNat=c:=by omega
 have hz':((λxs:Array Value=>xs.extract 0 a++new++xs.extract c xs.size) items).size≤Aw+1:=by simp only[EG,Array.size_extract];omega
 unfold setItem
 try with_reducible refine AN ?_
 first | refine Aa (Ac ?_) | skip
 refine Aa (EE hl.typeIs (by decide) ?_);refine Aa (Bm (name:=Ca "__setitem__") hl.typeIs slot_list_setitem
  (AR slot_list_setitem hl.typeIs entry_list_setitem ?_ (args_list_setitem _ _ _)))
 show wpAny _ _ (E1 (.ref sl)>>=_) _ _ s;refine Aa ?_;unfold E1;refine Aa (BW hTs slice_no_index ?_);simp only[Option.isNone_none,if_true];refine Ac ?_;show wpAny _ _ (typeOf (.ref sl)>>=_) _ _ s;refine Aa (Dg hTs ?_)
 first
  | rw[if_neg (by decide)]
  | refine E2 (by decide) ?_
 rw[listSliceParts_eq];refine Aa (Aa (Bt hos hds (x:= .none) rfl (Aa (F7 .none ?_))));rw[if_neg hstep];refine Aa (Bt hos hds (x:=vl) rfl (Aa (F7 pl ?_)));refine Aa (Bt hos hds (x:=vu) rfl (Aa (F7 pu (Ac ?_))))
 first
  | simp only[hsame,A3,if_false]
  | refine E2 hsame ?_
  | (dsimp only
     rw[if_neg (by rw[hsame];exact An)])
 refine Aa (m:=EL (.ref b) "must assign iterable to extended slice") ?_;unfold EL;refine Aa (Dg hb.typeIs ?_)
 first
  | refine PySem.W.KFB.if_so (by decide) ?_
  | rw[if_pos (by decide)]
  | simp only[beq_self_eq_true,Bool.true_or,if_true]
 unfold Builtin.List.listItems;refine Aa (Bc e2 rfl (Ac ?_));refine Aa (Aa (Bc e rfl (Ac ?_)));refine Aa (Fq ((sliceIndices_raw (some (a:Int)) (some (c:Int)) none items.size (by simp)).trans (congrArg (pure:Int×Int×Int→Sem (Int×Int×Int)) (Y7 hac hc))) ?_);show wpAny _ _ (if((1:Int)==1)=true then _ else _) _ _ s
 rw[if_pos (by decide)];refine Aa (Cf ?_)
 first
  | simp only[Tp hsz,A3,if_false]
  | refine E2 (Tp hsz) ?_
 first | refine Aa (Ac ?_) | skip
 show wpAny _ _ (updateSeq l (λxs=>xs.extract 0 ((a:Int)).toNat++new++xs.extract (max (a:Int) (c:Int)).toNat xs.size)>>=_) _ _ s;rw[hmax,CL];refine Aa (wpAny_updateSeq (hz:=A2 (C9 _ _) hsz) (_hz':=hz') e rfl ?_);refine Aa (Ex ?_)
 first
  | exact Aa (Ac (Ac ⟨.none,rfl,Ac h⟩))
  | exact Ac ⟨.none,rfl,Ac h⟩
section
variable{κ:Type}[DecidableEq κ]
def Ik(kvs:List (κ×V))(k:κ):Option V:=(kvs.find? λkv=>decide (kv.1=k)).map (·.2)
def Jb(kvs:List (κ×V))(k:κ)(v:V):List (κ×V):=
 if(kvs.any λkv=>decide (kv.1=k))=true then kvs.map (λkv=>if kv.1=k then(kv.1,v) else kv) else kvs++[(k,v)]
theorem Kj{p:κ×V}{r:List (κ×V)}{k:κ}(e:p.1=k):Ik (p::r) k=some p.2:=by simp[Ik,C_,e]
theorem Ki{p:κ×V}{r:List (κ×V)}{k:κ}(e:¬p.1=k):Ik (p::r) k=Ik r k:=by simp[Ik,C_,e]
theorem Pa(k:κ):∀kvs:List (κ×V),(kvs.any λkv=>decide (kv.1=k))=(Ik kvs k).isSome
 | []=>rfl
 | p::r=>by
  rw[Co];by_cases e:p.1=k
  · simp only[Kj e,decide_eq_true e,Bool.true_or,Option.isSome_some]
  · rw[Ki e,decide_eq_false e,Bool.false_or];exact Pa k r
theorem Tb(k j:κ)(y:V):∀kvs:List (κ×V),Ik (kvs.map λkv=>if kv.1=k then(kv.1,y) else kv) j=(Ik kvs j).map λx=>if j=k then y else x
 | []=>rfl
 | p::r=>by
  have ih:=Tb k j y r;rw[Am];by_cases h:p.1=k
  · rw[if_pos h];by_cases e:p.1=j
    · rw[Kj (p:=(p.1,y)) e,Kj e,Ec,if_pos (e.symm.trans h)]
    · rw[Ki (p:=(p.1,y)) e,Ki e,ih]
  · rw[if_neg h];by_cases e:p.1=j
    · rw[Kj (p:=p) e,Kj e,Ec,if_neg (λz=>h (e.trans z))]
    · rw[Ki (p:=p) e,Ki e,ih]
theorem Uf(k j:κ)(y:V):∀kvs:List (κ×V),Ik kvs k=none→Ik (kvs++[(k,y)]) j=if j=k then some y else Ik kvs j
 | [],_=>by
  by_cases e:k=j
  · rw[if_pos e.symm];exact Kj (p:=(k,y)) e
  · rw[if_neg (λz=>e z.symm)];exact Ki (p:=(k,y)) e
 | p::r,hn=>by
  rw[EU];have hk:¬p.1=k:=λz=>by rw[Kj z] at hn;cases hn
  rw[Ki hk] at hn;have ih:=Uf k j y r hn;by_cases e:p.1=j
  · rw[Kj e,Kj e,if_neg (λz=>hk (e.trans z))]
  · rw[Ki e,Ki e,ih]
theorem Xo(kvs:List (κ×V))(k j:κ)(y:V):Ik (Jb kvs k y) j=if j=k then some y else Ik kvs j:=by
 unfold Jb;by_cases a:(kvs.any λkv=>decide (kv.1=k))=true
 · rw[if_pos a,Tb];rw[Pa] at a;by_cases e:j=k
   · obtain⟨x,hx⟩:=EO.mp a;rw[if_pos e,e,hx,Ec,if_pos rfl]
   · rw[if_neg e];cases Ik kvs j with
     | none=>rfl
     | some x=>rw[Ec,if_neg e]
 · rw[if_neg a];refine Uf k j y kvs ?_;rw[Pa] at a;cases q:Ik kvs k with
   | none=>rfl
   | some x=>rw[q] at a;exact(a rfl).elim
theorem Ut(kvs:List (κ×V))(k:κ)(v:V):(Jb kvs k v).length≤kvs.length+1:=by
 unfold Jb
 split
 · rw[Ab];omega
 · rw[Az,A8,List.length_nil];omega
theorem RelO.isSome_eq{o:Option V}{u:Option Value}(r:RelO o u):o.isSome=u.isSome:=by
 cases o with
 | none=>cases u with
  | none=>rfl
  | some _=>exact(show False from r).elim
 | some _=>cases u with
  | none=>exact(show False from r).elim
  | some _=>rfl
theorem KV.val{kvs:List (κ×V)}{vs:List (κ×Value)}(r:KV kvs vs)(k:κ):RelO (Ik kvs k) (valueAt vs k):=by
 unfold KV at r
 induction r with
 | nil=>exact True.intro
 | @cons p q ps qs h t ih=>
  obtain⟨h1,h2⟩:=h;by_cases e:p.1=k
  · have e':q.1=k:=h1.symm.trans e;have b:valueAt (q::qs) k=some q.2:=by simp[valueAt,C_,e']
    rw[Kj e,b];exact h2
  · have e':¬q.1=k:=λz=>e (h1.trans z);have b:valueAt (q::qs) k=valueAt qs k:=by simp[valueAt,C_,e']
    rw[Ki e,b];exact ih
theorem KV.any{kvs:List (κ×V)}{vs:List (κ×Value)}(r:KV kvs vs)(k:κ):(kvs.any λkv=>decide (kv.1=k))=vs.any λkv=>decide (kv.1=k):=by
 unfold KV at r
 induction r with
 | nil=>rfl
 | cons h t ih=>rw[Co,Co,ih,h.1]
theorem KV.repl{kvs:List (κ×V)}{vs:List (κ×Value)}(r:KV kvs vs)(k:κ){y:V}(ry:RelV y u):
 KV (kvs.map λkv=>if kv.1=k then(kv.1,y) else kv) (vs.map λkv=>if kv.1=k then(kv.1,u) else kv):=by
 unfold KV at r ⊢
 induction r with
 | nil=>exact .nil
 | @cons p q ps qs h t ih=>
  rw[Am,Am];refine .cons ?_ ih;obtain⟨h1,h2⟩:=h;by_cases e:p.1=k
  · rw[if_pos e,if_pos (h1.symm.trans e)];exact⟨h1,ry⟩
  · rw[if_neg e,if_neg (λz=>e (h1.trans z))];exact⟨h1,h2⟩
theorem KV.put{kvs:List (κ×V)}{vs:List (κ×Value)}(r:KV kvs vs)(k:κ){y:V}(ry:RelV y u):KV (Jb kvs k y) (stored vs k u):=by
 unfold Jb stored;rw[r.any k];by_cases e:(vs.any λkv=>decide (kv.1=k))=true
 · rw[if_pos e,if_pos e];exact r.repl k ry
 · rw[if_neg e,if_neg e];exact Paired.snoc r ⟨rfl,ry⟩
theorem KV.length{kvs:List (κ×V)}{vs:List (κ×Value)}(r:KV kvs vs):kvs.length=vs.length:=Paired.length r
end
theorem Nt{k:Iq}(r:RelV (kV k) u):(Ka P w).is k u=true:=by
 cases k with
 | inl i=>obtain⟨t,e⟩:=(show ∃t,u=Value.int i t from r);subst e;exact ZH P w i t
 | inr x=>obtain⟨t,e⟩:=(show ∃t,u=Value.str x t from r);subst e;exact ZI P w x t
theorem TJ:∀{ks:List Iq}{us:List Value},Vals (ks.map kV) us→ItemsAre (Ka P w) ks us
 | [],_,r=>by rw[Bq] at r;cases r;exact .nil
 | k::ks,_,r=>by
  rw[Am] at r;cases r with
  | cons h t=>exact .cons (Nt h) (TJ t)
abbrev KT(H:Hp):List (List Iq×V)→List (List Iq×Addr×Value)→Prop:=Paired λp q=>p.1=q.1∧H q.2.1=some (.tup (p.1.map kV))∧RelV p.2 q.2.2
theorem KT.val{kvs:List (List Iq×V)}{xs:List (List Iq×Addr×Value)}(r:KT H kvs xs)(k:List Iq):RelO (Ik kvs k) ((atKey xs k).map (·.2)):=by
 induction r with
 | nil=>exact True.intro
 | @cons p q ps qs h t ih=>
  obtain⟨h1,_,h2⟩:=h;by_cases e:p.1=k
  · have e':q.1=k:=h1.symm.trans e;have b:atKey (q::qs) k=some q.2:=by simp[atKey,C_,e']
    rw[Kj e,b];exact h2
  · have e':¬q.1=k:=λz=>e (h1.trans z);have b:atKey (q::qs) k=atKey qs k:=by simp[atKey,C_,e']
    rw[Ki e,b];exact ih
theorem QQ{u:HO}(ok:HOk P w H h)(e:Rd H a u):ObjOk P w H h a u:=e.ok ok
theorem Np{kvs:List (Iq×V)}(ok:HOk P w H h)(e:Rd H a (.dK kvs)):kvs.length≤Aw∧(a==BH)=false∧∃vs,KV kvs vs∧h.DictOf (Ka P w) a vs:=
 show ObjOk P w H h a (.dK kvs) from QQ ok e
theorem K8{kvs:List (Iq×V)}(ok:HOk P w H h)(e:H a=some (.dK kvs)):kvs.length≤Aw∧(a==BH)=false∧∃vs,KV kvs vs∧h.DictOf (Ka P w) a vs:=Np ok (.inl e)
theorem O5{ks:List Iq}(ok:HOk P w H h)(e:H a=some (.tup (ks.map kV))):(tupleKind (Ka P w)).is h ks a:=by obtain⟨_,its,r,o,h1,h2,_,n,h3⟩:=(show ObjOk P w H h a (.tup (ks.map kV)) from ok a _ e);exact⟨o,its.toArray,n,h1,h2,h3,by simpa using TJ r⟩
theorem Oo{kvs:List (List Iq×V)}(ok:HOk P w H h)(e:Rd H a (.dT kvs)):kvs.length≤Aw∧(a==BH)=false∧
 ∃xs,KT H kvs xs∧h.DictOfH (tupleKind (Ka P w)) a xs:=by
 obtain⟨z,y,xs,r,o,es,ep,h1,h2,h3,h4,h5⟩:=(show ObjOk P w H h a (.dT kvs) from QQ ok e);refine⟨z,y,xs,r,o,es,ep,h1,h2,h3,h4,λx hx=>?_,h5⟩;have all:∀{l:List (List Iq×V)}{m:List (List Iq×Addr×Value)},KT H l m→∀x∈m,(tupleKind (Ka P w)).is h x.1 x.2.1:=by
  intro l m q
  induction q with
  | nil=>intro x hx;exact nomatch hx
  | @cons p q ps qs hq t ih=>
   intro x hx;rcases As.mp hx with e | hx
   · subst e;exact O5 ok (by rw[←hq.1];exact hq.2.1)
   · exact ih x hx
 exact all r x hx
def DGet(H:Hp)(a:Addr)(y:V)(r:Option V):Prop:=
 (∃kvs k,Rd H a (.dK kvs)∧y=kV k∧r=Ik kvs k)∨∃kvs k b,Rd H a (.dT kvs)∧y= .ref b∧H b=some (.tup (k.map kV))∧r=Ik kvs k
theorem DGet.k{kvs:List (Iq×V)}{k:Iq}(e:H a=some (.dK kvs)):DGet H a (kV k) (Ik kvs k):= .inl ⟨kvs,k,.inl e,rfl,rfl⟩
section
variable{y v:V}{r:Value}{o:Option V}
theorem Inv.big(I:Inv X pins σ H s):BH<s.heap.objs.size:=by have h:A9<s.heap.objs.size:=(I.mod.glob.keeps I.bk).lt;exact Cm (by decide) h
theorem Y0{Q:Value→Shared→Prop}(hu:A.units+1<cLine)(I:Inv X pins σ H s)(g:DGet H a y (some v))(ry:RelV y u)(h:∀w' s',Inv X pins σ H s'→RelV v w'→Q w' s'):
 wpAny (model X.prog X.w) A (getItem (.ref a) u) Q E s:=by
 rcases g with⟨kvs,k,e,ey,l⟩ | ⟨kvs,k,b,e,ey,eb,l⟩
 · subst ey;obtain⟨z,hd,vs,rel,dd⟩:=Np I.hok e;obtain⟨w',hw,rw'⟩:=RelO.some_of (v:=v) (o:=valueAt vs k) (by rw[l];exact rel.val k);exact wpAny_getItem_of (Nt ry) dd.mapOf hw (h w' _ (I.tok _) rw')
 · subst ey;cases(show u=Value.ref b from ry);obtain⟨z,hd,xs,rel,dd⟩:=Oo I.hok e;obtain⟨w',hw,rw'⟩:=RelO.some_of (v:=v) (o:=(atKey xs k).map (·.2)) (by rw[l];exact rel.val k);obtain⟨p,hp,hp2⟩:=Option.map_eq_some_iff.mp hw;refine wpAny_getItem_heap (tupleKind_room_in1 hu) (O5 I.hok eb) dd hp ?_;rw[hp2];exact h w' _ (I.tok _) rw'
theorem WD{Q:Value→Shared→Prop}(hu:A.units+1<cLine)(I:Inv X pins σ H s)(g:DGet H a y o)(ry:RelV y u)(h:∀s',Inv X pins σ H s'→Q (.bool (!o.isSome)) s'):
 wpAny (model X.prog X.w) A (AY .NotIn u (.ref a)) Q E s:=by
 rcases g with⟨kvs,k,e,ey,l⟩ | ⟨kvs,k,b,e,ey,eb,l⟩
 · subst ey;obtain⟨z,hd,vs,rel,dd⟩:=Np I.hok e;refine wpAny_notIn_of (Nt ry) hd dd.mapOf ?_;rw[←(rel.val k).isSome_eq,←l];exact h _ (I.tok _)
 · subst ey;cases(show u=Value.ref b from ry);obtain⟨z,hd,xs,rel,dd⟩:=Oo I.hok e;refine wpAny_notIn_heap (tupleKind_room_in1 hu) (O5 I.hok eb) hd dd ?_;have q:=(rel.val k).isSome_eq;rw[Option.isSome_map] at q;rw[←q,←l];exact h _ (I.tok _)
theorem OE{h':Heap}{t':Nat}{ob:HO}(I:Inv X pins σ H s)(mu:Nk (H a))(hs:Cw a s.heap h')(he:∃q,h'.get? a=some q)(new:ObjOk X.prog X.w (HD H a ob) h' a ob):
 Inv X pins σ (HD H a ob) {s with heap:=h',toks:=t'}:=
 I.write (x:=a) (e:=a) mu (.inl rfl) (λb q hb z=>(hs.2 b hb).trans z) he new
theorem VL{H':Hp}{h':Heap}{kvs:List (Iq×V)}{vs:List (Iq×Value)}(z:kvs.length≤Aw)(hd:(a==BH)=false)(rel:KV kvs vs)(dd:h'.DictOf (Ka P w) a vs):
 ObjOk P w H' h' a (.dK kvs):=⟨z,hd,vs,rel,dd⟩
end
section
variable{kvs:List (Iq×V)}{k:Iq}
end
def Nj(i:Expr):Prop:=∀ov iv,subscripted i false ov iv=operate [ov,iv] (getItem ov iv)
theorem Wy{prog:AU}{w:World}{A:Bn}{E:Value→Shared→Prop}{s:Shared}{env:Env}{value slice:Expr}{pos:Pos}{T id:String}{Q:Value→Shared→Prop}
 (hl:typeLookup (.type T) "__getitem__"=pure (some (.builtin id))) (hs:Nj slice)
 (h:wpAny (model prog w) A (eval value env) (λo s₁=>wpAny (model prog w) A (eval slice env) (λi s₂=>s₂.TypeIs o T∧wpAny (model prog w) A (getItem o i) Q E s₂) E s₁) E s):
 wpAny (model prog w) A (eval (.Subscript value slice pos) env) Q E s:=by
 refine Subscript_ (Av h (λo s₁ h₁=>Av h₁ (λi s₂ h₂=>?_) λ_ _ x=>x) λ_ _ x=>x);obtain⟨hT,h₂⟩:=h₂;unfold subscriptTail;refine Aa ?_;rw[getitemInPython_of_ne hT.not_modules];refine Aa (BW hT hl ?_);have fin:wpAny (model prog w) A (subscripted slice false o i) (λr s₃=>wpAny (model prog w) A (letTemporaryGo value o r>>=λ_=>pure r) Q E s₃) E s₂:=by rw[hs o i];exact wpAny_operating (Av h₂ (λr s₃ h₃=>Aa (wpAny_letTemporaryGo (Ac h₃))) λ_ _ x=>x)
 first
  | exact Ac (Aa fin)
  | exact Aa (Ac (Aa fin))
  | exact Aa fin
theorem Zc{y:V}{o:Option V}(I:Inv X pins σ H s)(g:DGet H a y o):s.TypeIs (.ref a) "dict":=by
 rcases g with⟨kvs,k,e,_,_⟩ | ⟨kvs,k,b,e,_,_,_⟩
 · obtain⟨_,_,vs,_,dd⟩:=Np I.hok e;exact dd.typeIs
 · obtain⟨_,_,xs,_,dd⟩:=Oo I.hok e;exact dd.typeIs
def VX(td ty:TE):TE:=λσ H Q=>td σ H λx H1=>ty σ H1 λy H2=>∃a v,x= .ref a∧DGet H2 a y (some v)∧Q v H2
def Xi(ty td:TE):TE:=λσ H Q=>ty σ H λy H1=>td σ H1 λx H2=>∃a o,x= .ref a∧DGet H2 a y o∧Q (.bl (!o.isSome)) H2
section
variable{o i value:Expr}{pos' tpos:Pos}{td ty tv:TE}
theorem Wi(hu:X.A.units+1<cLine)(ho:PE X o td)(hi:PE X i ty)(hs:Nj i):PE X (.Subscript o i pos) (VX td ty):=by intro pins s σ H Q I h;refine Wy PySem.F.slot_dict_getitem.lookup hs (HJ (ho pins s σ H _ I h) λu s1 ⟨x,H1,I1,rx,q1⟩=>HJ (hi pins s1 σ H1 _ I1 q1) λiv s2 ⟨y,H2,I2,ry,a,v,ex,g,q2⟩=>?_);subst ex;obtain rfl:u=Value.ref a:=rx;exact⟨Zc I2 g,Y0 hu I2 g ry λw' s3 I3 rw'=>⟨v,H2,I3,rw',q2⟩⟩
theorem Yg(hu:X.A.units+1<cLine)(hi:PE X i ty)(ho:PE X o td):PC X .NotIn i o (Xi ty td):=by intro pins s σ H Q I h;refine HJ (hi pins s σ H _ I h) λiv s1 ⟨y,H1,I1,ry,q1⟩=>HJ (ho pins s1 σ H1 _ I1 q1) λu s2 ⟨x,H2,I2,rx,a,ov,ex,g,q2⟩=>?_;subst ex;obtain rfl:u=Value.ref a:=rx;exact WD hu I2 g ry λs3 I3=>⟨.bl (!ov.isSome),H2,I3,rfl,q2⟩
end
theorem Xh(h:Heap)(hb:BH<h.objs.size):ObjOk P w H (h.push {cls:= .type "dict",data:= .dict #[]}) h.objs.size (.dK []):=
 ⟨AC _,beq_eq_false_iff_ne.mpr (CF (A5 hb)),[],.nil,Heap.DictOf.new h⟩
section
variable{y d:V}{r:Value}{o:Option V}
end
section
variable{o f:Expr}{apos cpos:Pos}{td ty tx:TE}
end
section
variable{kvs:List (Iq×V)}
end
section
variable{y:V}
end
end L2
namespace Att
open PySem PySem.W PySem.Calls PyProof.Rows
theorem zeg{P:Params}:∀(ns:List Int)(vs:List Value),WellAll P h vs (ns.map WData.int)→IntsAre vs ns:=by
 intro ns
 induction ns with
 | nil=> intro vs w;rw[Bq] at w;cases w;exact .nil
 | cons n ns ih=>
  intro vs w;rw[Am] at w;cases w with
  | cons a b=> cases a;exact .cons _ _ (ih _ b)
theorem YY{l:OpenLaw}(hn:l.most=some n){P:Params}{h:Heap}{args:List WData}{vals:List Value}
 (hpre:l.row.toRowW.claim.pre args=true) (hwl:WellAll P h vals args):
 ∃a vs ns,vals=[Value.ref a]∧args=[WData.list (ns.map WData.int)]∧h.get? a=some {cls:= .type "list",data:= .seq vs.toArray}∧IntsAre vs ns∧ns.length≤n:=by
 have hsh:WShape.hasAll [] args [.list .int]=true:=(pre_splitW hpre).1;have hc:l.pre.holds [] {args:=args}=true:=(pre_splitW hpre).2;obtain⟨d,r,rfl,h1,h2⟩:=hasAllW_cons hsh;obtain rfl:=hasAllW_nil h2;obtain⟨xs,rfl,h3⟩:=hasW_list h1;obtain⟨ns,rfl⟩:=items_int h3;have hlen:ns.length≤n:=by
  unfold OpenLaw.pre at hc;have h4:(WTm.not (.lt (.lit (.int (n:Int))) (.len (.arg 0)))).holds [] {args:=[.list (ns.map .int)]}=true:=by have h4:=(holds_andW hc).1;rw[hn] at h4;exact h4
  have h5:=condW_of h4 (w_not (w_lt w_lit (w_len_list (w_arg rfl))));rw[Ab] at h5;refine Nat.le_of_not_lt λq=>?_;have q':(n:Int)<((ns.length:Nat):Int):=by omega
  first
   | (rw[decide_eq_true q'] at h5;exact absurd h5 (by decide))
   | (simp at h5;omega)
 cases hwl with
 | cons w1 w2=>
  cases w2;cases w1 with
  | list ho hall=>exact⟨_,_,ns,rfl,rfl,ho,zeg ns _ hall,hlen⟩
theorem Yj(l:OpenLaw)(args:List WData):l.row.toRowW.claim.post args (.bool true) args=true:=
 postW_of (r:=l.row.toRowW) (X:=(true==true))
  (show WShape.has [] (.bool true) .bool=true by first | rfl | decide | simp[WShape.has,WShape.arms,WShape.armsAll])
  (show(WTm.eq .res (.lit (.bool true))).value [] {args:=args,res:=some (.bool true),after:=args}=some (.bool (true==true)) from w_eq_bool (w_res rfl) w_lit) rfl
theorem attach_call{l:OpenLaw}{n:Nat}{q:AU}{loose:List Str}{XP:(Str→Option Value)→Heap→Prop}{YP:World→Heap→Prop}{d:DefRec}
 (hn:l.most=some n) (hdf:d.params.defaults=[])
 (call:∀(w:World)(s₀ s₁:Shared)(mg mb:Str→Option Value)(fa:Addr)(o:Obj)(pm cd doc:Value)(a:Addr)(vs:List Value)(ns:List Int),
  Ground q loose [] XP w s₀ mg mb s₁.heap→YP w s₁.heap→
  s₁.heap.get? fa=some o→o.data= .func (docDef d.name d.params d.body d.scope pm cd doc)→s₁.heap.CodeRec cd d.name→mg d.name=some (.ref fa)→
  s₁.heap.get? a=some {cls:= .type "list",data:= .seq vs.toArray}→IntsAre vs ns→ns.length≤n→s₁.gens=#[]→
  codeAny (model l.prog w) callerA (.call (.ref fa) ⟨[.ref a],[]⟩) (λr s'=>r= .ok (.ret (.bool true))∧OldK s₁.heap s'.heap∧s'.os=s₁.os∧AllBare s'.gens) s₁):
 WalkO q loose XP YP l.row.toRowW d [] (λf vs=>PySem.call f vs):=by
 intro w s₀ s₁ mg mb G Y fa o pm cd doc dV kV ho hd hcd hD hmg hg args vals as hpre hlay hrd hwl hlo;obtain rfl:dV= .none:=Dflts.none hD hdf;obtain rfl:kV= .none:=Dflts.noKw hD;obtain⟨a,vs,ns,rfl,rfl,hobj,hints,hlen⟩:=YY hn hpre hwl;refine enter_call (BS (call w s₀ s₁ mg mb fa o pm cd doc a vs ns G Y ho (fd_plain hd) hcd hmg hobj hints hlen hg) λr s' hq=>?_);obtain⟨rfl,h2,h3,h4⟩:=hq;exact⟨.inl ⟨.bool true,.bool true,[],rfl,λ_=>rfl,.bool true,Yj l _,λ_=>⟨List.Pairwise.nil,λ_ hm=>(nomatch hm)⟩⟩,h2,h3,h4⟩
section
variable{K:Frag}
end
end Att
namespace L2
theorem Ug:∀{vs:List Value}{ns:List Int},IntsAre vs ns→Vals (ns.map V.int) vs
 | _,_,.nil=> .nil
 | _,_,.cons n t h=> .cons ⟨t,rfl⟩ (Ug h)
def LR(H:Hp):Prop:=∀b,H b=none∨∃o xs,H b=some (.frz o (.lst xs))
theorem XY{P:AU}{w:World}{K:Ad}{mg mb:Str→Option Value}{CX:Kv}{k:Nat}{fa a:Addr}{fd:Bv}{x:Str}{sp:Sp}{s₁:Shared}{vs:List Value}{ns:List Int}
 (KX:K.In s₁.heap) (hns:s₁.heap.Ns A9 mg) (hb:s₁.heap.Ns builtinsNs mb) (hbb:∀x:Str,x≠"__name__"→mb x=AQ x) (hlim:s₁.heap.NoLimit) (hg:s₁.gens=#[])
 (ha:s₁.heap.get? a=some {cls:= .type "list",data:= .seq vs.toArray}) (hi:IntsAre vs ns) (hl:ns.length≤Aw) (hr:Room k callerA)
 (F:∀base:Heap,K.In base→base.Ns A9 mg→FnOk P w K mg base CX k fa fd [x] sp) (hbind:∀(s:Shared)(u:Value),BindsTo s fd ⟨[u],[]⟩ [(x,u)])
 (hsp:∀H:Hp,LR H→SqL K H a (ns.map V.int)→sp [.ref a] H (λv _=>v= .bl true) λ_ _ _=>False)
 (hCX:∀H e s',CX [] H s₁ (λ_ _ _=>False) e s'→False):
 codeAny (model P w) callerA (.call (.ref fa) ⟨[.ref a],[]⟩) (λr s'=>r= .ok (.ret (.bool true))∧OldK s₁.heap s'.heap∧s'.os=s₁.os∧AllBare s'.gens) s₁:=by
 have rv:=Ug hi;have lenV:=hi.length;have I0:∀H:Hp,LR H→SqL K H a (ns.map V.int)→HOk P w H s₁.heap→(∀b,H b≠none→b=a)→(H a≠none→K.lookup a=none)→
  codeAny (model P w) callerA (.call (.ref fa) ⟨[.ref a],[]⟩) (λr s'=>r= .ok (.ret (.bool true))∧OldK s₁.heap s'.heap∧s'.os=s₁.os∧AllBare s'.gens) s₁:=by
  intro H hO hS hok hA hK;have base_of:∀{b:Addr}{o:Obj},s₁.heap.get? b=some o→H b=none→(Ju s₁.heap H).get? b=some o:=λe n=>XT e n;have noA:∀{b:Addr}{o:Obj}{es:Array DictEntry}{ep:Nat},s₁.heap.get? b=some o→o.data= .dict es ep→H b=none:=λ{b o es ep}e d=>by
   cases q:H b with
   | none=>rfl
   | some u=> have e':b=a:=hA b (by rw[q];simp);subst e';rw[ha] at e;cases e;have d':Data.seq vs.toArray _=Data.dict es ep:=d;cases d'
  have nsK:∀{b:Addr}{m:Str→Option Value},s₁.heap.Ns b m→(Ju s₁.heap H).Ns b m:=λ{b m} ⟨o,es,ep,e,d,r⟩=>⟨o,es,ep,base_of e (noA e d),d,r⟩;have hKb:K.In (Ju s₁.heap H):=λb o e=>base_of (KX b o e) (by
   cases q:H b with
   | none=>rfl
   | some u=> have e':b=a:=hA b (by rw[q];simp);subst e';rw[hK (by rw[q];simp)] at e;cases e)
  have hM:Mod K mg (Ju s₁.heap H):=⟨hKb,nsK hns,⟨mb,nsK hb,hbb⟩,let⟨mc,h1,h2⟩:=hlim;⟨mc,nsK h1,h2⟩⟩;have e0:Env0 P w K mg (Ju s₁.heap H) callerA [] s₁ H:=⟨rfl,hM,λb o e=>Wd e,Nat.le_of_eq (Yq _ _),trivial,λb hb=>absurd (show b∈([]:List Addr) from hb) (by simp),hok,.of_eq hg⟩;refine BS ((F _ hKb (nsK hns)).run callerA [] s₁ H ⟨[.ref a],[]⟩ [.ref a] [.ref a] _ _ hr e0 (hbind s₁ (.ref a)) (.cons rfl .nil) (hsp H hO hS)) λr s' h=>?_;cases r with
  | error e=>exact(hCX H e s' h).elim
  | ok fl=>
   cases fl with
   | next=>exact CN h
   | brk=>exact CN h
   | cont=>exact CN h
   | ret u=>
    obtain⟨v,H',os,bare,un,hok',r',q⟩:=h;have q':v= .bl true:=q;subst q';obtain rfl:u=Value.bool true:=r';refine⟨rfl,OldK.of_keep λb o e=>?_,os,bare⟩;cases q:H b with
    | none=>exact un.keep b o e q (by intro z;exact absurd (show b∈([]:List Addr) from z) (by simp)) (by simp)
    | some u=>
     rcases hO b with z | ⟨ob,xs,z⟩
     · rw[q] at z;cases z
     · have z2:=un.frzs b ob _ z;obtain⟨e1,_⟩:=hok b _ z;obtain⟨e2,_⟩:=hok' b _ z2;rw[e] at e1;cases e1;exact e2
 cases hk:K.lookup a with
 | some o=> have e:=KX a o hk;rw[ha] at e;cases e;refine I0 (λ_=>none) (λ_=> .inl rfl) (.inr ⟨_,vs.toArray,_,hk,rfl,rfl,rfl,by rw[Al,lenV];exact hl,by simpa using rv⟩) (λb u z=>by have z':(none:Option HO)=some u:=z;cases z') (λb z=>absurd rfl z) λz=>absurd rfl z
 | none=>
  refine I0 (λb=>if b=a then some (.frz {cls:= .type "list",data:= .seq vs.toArray} (.lst (ns.map V.int))) else none) (λb=>?_) (.inl (.inr ⟨{cls:= .type "list",data:= .seq vs.toArray},if_pos rfl⟩)) (λb u z=>?_) (λb z=>?_) λ_=>hk
  · by_cases hb:b=a
    · exact .inr ⟨_,_,if_pos hb⟩
    · exact .inl (if_neg hb)
  · by_cases hb:b=a
    · have z':=(if_pos hb).symm.trans z;cases z';subst hb;exact⟨ha,by rw[Ab];exact hl,vs,_,rv,ha⟩
    · have z':=(if_neg hb).symm.trans z;cases z'
  · by_cases hb:b=a
    · exact hb
    · exact absurd (if_neg hb) z
abbrev KOf{K:Ad}{h:Heap}(_:K.In h):Ad:=K
theorem walk_of{l:Fi}{n k:Nat}{q:AU}{loose:List Str}{XP:(Str→Option Value)→Heap→Prop}{YP:World→Heap→Prop}{d:DefRec}{K:Params→Ad}{CX:World→Kv}{sp:World→Sp}{x:Str}
 (hn:l.most=some n) (hn2:n≤Aw) (hdf:d.params.defaults=[]) (hr:Room k callerA)
 (hY:∀(w:World)(h:Heap),YP w h→(K w.params).In h)
 (F:∀(w:World)(mg:Str→Option Value)(fa:Addr)(h:Heap),(K w.params).In h→h.Ns A9 mg→mg d.name=some (.ref fa)→
  ∃fd:Bv,(∀(s:Shared)(u:Value),BindsTo s fd ⟨[u],[]⟩ [(x,u)])∧
   ∀base:Heap,(K w.params).In base→base.Ns A9 mg→FnOk l.prog w (K w.params) mg base (CX w) k fa fd [x] (sp w))
 (hsp:∀(w:World)(H:Hp)(a:Addr)(ns:List Int),ns.length≤n→LR H→SqL (K w.params) H a (ns.map V.int)→sp w [.ref a] H (λv _=>v= .bl true) λ_ _ _=>False)
 (hCX:∀(w:World)(H:Hp)(s:Shared)(e:Value)(s':Shared),CX w [] H s (λ_ _ _=>False) e s'→False):
 PySem.W.WalkO q loose XP YP l.row.toRowW d [] (λf vs=>PySem.call f vs):=by
 refine Att.attach_call hn hdf λw s₀ s₁ mg mb fa o pm cd doc a vs ns G Y ho hd hcd hmg hobj hints hlen hg=>?_;have KX:=hY w _ Y;obtain⟨fd,hb,hF⟩:=F w mg fa _ KX G.T.g hmg;exact XY KX G.T.g G.T.b G.T.builtins G.T.nolimit hg hobj hints (A2 hlen hn2) hr hF hb (λH hO hS=>hsp w H a ns hlen hO hS) λH e s'=>hCX w H s₁ e s'
def Kk(s:Stmt):Arguments:=match s with
 | .FunctionDef _ a _ _ _ _ _ _ _ _=>a
 | _=>{posonlyargs:=[],args:=[],vararg:=none,kwonlyargs:=[],kw_defaults:=[],kwarg:=none,defaults:=[]}
def JZ(s:Stmt):List Stmt:=match s with
 | .FunctionDef _ _ b _ _ _ _ _ _ _=>b
 | _=>[]
def HQ(s:Stmt):Scope:=match s with
 | .FunctionDef _ _ _ _ _ _ sc _ _ _=>sc
 | _=>{kind:= .function,names:=[],isGenerator:=false,isCoroutine:=false}
abbrev H_:Kv:=λ_ _ _ _ _ _=>False
abbrev E0:XK:=λ_ _ _=>False
theorem QP:Ou H_ X E0:=λ_ _ _ _ _ _ _ h=>h.elim
structure Fun(K:Ad)(x qual:Str)(st:Stmt)(f:Addr)(fd:Bv):Prop where
 ex:∃(oc:Value)(od:Option Addr)(kV doc pm:Value)(an:Option Addr)(cdv ct:Value)(osl:Array (Option Value)),
  fd=Df x qual (Kk st) (JZ st) (HQ st) .none kV doc pm an cdv ct∧K.lookup f=some ⟨oc,od,.func fd,osl⟩∧F6 K cdv qual=true
 kp:Es K (.ref f)=true
section
variable{K:Ad}{mg:Str→Option Value}{base:Heap}
theorem Fun.ok{qual:Str}{st:Stmt}{f:Addr}{fd:Bv}{N ps:List Str}{k:Nat}{sp:Sp}(F:Fun K x qual st f fd)(S:FnScope N ps (HQ st))(len:∀vs H Q E,sp vs H Q E→vs.length=ps.length)
 (hbody:∀(cdv:Value)(A:Bn)(outer:List Env)(s:Shared)(H:Hp)(vs:List V)(Q:VK)(E:XK),Room k (A.deeper (envOfC qual (HQ st) s.heap.objs.size f cdv))→sp vs H Q E→
  ∃t,PSs (JR H_ P w K mg base N qual (HQ st) f cdv A outer s H E).nox (JZ st) t∧t {nx:=λ_ H'=>Q .non H',rt:=Q} (Lf N vs) H):FnOk P w K mg base H_ (k+1) f fd ps sp:=by
 obtain⟨oc,od,kV,doc,pm,an,cdv,ct,osl,rfl,lk,hcd⟩:=F.ex;refine Vb lk hcd S len λA outer s H vs Q E hr hsp=>?_;obtain⟨t,h,q⟩:=hbody cdv A outer s H vs Q E hr hsp;exact⟨t,h.nox,q⟩
theorem Fun.binds{qual:Str}{st:Stmt}{f:Addr}{fd:Bv}{ps:List Str}(F:Fun K x qual st f fd)
 (h:∀(kV doc pm:Value)(an:Option Addr)(cdv ct:Value)(us:List Value),us.length=ps.length→bindArgs (Df x qual (Kk st) (JZ st) (HQ st) .none kV doc pm an cdv ct) ⟨us,[]⟩=pure (ps.zip us)):Binds K fd ps []:=by
 obtain⟨oc,od,kV,doc,pm,an,cdv,ct,osl,rfl,lk,hcd⟩:=F.ex;exact .all (h kV doc pm an cdv ct)
theorem fun_mk{qual:Str}{st:Stmt}{f:Addr}{oc:Value}{od an:Option Addr}{osl:Array (Option Value)}{kV doc pm cdv ct:Value}(l:K.lookup f=some ⟨oc,od,.func (Df x qual (Kk st) (JZ st) (HQ st) .none kV doc pm an cdv ct),osl⟩)
 (c:F6 K cdv qual=true) (k:Es K (.ref f)=true):Fun K x qual st f (Df x qual (Kk st) (JZ st) (HQ st) .none kV doc pm an cdv ct):=⟨⟨oc,od,kV,doc,pm,an,cdv,ct,osl,rfl,l,c⟩,k⟩
end
theorem QW{k:Nat}(hr:Room k A):A.units+1<cLine:=BO (FU (by decide:1≤64) _) hr.units
theorem IB(h:n≤1000):n<Aw:=BO h (by decide)
theorem pv(i:Nat){pos:Pos}(hN:X.N[i]?=some x:=by rfl)(hv:Oi X.env.scope x:=by first | exact Or.inl rfl | exact Or.inr (Or.inl rfl) | exact Or.inr (Or.inr rfl))(hd:(x==("__debug__":Str))=false:=by decide)
 (hcd:(x==("__classdict__":Str))=false:=by decide):PE X (.Name x pos) (Kn i):=V0 hN hv hd hcd
theorem HE{A B:Prop}(h:B):if false=true then A else B:=by rw[if_neg An];exact h
theorem HG{A B:Prop}(h:A):if true=true then A else B:=by rw[if_pos rfl];exact h
theorem Il{c A B:Prop}[Decidable c](h1:c→A)(h2:¬c→B):if c then A else B:=by
 by_cases h:c
 · rw[if_pos h];exact h1 h
 · rw[if_neg h];exact h2 h
def Same(H H':Hp):Prop:=∀b o,H b=some o→H' b=some o
theorem Same.refl(H:Hp):Same H H:=λ_ _ h=>h
theorem Same.trans{H1 H2:Hp}(a:Same H H1)(b:Same H1 H2):Same H H2:=λc o h=>b c o (a c o h)
theorem Same.free{H':Hp}(e:Same H H'){l:Addr}(h:H' l=Option.none):H l=Option.none:=by
 cases q:H l with
 | none=>rfl
 | some o=> rw[e l o q] at h;cases h
theorem Same.seq{K:Ad}{H':Hp}(e:Same H H')(h:SqL K H a xs):SqL K H' a xs:=by
 rcases h with(h | ⟨o,h⟩) | h
 · exact .inl (.inl (e _ _ h))
 · exact .inl (.inr ⟨o,e _ _ h⟩)
 · exact .inr h
section
variable{κ:Type}[DecidableEq κ]
end
def Ij(X:Cx)(N':List Str)(scope:Scope)(cl:List (Str×Addr))(C:Addr)(s₀:Shared)(H₀:Hp)(ex:List Addr):Cx:=
 {prog:=X.prog,w:=X.w,K:=X.K,mg:=X.mg,base:=X.base,A:=X.A,N:=N',s₀:=s₀,H₀:=H₀,env:=compEnvC scope cl C X.env,outer:=X.stack,stack:=X.stack,ex:=ex,fn:=λx=>scope.names.lookup x==some .cell,calm:=X.calm,pn:=[],xe:=λ_ _=>False}
abbrev IC:=List (Option Nat)
def Jf(js:IC)(σ:St):St:=js.map λo=>o.bind λj=>(σ[j]?).join
theorem WC{env:Env}(has:∀x,(env.kindOf x=some .cell∨env.kindOf x=some .free)→∃c,env.cells.lookup x=some c):
 ∀(names:List (Str×NameKind))(acc:List (Str×Addr)),(∀p∈names,p.2= .free→env.kindOf p.1=some .cell∨env.kindOf p.1=some .free)→(∀x c,acc.lookup x=some c→env.cells.lookup x=some c)→
  ∃cl,(forIn names acc (λ(p:Str×NameKind)(cs:List (Str×Addr))=>(do
   if p.2==NameKind.free then
    let c ←cellOf env p.1
    pure (ForInStep.yield ((p.1,c)::cs))
   else pure (ForInStep.yield cs):Sem (ForInStep (List (Str×Addr))))))=pure cl∧(∀x c,cl.lookup x=some c→env.cells.lookup x=some c)∧
   (∀x,(acc.lookup x).isSome=true→(cl.lookup x).isSome=true)∧∀p∈names,p.2= .free→(cl.lookup p.1).isSome=true:=by
 intro names
 induction names with
 | nil=>intro acc _ ha;exact⟨acc,rfl,ha,λ_ h=>h,λ_ h=>nomatch h⟩
 | cons p r ih=>
  intro acc hn ha;obtain⟨n,k⟩:=p;rw[Fj];by_cases hk:k= .free
  · subst hk;obtain⟨c,hc⟩:=has n (hn (n,.free) Ah rfl);have e:cellOf env n=(pure c:Sem Addr):=by
     unfold cellOf;rw[hc]
    obtain⟨cl,h1,h2,h3,h4⟩:=ih ((n,c)::acc) (λq hq=>hn q (Ai _ hq)) (λx c' hx=>by
     rw[Cb] at hx;cases hb:x==n with
     | true=> rw[hb] at hx;cases hx;rw[show x=n from eq_of_beq hb];exact hc
     | false=> rw[hb] at hx;exact ha x c' hx)
    refine⟨cl,?_,h2,λx hx=>h3 x ?_,λq hq hf=>?_⟩
    · simp only[beq_self_eq_true,if_true,e];exact h1
    · rw[Cb];cases hb:x==n with
      | true=>rfl
      | false=>exact hx
    · rcases As.mp hq with rfl | hq
      · exact h3 _ (by simp[Cb])
      · exact h4 q hq hf
  · have hb:(k==NameKind.free)=false:=by simpa using hk
    obtain⟨cl,h1,h2,h3,h4⟩:=ih acc (λq hq=>hn q (Ai _ hq)) ha;refine⟨cl,?_,h2,h3,λq hq hf=>?_⟩
    · simp only[hb,A3,if_false];exact h1
    · rcases As.mp hq with rfl | hq
      · exact absurd hf hk
      · exact h4 q hq hf
theorem Mb{env:Env}{scope:Scope}(has:∀x,(env.kindOf x=some .cell∨env.kindOf x=some .free)→∃c,env.cells.lookup x=some c)
 (hn:∀p∈scope.names,p.2= .free→env.kindOf p.1=some .cell∨env.kindOf p.1=some .free):
 ∃cl,closureFor scope env=pure cl∧(∀x c,cl.lookup x=some c→env.cells.lookup x=some c)∧∀p∈scope.names,p.2= .free→(cl.lookup p.1).isSome=true:=by
 obtain⟨cl,h1,h2,_,h4⟩:=WC has scope.names [] hn (λ_ _ h=>nomatch h);refine⟨cl,?_,h2,h4⟩;unfold closureFor;show(do let cs ←forIn scope.names [] _;pure cs)=_
 refine Eq.trans ?_ h1;simp only[bind_pure]
section
variable{R:Result→Shared→Prop}
theorem Zb{elt target iter:Expr}{ifs:List Expr}{scope:Scope}{pos:Pos}{it acc:Value}{env:Env}(I:Nat→Shared→Prop)
 (turn:∀n s,I n s→wpAny (model prog w) A (pyNext it) (λr s₁=>match r with
  | none=>R (.ok .next) s₁
  | some v=>wpAny (model prog w) A (BL target it v) (λ_ s₁'=>wpAny (model prog w) A (assign target env v) (λ_ s₂=>
   wpAny (model prog w) A (forIn ifs true λc r=>if r=true then do let ok ←isTrue c env (eval c env);pure (ForInStep.yield ok) else pure (ForInStep.yield r)) (λok s₃=>
    if ok=true then wpAny (model prog w) A (eval elt env) (λx s₄=> wpAny (model prog w) A (call (.builtin "list.append") [acc,x]) (λ_ s₅=>∃m,m<n∧I m s₅) (λ_ _=>False) s₄) (λ_ _=>False) s₃
    else ∃m,m<n∧I m s₃) (λ_ _=>False) s₂) (λ_ _=>False) s₁') (λ_ _=>False) s₁) (λ_ _=>False) s)
 (n:Nat) (h:I n s):
 codeAny (model prog w) A (.compLoop (.ListComp elt [⟨target,iter,ifs,0⟩] scope pos) 0 it acc env) R s:=by
 refine Ed rfl I (λn s hI=>?_) n h;show wpAny _ A ((compTurn (.ListComp elt [⟨target,iter,ifs,0⟩] scope pos) 0 it acc env).onRaise (λx=>do noteFrame x env;theTreesLotGoes x)) _ _ s
 refine Ey ?_;rw[compTurn_list];refine Aa (Bu (Aa (Av (turn n s hI) (λr s₁ h₁=>?_) λ_ _ h'=>h'.elim)));cases r with
 | none=>exact Ac h₁
 | some v=>
  refine Aa (Av h₁ (λ_ s₁' h₁'=>?_) λ_ _ h'=>h'.elim);refine Aa (Av h₁' (λ_ s₂ h₂=>Aa (Av h₂ (λok s₃ h₃=>?_) λ_ _ h'=>h'.elim)) λ_ _ h'=>h'.elim);cases ok with
  | false=>exact Ac ⟨rfl,h₃⟩
  | true=> exact Aa (Aa (Av h₃ (λx s₄ h₄=>Aa (Av h₄ (λ_ s₅ h₅=>Ac (Ac ⟨rfl,h₅⟩)) λ_ _ h'=>h'.elim)) λ_ _ h'=>h'.elim))
end
def Ir(X:Cx)(ifs:List Expr)(t:TT):Prop:=
 ∀(pins:List (Addr×Obj))(s:Shared)(σ:St)(H:Hp)(Q:Bool→Hp→Prop),Inv X pins σ H s→t σ H Q→
  wpAny (model X.prog X.w) X.A (forIn ifs true λc r=>if r=true then do let ok ←isTrue c X.env (eval c X.env);pure (ForInStep.yield ok) else pure (ForInStep.yield r)) (TP X pins σ Q) X.xe s
def Km:TT:=λ_ H Q=>Q true H
theorem Jx:Ir X [] Km:=λ_ _ _ H _ I h=>wpAny_tests_nil ⟨H,I,h⟩
theorem Kz{c:Expr}{t:TT}(h:PT X c t):Ir X [c] t:=λpins s σ H Q I hw=>wpAny_tests_one (h pins s σ H Q I hw)
def JU(J:It)(p:Addr)(js:IC)(g:TG)(tc:TT)(te:TE)(σ:St)(H:Hp)(Q:VK):Prop:=
 ∃W:Nat→Nat→St→List V→Hp→Prop,(∃m,W 0 m (Jf js σ) [] (HD H p (.lst [])))∧∀i m σ' ys H,W i m σ' ys H→H p=some (.lst ys)∧
  ((J.stop i H∧Q (.ref p) H)∨(J.go i H∧ys.length<Aw∧∀x H',J.yld i H x H'→g x σ' H' λσ2 H2=>tc σ2 H2 λb H3=>
    if b=true then te σ2 H3 λy H4=>H4 p=some (.lst ys)∧∃m',m'<m∧W (i+1) m' σ2 (ys++[y]) (HD H4 p (.lst (ys++[y])))
    else ∃m',m'<m∧W (i+1) m' σ2 ys H3))
def UL(wi:TI)(js:IC)(g:TG)(tc:TT)(te:TE):TE:=λσ H Q=>wi σ H λJ H1=>∀p,H1 p=none→JU J p js g tc te σ H1 Q
structure CapOk(X:Cx)(N':List Str)(js:IC)(scope:Scope):Prop where
 len:js.length=N'.length
 kind:scope.kind= .function
 cells:∀p∈scope.names,p.2= .cell→scope.names.lookup p.1=some .cell
 names:∀p∈scope.names,p.2= .local→scope.names.lookup p.1=some .local
 free:∀p∈scope.names,p.2= .free→X.env.kindOf p.1=some .cell∨X.env.kindOf p.1=some .free
 cap:∀(i j:Nat),js[i]?=some (some j)→∃x,N'[i]?=some x∧X.N[j]?=some x∧scope.names.lookup x=some .free
theorem Pk{names:List (Str×NameKind)}{k:NameKind}(h:names.lookup x=some k):(x,k)∈names:=by
 induction names with
 | nil=>cases h
 | cons p r ih=>
  obtain⟨n,k'⟩:=p;rw[Cb] at h;cases hb:x==n with
  | true=> rw[hb] at h;cases h;rw[show x=n from eq_of_beq hb];exact Ah
  | false=> rw[hb] at h;exact Ai _ (ih h)
theorem U6{env:Env}{k:NameKind}(h:(relabel scope env).names.lookup x=some k):∃k0,scope.names.lookup x=some k0∧(k=k0∨(k0= .free∧k= .cell)):=by
 have go:∀(names:List (Str×NameKind)),(names.map λ(p:Str×NameKind)=>if(p.2==NameKind.free && env.scope.kind== .function && env.kindOf p.1==some .cell) then(p.1,NameKind.cell) else(p.1,p.2)).lookup x=some k→
  ∃k0,names.lookup x=some k0∧(k=k0∨(k0= .free∧k= .cell)):=by
  intro names
  induction names with
  | nil=>intro h;cases h
  | cons p r ih=>
   obtain⟨n,k'⟩:=p;intro h;rw[Am] at h;by_cases hc:(k'==NameKind.free && env.scope.kind== .function && env.kindOf n==some .cell)=true
   · rw[if_pos hc] at h;rw[Cb] at h ⊢;cases hb:x==n with
     | true=>
      rw[hb] at h;cases h;have:k'= .free:=by cases k'<;>first | rfl | (simp at hc)
      exact⟨k',rfl,.inr ⟨this,rfl⟩⟩
     | false=> rw[hb] at h;exact ih h
   · rw[if_neg hc] at h;rw[Cb] at h ⊢;cases hb:x==n with
     | true=> rw[hb] at h;cases h;exact⟨k',rfl,.inl rfl⟩
     | false=> rw[hb] at h;exact ih h
 exact go scope.names h
theorem zf3{env:Env}(h:scope.names.lookup x=some .free):(relabel scope env).names.lookup x=some .cell∨(relabel scope env).names.lookup x=some .free:=by
 have go:∀(names:List (Str×NameKind)),names.lookup x=some .free→(names.map λ(p:Str×NameKind)=>if(p.2==NameKind.free && env.scope.kind== .function && env.kindOf p.1==some .cell) then(p.1,NameKind.cell) else(p.1,p.2)).lookup x=some .cell∨
  (names.map λ(p:Str×NameKind)=>if(p.2==NameKind.free && env.scope.kind== .function && env.kindOf p.1==some .cell) then(p.1,NameKind.cell) else(p.1,p.2)).lookup x=some .free:=by
  intro names
  induction names with
  | nil=>intro h;cases h
  | cons p r ih=>
   obtain⟨n,k'⟩:=p;intro h;rw[Am];rw[Cb] at h;by_cases hc:(k'==NameKind.free && env.scope.kind== .function && env.kindOf n==some .cell)=true
   · rw[if_pos hc,Cb];cases hb:x==n with
     | true=>exact .inl rfl
     | false=> rw[hb] at h;exact ih h
   · rw[if_neg hc,Cb];cases hb:x==n with
     | true=> rw[hb] at h;exact .inr h
     | false=> rw[hb] at h;exact ih h
 exact go scope.names h
theorem NZ:∀(names:List (Str×NameKind))(n:Nat)(acc:List (Str×Addr)),BN n names acc=BN n names []++acc
 | [],_,_=>rfl
 | (x,k)::r,n,acc=>by
  unfold BN
  split
  · rw[NZ r _ ((x,n)::acc),NZ r _ [(x,n)],BV];rfl
  · exact NZ r n acc
theorem P5{c:Addr}:∀(names:List (Str×NameKind))(n:Nat)(acc:List (Str×Addr)),(x,c)∈BN n names acc→(x,NameKind.cell)∈names∨(x,c)∈acc
 | [],_,_,h=> .inr h
 | (y,k)::r,n,acc,h=>by
  unfold BN at h
  split at h
  · rename_i hk;rcases P5 r _ _ h with z | z
    · exact .inl (Ai _ z)
    · rcases As.mp z with z | z
      · cases z;rw[show k= .cell from eq_of_beq hk];exact .inl Ah
      · exact .inr z
  · rcases P5 r _ _ h with z | z
    · exact .inl (Ai _ z)
    · exact .inr z
structure OwnCells(scope:Scope)(cl0 cl:List (Str×Addr))(lo:Nat)(h₁:Heap):Prop where
 own:∀x c,cl.lookup x=some c→(scope.names.lookup x=some .cell→lo<c∧h₁.IsCell c none)∧(scope.names.lookup x≠some .cell→cl0.lookup x=some c)
 has:∀x,scope.names.lookup x=some .cell∨(cl0.lookup x).isSome=true→(cl.lookup x).isSome=true
 inj:∀x y c,scope.names.lookup x=some .cell→scope.names.lookup y=some .cell→cl.lookup x=some c→cl.lookup y=some c→x=y
theorem ME{M:Model}{A:Bn}{E:Value→Shared→Prop}{s:Shared}{globals:Addr}{cl0:List (Str×Addr)}{qual:Str}{env:Env}{Q:Env→Shared→Prop}(ok:∀p∈scope.names,p.2= .cell→scope.names.lookup p.1=some .cell)
 (hQ:∀(cl:List (Str×Addr))(h₁:Heap),(∃m,h₁.Ns s.heap.objs.size m)→(∀b u,s.heap.get? b=some u→h₁.get? b=some u)→OwnCells scope cl0 cl s.heap.objs.size h₁→
  Q (newEnv scope s.heap.objs.size globals cl qual none .none (some env) builtinsNs) {s with heap:=h₁,toks:=s.toks+([]:List (Str×Value)).length}):
 wpAny M A (newFunctionEnv scope globals cl0 [] qual none .none (some env)) Q E s:=by
 simp only[newFunctionEnv,Option.isSome_some,if_true];refine Aa (wpAny_alloc ?_);refine Aa (wpAny_layCells _ (λname kind cells=>by cases hkc:kind==NameKind.cell<;>simp[hkc]) _ _ _ _ ?_);have ck:=cellsFrom_ok scope.names (s.heap.push {cls:= .type "dict",data:= .dict #[]}) (s.heap.objs.size+1) [] ⟨λ_ _ hm=>(nomatch hm),List.Pairwise.nil⟩ (by rw[BK];exact Af _);rw[BK] at ck;rw[show({s with heap:=s.heap.push {cls:= .type "dict",data:= .dict #[]}}:Shared).heap.objs.size=s.heap.objs.size+1 from BK ..]
 rw[F8];refine Aa (Ac (Ac ?_));rw[NZ];refine hQ _ _ ⟨_,(Heap.Ns.new s.heap (.type "dict")).keeps (pushCells_keeps _ _)⟩ (λb o e=>pushCells_keeps _ _ b o (Ae _ e)) ?_;have lk:∀x,(BN (s.heap.objs.size+1) scope.names []++cl0).lookup x=((BN (s.heap.objs.size+1) scope.names []).lookup x).or (cl0.lookup x):=λx=>List.lookup_append;have cn:∀x c,(BN (s.heap.objs.size+1) scope.names []).lookup x=some c→scope.names.lookup x=some .cell:=λx c e=>by
  rcases P5 _ _ _ (mem_of_lookup e) with z | z
  · exact ok _ z rfl
  · cases z
 refine⟨λx c e=>⟨λhx=>?_,λhx=>?_⟩,λx hx=>?_,λx y c hx hy e1 e2=>?_⟩
 · rw[lk] at e;have q:=CA scope.names (s.heap.objs.size+1) [] (.inl hx);cases z:(BN (s.heap.objs.size+1) scope.names []).lookup x with
   | none=>rw[z] at q;cases q
   | some c'=> rw[z] at e;cases e;have:=ck.empty _ _ (mem_of_lookup z);exact⟨this.2,this.1⟩
 · rw[lk] at e;cases z:(BN (s.heap.objs.size+1) scope.names []).lookup x with
   | none=>rw[z] at e;exact e
   | some c'=>exact absurd (cn x c' z) hx
 · rw[lk];rcases hx with hx | hx
   · have q:=CA scope.names (s.heap.objs.size+1) [] (.inl hx);cases z:(BN (s.heap.objs.size+1) scope.names []).lookup x with
     | none=>rw[z] at q;cases q
     | some c'=>rfl
   · cases z:(BN (s.heap.objs.size+1) scope.names []).lookup x with
     | none=>exact hx
     | some c'=>rfl
 · rw[lk] at e1 e2;have go:∀x,scope.names.lookup x=some .cell→((BN (s.heap.objs.size+1) scope.names []).lookup x).or (cl0.lookup x)=some c→(x,c)∈BN (s.heap.objs.size+1) scope.names []:=λx hx e=>by
    have q:=CA scope.names (s.heap.objs.size+1) [] (.inl hx);cases z:(BN (s.heap.objs.size+1) scope.names []).lookup x with
    | none=>rw[z] at q;cases q
    | some c'=>rw[z] at e;cases e;exact mem_of_lookup z
   exact name_of_addr ck.apart (go x hx e1) (go y hy e2)
theorem M6{N':List Str}{js:IC}{cl0 cl:List (Str×Addr)}{fp:List Addr}{h₁:Heap}{t':Nat}(ok:CapOk X N' js scope)(I:Inv X pins σ H s)
 (h2':∀x c,cl0.lookup x=some c→X.env.cells.lookup x=some c) (h3':∀p∈scope.names,p.2= .free→(cl0.lookup p.1).isSome=true)
 (hf:∀b∈fp,HS X pins H b) (hlt:∀b∈fp,b<s.heap.objs.size)
 (k:∀b u,s.heap.get? b=some u→h₁.get? b=some u) (hn:∃m,h₁.Ns s.heap.objs.size m) (oc:OwnCells scope cl0 cl s.heap.objs.size h₁):
 Inv (Ij X N' scope cl s.heap.objs.size s H fp) [] (Jf js σ) H {s with heap:=h₁,toks:=t'}:=by
 have fresh:H s.heap.objs.size=none:=I.hok.fresh (Af _);have h2:∀x c,cl.lookup x=some c→(scope.names.lookup x=some .cell∧s.heap.objs.size<c∧h₁.IsCell c none)∨X.env.cells.lookup x=some c:=λx c e=>by
  by_cases hx:scope.names.lookup x=some .cell
  · exact .inl ⟨hx,(oc.own x c e).1 hx⟩
  · exact .inr (h2' x c ((oc.own x c e).2 hx))
 have h3:∀p∈scope.names,p.2= .free→(cl.lookup p.1).isSome=true:=λp hp e=>oc.has _ (.inr (h3' p hp e));have kind_of:∀x,((relabel scope X.env).names.lookup x=some .cell∨(relabel scope X.env).names.lookup x=some .free)→scope.names.lookup x=some .cell∨scope.names.lookup x=some .free:=λx hx=>by
  rcases hx with hx | hx
  · obtain⟨k0,e,z⟩:=U6 hx;rcases z with z | ⟨z,_⟩
    · subst z;exact .inl e
    · subst z;exact .inr e
  · obtain⟨k0,e,z⟩:=U6 hx;rcases z with z | ⟨z,z'⟩
    · subst z;exact .inr e
    · cases z'
 have clt:∀x c,X.env.cells.lookup x=some c→c<s.heap.objs.size:=λx c e=>let⟨v,hv⟩:=I.cell x c e;hv.lt;have okc:(Ij X N' scope cl s.heap.objs.size s H fp).Ok:=by
  refine⟨I.ok.mod,ok.kind,I.ok.glob,I.ok.blt,Af _,λx y c e1 e2=>?_,λx hx=>?_,λx c hx e=>?_,I.ok.hd,I.ok.frames,.inl rfl,λb hb=>⟨A5 (hlt b hb),λx c e=>?_⟩,I.bs,A2 I.ok.bsz I.sz,λb o e hb=>?_,λb hb hb'=>?_,I.stack,I.stkFree⟩
  · rcases h2 x c e1 with⟨k1,l1,_⟩ | l1
    · rcases h2 y c e2 with⟨k2,l2,_⟩ | l2
      · exact oc.inj x y c k1 k2 e1 e2
      · exact absurd l1 (Nat.lt_asymm (clt y c l2))
    · rcases h2 y c e2 with⟨k2,l2,_⟩ | l2
      · exact absurd l2 (Nat.lt_asymm (clt x c l1))
      · exact I.ok.inj x y c l1 l2
  · have z:(cl.lookup x).isSome=true:=by
     rcases kind_of x hx with e | e
     · exact oc.has x (.inl e)
     · exact h3 _ (Pk e) rfl
    cases q:cl.lookup x with
    | none=>rw[q] at z;cases z
    | some c=>exact⟨c,q⟩
  · exact Bo ((oc.own x c e).1 (eq_of_beq hx)).1
  · rcases h2 x c e with⟨_,l,_⟩ | l
    · exact λz=>Nat.lt_asymm (hlt b hb) (z ▸ l)
    · exact(hf b hb).2.2.2.2.1 x c l
  · rcases(hf b hb).2.2.2.1 with z | z
    · exact I.ok.noex b o e z
    · exact absurd (AB (Ao e) (A2 I.ok.bsz z)) (C5 _)
  · rcases As.mp (I.stkSub b hb') with z | z
    · exact(hf b hb).2.1 z
    · exact(hf b hb).2.2.1 z
 obtain⟨m,hn⟩:=hn;refine⟨okc,rfl,I.bare,Un.kept k,⟨m,hn,λi x v e1 e2 e3=>?_⟩,λx c e=>?_,fresh,λx c e=>?_,(λp hp=>nomatch hp),I.hok.kept k,by show(Jf js σ).length=N'.length;unfold Jf;rw[Ab];exact ok.len⟩
 · have e2:(Jf js σ)[i]?=some (some v):=e2;unfold Jf at e2;rw[Aj] at e2;cases q:js[i]? with
   | none=>rw[q] at e2;cases e2
   | some o=>
    rw[q] at e2;cases o with
    | none=>cases e2
    | some j=>
     obtain⟨x',n1,n2,n3⟩:=ok.cap i j q;have e1:N'[i]?=some x:=e1;rw[n1] at e1;cases e1;have e2:(σ[j]?).join=some v:=A4 e2;have e2':σ[j]?=some (some v):=by
      cases q2:σ[j]? with
      | none=>rw[q2] at e2;cases e2
      | some o2=>rw[q2] at e2;exact congrArg some e2
     obtain⟨mo,hno,hlo⟩:=I.loc;have kx:=ok.free _ (Pk n3) rfl;have vis:Oi X.env.scope x:=by
      rcases kx with z | z
      · exact .inr (.inl z)
      · exact .inr (.inr z)
     obtain⟨u,r,l⟩:=hlo j x v n2 e2' vis;refine⟨u,r,.inr ⟨zf3 n3,?_⟩⟩;rcases l with⟨z,_⟩ | ⟨_,c,hc,hcell⟩
     · rcases kx with y | y<;>(rw[z] at y;cases y)
     · have z:=h3 _ (Pk n3) rfl;cases q3:cl.lookup x with
       | none=>rw[q3] at z;cases z
       | some c'=> have:=h2' x c' ((oc.own x c' q3).2 (by rw[n3];decide));rw[hc] at this;cases this;exact⟨c,q3,hcell.keeps k⟩
 · rcases h2 x c e with⟨_,_,l⟩ | l
   · exact⟨_,l⟩
   · obtain⟨v,hv⟩:=I.cell x c l;exact⟨v,hv.keeps k⟩
 · rcases h2 x c e with⟨_,l,_⟩ | l
   · exact I.hok.fresh (Bo l)
   · exact I.freeC x c l
section
variable{tg iter elt:Expr}{ifs:List Expr}{wi:TI}{js:IC}{g:TG}{tc:TT}{te:TE}{N':List Str}
theorem Ti{pins:List (Addr×Obj)}{σ:St}{H:Hp}{s:Shared}{E:Value→Shared→Prop}{Q:VK}{J:It}{it:Addr}{fp:List Addr}{tn:Nat→Heap→Prop}{cl:List (Str×Addr)}
 (hc:X.calm=true) (ok:CapOk X N' js scope)
 (h2:∀x c,cl.lookup x=some c→X.env.cells.lookup x=some c) (h3:∀p∈scope.names,p.2= .free→(cl.lookup p.1).isSome=true)
 (hg:∀cl C s₀ H₀ ex,PG (Ij X N' scope cl C s₀ H₀ ex) tg g) (ht:∀cl C s₀ H₀ ex,Ir (Ij X N' scope cl C s₀ H₀ ex) ifs tc) (he:∀cl C s₀ H₀ ex,PE (Ij X N' scope cl C s₀ H₀ ex) elt te)
 (I:Inv X pins σ H s) (T:Turn X.prog X.w X.K tg J fp it tn) (st:tn 0 s.heap) (hf:∀b∈fp,HS X pins H b)
 (hw:∀p,H p=none→JU J p js g tc te σ H Q):
 wpAny (model X.prog X.w) X.A (newList []) (λacc s₃=>wpAny (model X.prog X.w) X.A (newFunctionEnv scope X.env.globals cl [] X.env.qual none .none (some X.env)) (λcenv s₄=>
  codeAny (model X.prog X.w) X.A (.compStart (.ListComp elt [⟨tg,iter,ifs,0⟩] scope pos) 0 (.ref it) acc {cenv with scope:=relabel scope X.env})
   (λr s'=>r= .ok .next∧(∃m,s'.heap.Ns cenv.locals m)∧∃v H',RelV v acc∧Inv X pins σ H' s'∧HS X pins H' cenv.locals∧Q v H') s₄) E s₃) E s:=by
 have objs:=T.obj _ _ st;refine Bh ?_ (by show 0≤Aw;decide);obtain⟨W,⟨m0,w0⟩,turn⟩:=hw s.heap.objs.size (I.hok.fresh (Af _));generalize hp:s.heap.objs.size=p at*;have kp:∀b u,s.heap.get? b=some u→(s.heap.push {cls:= .type "list",dict:=none,data:= .seq ([]:List Value).toArray}).get? b=some u:=λb u e=>Ae _ e;have I3:Inv X pins σ (HD H p (.lst [])) {s with heap:=s.heap.push {cls:= .type "list",dict:=none,data:= .seq ([]:List Value).toArray}}:=by refine I.laid (t':=s.toks) kp (by rw[hp];exact Af _) ⟨AC _,[],0,.nil,?_⟩;have:=Au s.heap (o:={cls:= .type "list",dict:=none,data:= .seq ([]:List Value).toArray}) rfl;rw[hp] at this;exact this
 have fne:∀b∈fp,b≠p:=λb hb=>by obtain⟨o,e,_⟩:=objs b hb;have:=Ao e;rw[←hp];exact A5 this
 have hf3:∀b∈fp,HS X pins (HD H p (.lst [])) b:=λb hb=>⟨by rw[HV (fne b hb)];exact(hf b hb).1,(hf b hb).2⟩;have st3:tn 0 (s.heap.push {cls:= .type "list",dict:=none,data:= .seq ([]:List Value).toArray}):=T.keep _ _ _ st λb _ o e=>kp b o e;have lt3:∀b∈fp,b<(s.heap.push {cls:= .type "list",dict:=none,data:= .seq ([]:List Value).toArray}).objs.size:=λb hb=>by obtain⟨o,e,_⟩:=objs b hb;exact Ao (kp b o e)
 generalize hs3:({s with heap:=s.heap.push {cls:= .type "list",dict:=none,data:= .seq ([]:List Value).toArray}}:Shared)=s3 at*
 have eh:s.heap.push {cls:= .type "list",dict:=none,data:= .seq ([]:List Value).toArray}=s3.heap:=by rw[←hs3]
 rw[eh] at st3 lt3;refine ME ok.cells λcl h₁ hns₁ k4 oc=>?_;have I4:=M6 (cl:=cl) (h₁:=h₁) (t':=s3.toks+([]:List (Str×Value)).length) ok I3 h2 h3 hf3 lt3 k4 hns₁ oc;have st4:tn 0 h₁:=T.keep _ _ _ st3 λb _ o e=>k4 b o e;generalize hX:Ij X N' scope cl s3.heap.objs.size s3 (HD H p (.lst [])) fp=X' at I4;have hg':PG X' tg g:=by rw[←hX];exact hg _ _ _ _ _
 have ht':Ir X' ifs tc:=by rw[←hX];exact ht _ _ _ _ _
 have he':PE X' elt te:=by rw[←hX];exact he _ _ _ _ _
 have eP:X'.prog=X.prog:=by rw[←hX];rfl
 have ew:X'.w=X.w:=by rw[←hX];rfl
 have eK:X'.K=X.K:=by rw[←hX];rfl
 have ec:X'.calm=true:=by rw[←hX];exact hc
 have eA:X'.A=X.A:=by rw[←hX];rfl
 have ex:X'.xe=λ_ _=>False:=by rw[←hX];rfl
 have eE:X'.env=compEnvC scope cl s3.heap.objs.size X.env:=by rw[←hX];rfl
 have eEx:X'.ex=fp:=by rw[←hX];rfl
 have eN:X'.pn=[]:=by rw[←hX];rfl
 have stat:∀{H':Hp},(∀b∈fp,H' b=none)→∀b∈fp,HS X' [] H' b:=λ{H'}hn b hb=>by have okc:=I4.ok;refine⟨hn b hb,(okc.exf b (by rw[eEx];exact hb)).1,okc.exfs b (by rw[eEx];exact hb),.inl (by rw[eEx];exact hb),(okc.exf b (by rw[eEx];exact hb)).2,λq hq=>?_⟩;rw[eN] at hq;cases hq
 have loop:∀s₄:Shared,s₄={s3 with heap:=h₁,toks:=s3.toks+([]:List (Str×Value)).length}→
  codeAny (model X.prog X.w) X.A (.compLoop (.ListComp elt [⟨tg,iter,ifs,0⟩] scope pos) 0 (.ref it) (.ref p) (compEnvC scope cl s3.heap.objs.size X.env))
   (λr s'=>r= .ok .next∧(∃m,s'.heap.Ns s3.heap.objs.size m)∧∃v H',RelV v (.ref p)∧Inv X pins σ H' s'∧HS X pins H' s3.heap.objs.size∧Q v H') s₄:=by
  rintro s₄ rfl;refine Zb (λn s'=>∃i σ' ys H',Inv X' [] σ' H' s'∧tn i s'.heap∧(∀b∈fp,H' b=none)∧W i n σ' ys H') ?_ m0 ⟨0,_,[],_,I4,st4,λb hb=>(hf3 b hb).1,w0⟩;rintro n s5 ⟨i,σ5,ys,H5,I5,st5,fr5,w5⟩;obtain⟨hp5,tu⟩:=turn i n σ5 ys H5 w5;rcases tu with⟨stop,qn⟩ | ⟨go,hz,step⟩
  · have D:=T.done X' eP ew eK ec i [] s5 σ5 H5 (λ_ _=>False) I5 (stat fr5) st5 stop;rw[eA] at D;refine HJ D λr s6 ⟨hr,I6⟩=>?_;subst hr;refine⟨rfl,?_,.ref p,H5,rfl,?_,?_,qn⟩
    · obtain⟨m,hm,_⟩:=I6.loc;rw[eE] at hm;exact⟨m,hm⟩
    · have b6:=I6.base;have ho:=I6.os;have hk:=I6.hok;have hb:=I6.bare;subst hX;exact I3.call' (ch:=fp) ho b6 hk hb λb hb'=>⟨(hf b hb').2.2.2.1,(hf b hb').2.1,(hf b hb').2.2.2.2.1,(hf b hb').2.2.2.2.2⟩
    · have fr:=I6.free;rw[eE] at fr;exact I3.fpOk (Af _) fr
  · have D:=T.item X' eP ew eK ec i [] s5 σ5 H5 (λ_ _=>False) I5 (stat fr5) st5 go;rw[eA] at D;refine HJ D λr s6 ⟨u,hr,h6⟩=>?_;subst hr;refine HJ h6 λ_ s7 ⟨x,H7,I7,r7,y7,st7,fr7⟩=>?_;have I7':=I7.pinned (stat fr7) (T.obj _ _ st7);have G:=hg' _ s7 σ5 H7 x u _ I7' r7 (step x H7 y7);rw[eP,ew,eA,ex,eE] at G;refine HJ G λ_ s8 ⟨σ8,H8,I8,q8⟩=>?_;have Tt:=ht' _ s8 σ8 H8 _ I8 q8;rw[eP,ew,eA,ex,eE] at Tt;refine HJ Tt λb s9 ⟨H9,I9,q9⟩=>?_;have again:∀{s':Shared}{ys':List V}{H':Hp},Inv X' ([]++Ky fp s7.heap) σ8 H' s'→(∃m',m'<n∧W (i+1) m' σ8 ys' H')→
     ∃m,m<n∧∃i σ' ys H',Inv X' [] σ' H' s'∧tn i s'.heap∧(∀b∈fp,H' b=none)∧W i m σ' ys H':=λ{s' ys' H'}I' ⟨m',hm,w'⟩=>by
     refine⟨m',hm,i+1,σ8,ys',H',I'.unpinned,T.keep _ _ _ st7 λb hb o e=>(I'.pin (b,o) (Ag _ (Ag _ (JK hb e)))).1,λb hb=>?_,w'⟩;obtain⟨o,e,d⟩:=T.obj _ _ st7 b hb;exact(I'.pin (b,o) (Ag _ (Ag _ (JK hb e)))).2.1
    cases b with
    | false=>exact again I9 q9
    | true=> have Ee:=he' _ s9 σ8 H9 _ I9 q9;rw[eP,ew,eA,ex,eE] at Ee;show wpAny _ _ _ _ _ _;refine HJ Ee λxv s10 ⟨y,H10,I10,r10,hp10,q10⟩=>?_;have Ap:=Kb (X:=X') _ s10 σ8 H10 (.ref p) [y] (.ref p) [xv] (λ_ H'=>H'=HD H10 p (.lst (ys++[y]))) I10 rfl (.cons r10 .nil) ⟨p,ys,y,rfl,rfl,hp10,hz,rfl⟩;rw[eP,ew,eA,ex] at Ap;refine HJ Ap λ_ s11 ⟨_,H11,I11,_,e11⟩=>?_;subst e11;exact again I11 q10
 exact Fs (loop _ rfl) (T.self _ 0 _ _ _ st4 (loop _ rfl))
theorem J6(hc:X.calm=true)(ok:CapOk X N' js scope)(hi:PI X tg iter wi)
 (hg:∀cl C s₀ H₀ ex,PG (Ij X N' scope cl C s₀ H₀ ex) tg g) (ht:∀cl C s₀ H₀ ex,Ir (Ij X N' scope cl C s₀ H₀ ex) ifs tc) (he:∀cl C s₀ H₀ ex,PE (Ij X N' scope cl C s₀ H₀ ex) elt te)
 (hs:∀x,Bp iter X.env x=pure x:=by intro _;rfl):PE X (.ListComp elt [⟨tg,iter,ifs,0⟩] scope pos) (UL wi js g tc te):=by
 intro pins s σ H Q I h;obtain⟨cl,c1,c2,c3⟩:=Mb (scope:=scope) I.ok.has ok.free;rw[eval_ListComp];refine Cc (use:=none) rfl hs c1 ok.kind ok.names (HJ (hi pins s σ H _ I h) λv s1 h1=>HJ h1 λitv s2 h2=>?_);obtain⟨it,fp,tn,J,H2,e,I2,T,st2,f2,hw⟩:=h2;subst e;refine Av (Ti (iter:=iter) (pos:=pos) hc ok c2 c3 hg ht he I2 T st2 f2 hw) (λacc s3 h3=>Av h3 (λcenv s4 h4=>?_) λ_ _ z=>z) λ_ _ z=>z;refine BS h4 λr s5 h5=>?_;obtain⟨rfl,⟨m,hm⟩,v,H5,rv,I5,f5,q5⟩:=h5;refine⟨m,hm,λh' sb=>?_⟩;obtain⟨f0,f1,_,f3,f4,f6⟩:=f5;exact⟨v,H5,I5.turned (t':=s5.toks) (λb o hb e=>(sb.2 b hb).trans e) f0 f1 f3 f4 f6,rv,q5⟩
theorem LL{px:Pos}{spos:Pos}(hN:X.N.Nodup)(hi':X.N[i]?=some x)(hx:Nl X.env.scope x)(hc:X.calm=true)(ok:CapOk X N' js scope)(hi:PI X tg iter wi)
 (hg:∀cl C s₀ H₀ ex,PG (Ij X N' scope cl C s₀ H₀ ex) tg g) (ht:∀cl C s₀ H₀ ex,Ir (Ij X N' scope cl C s₀ H₀ ex) ifs tc) (he:∀cl C s₀ H₀ ex,PE (Ij X N' scope cl C s₀ H₀ ex) elt te)
 (hsw:swapsWith (.ListComp elt [⟨tg,iter,ifs,0⟩] scope pos) (some (.Name x px)) spos.line X.env=pure true:=by rfl)
 (hs:∀x,Bp iter X.env x=pure x:=by intro _;rfl) (hf:X.fn x=true∨X.env.scope.names.lookup x=some .local:=by first | exact .inl rfl | exact .inr rfl | assumption):
 PS X (.Assign [.Name x px] (.ListComp elt [⟨tg,iter,ifs,0⟩] scope pos) spos) (KO (UL wi js g tc te) (JS i)):=by
 intro pins s σ H D I h;obtain⟨cl,c1,c2,c3⟩:=Mb (scope:=scope) I.ok.has ok.free;rw[exec_Assign_Name_used _ _ _ _ hsw];refine Aa (Bu (Aa ?_));show wpAny _ X.A (do let _ ←comprehension (.ListComp elt [⟨tg,iter,ifs,0⟩] scope pos) scope X.env _ (newList []) false (eval iter X.env) (some (assign (.Name x px) X.env))) _ _ s
 refine Aa (Av (Cc (use:=some (assign (.Name x px) X.env)) (Q:=λ_ s'=>SP X pins D .next s') rfl hs c1 ok.kind ok.names
  (HJ (hi pins s σ H _ I h) λv s1 h1=>HJ h1 λitv s2 h2=>?_)) (λ_ s' hq=>Ac (Ac hq)) λ_ _ e=>e)
 obtain⟨it,fp,tn,J,H2,e,I2,T,st2,f2,hw⟩:=h2;subst e;refine Av (Ti (Q:=λx H1=>JS i x σ H1 D.nx) (iter:=iter) (pos:=pos) hc ok c2 c3 hg ht he I2 T st2 f2 hw) (λacc s3 h3=>Av h3 (λcenv s4 h4=>?_) λ_ _ z=>z) λ_ _ z=>z;refine BS h4 λr s5 h5=>?_;obtain⟨rfl,⟨m,hm⟩,v,H5,rv,I5,f5,q5⟩:=h5;obtain⟨f0,f1,f2',f3,f4,f6⟩:=f5;show wpAny _ X.A (assign (.Name x px) X.env acc) _ _ _;refine wpAny_assign_Name (Ue I5 hN hi' hx rv (λs6 I6 ch=>?_) hf);obtain⟨a,sb,ha⟩:=ch;have na:cenv.locals≠a:=by
  rcases ha with z | z
  · rw[z];exact f1
  · exact λy=>f4 x a z y.symm
 refine⟨m,hm.sameBut sb na,λh' sb'=>⟨_,H5,I6.turned (t':=s6.toks) (λb o hb e=>(sb'.2 b hb).trans e) f0 f1 f3 f4 f6,q5⟩⟩
end
end L2
set_option exponentiation.threshold 2000
namespace L2
def QS(i j:Int):Prop:=0≤j∧j≤1000∧i.natAbs<2^1000
def UW(i j:Int):Prop:=0<j∧j<2^1000
theorem K3:Iv X (binaryOp .Pow) (rI QS λi j=> .int (i^j.toNat)):=MQ λi j _ _ _ _ _ hc q=>by
 obtain⟨h0,h1,h2⟩:=hc;refine pow_int h0 ?_ q;have hb:Eo i≤1000:=intBits_le h2;have e1:((Eo i:Nat):Int)*j≤1000*1000:=by have a1:((Eo i:Nat):Int)*j≤1000*j:=Int.mul_le_mul_of_nonneg_right (by omega) h0;have a2:1000*j≤1000*1000:=Int.mul_le_mul_of_nonneg_left h1 (by decide);exact Int.le_trans a1 a2
 exact Int.le_trans e1 (by decide)
theorem Pd:Iv X (binaryOp .FloorDiv) (rI UW λi j=> .int (i / j)):=MQ λi j _ _ _ _ _ hc q=>by
 obtain⟨h0,h1⟩:=hc;refine floordiv_int (by omega) ?_ (.inl (PyProof.noPylong_of_log2 ?_))
 · rw[Int.fdiv_eq_ediv_of_nonneg _ (by omega)];exact q
 · have h2:j.natAbs<2^1000:=by
    have e:((j.natAbs:Nat):Int)=j:=by omega
    have h3:((j.natAbs:Nat):Int)<((2^1000:Nat):Int):=by rw[e,Int.natCast_pow];exact h1
    exact Int.ofNat_lt.mp h3
   have h4:j.natAbs≠0:=by omega
   have h5:=(Nat.log2_lt h4).mpr h2;omega
inductive PD where
 | non | bl (b:Bool) | int (i:Int) | str (x:Str) | lst (ds:List PD) | tup (ds:List PD)
mutual
def Rep(K:Ad)(H:Hp):PD→V→Prop
 | .non,v=>v= .non
 | .bl b,v=>v= .bl b
 | .int i,v=>v= .int i
 | .str x,v=>v= .str x
 | .lst ds,v=>∃a xs,v= .ref a∧SqL K H a xs∧Reps K H ds xs
 | .tup ds,v=>∃a xs,v= .ref a∧SqT K H a xs∧Reps K H ds xs
def Reps(K:Ad)(H:Hp):List PD→List V→Prop
 | [],xs=>xs=[]
 | d::ds,xs=>∃x r,xs=x::r∧Rep K H d x∧Reps K H ds r
end
mutual
def HL:PD→PD→Bool
 | .non,.non=>true
 | .bl a,.bl b=>a==b
 | .bl a,.int b=>(if a then 1 else 0)==b
 | .int a,.bl b=>a==(if b then 1 else 0)
 | .int a,.int b=>a==b
 | .str a,.str b=>a==b
 | .lst xs,.lst ys=>Ix xs ys
 | .tup xs,.tup ys=>Ix xs ys
 | _,_=>false
def Ix:List PD→List PD→Bool
 | [],[]=>true
 | x::xs,y::ys=>HL x y && Ix xs ys
 | _,_=>false
end
mutual
def Iw:PD→Nat
 | .lst ds=>IR ds+1
 | .tup ds=>IR ds+1
 | _=>0
def IR:List PD→Nat
 | []=>0
 | d::ds=>max (Iw d) (IR ds)
end
mutual
theorem KE:∀d:PD,HL d d=true
 | .non=>rfl
 | .bl b=>by simp[HL]
 | .int i=>by simp[HL]
 | .str x=>by simp[HL]
 | .lst ds=>by rw[HL];exact NR ds
 | .tup ds=>by rw[HL];exact NR ds
theorem NR:∀ds:List PD,Ix ds ds=true
 | []=>by rw[Ix]
 | d::ds=>by rw[Ix,KE d,NR ds];rfl
end
theorem Reps.length{K:Ad}:∀{ds:List PD}{xs:List V},Reps K H ds xs→xs.length=ds.length
 | [],xs,h=>by rw[Reps] at h;rw[h];rfl
 | d::ds,xs,h=>by rw[Reps] at h;obtain⟨x,r,rfl,_,h⟩:=h;rw[A8,A8,Reps.length h]
theorem Lm:∀{xs ys:List PD},xs.length≠ys.length→Ix xs ys=false
 | [],[],h=>absurd rfl h
 | [],_::_,_=>by rw[Ix];all_goals simp
 | _::_,[],_=>by rw[Ix];all_goals simp
 | x::xs,y::ys,h=>by rw[Ix,Lm (xs:=xs) (ys:=ys) (by simpa using h)];simp
def Lw(xs ys:List PD)(j:Nat):Bool:=match xs[j]?,ys[j]? with
 | some a,some b=>HL a b
 | _,_=>false
theorem LJ:∀(xs ys:List PD),xs.length=ys.length→(AI xs.length).all (Lw xs ys)=Ix xs ys
 | [],[],_=>by rw[Ix];rfl
 | x::xs,y::ys,h=>by rw[Ix,A8,Ft,C6,List.all_map];rw[←LJ xs ys (by simpa using h)];rfl
theorem SqT.notL{K:Ad}{ys:List V}(I:Inv X pins σ H s)(h:SqT X.K H a xs)(h':SqL X.K H a ys):False:=by obtain⟨its,_,p,_⟩:=I.tuple h;obtain⟨its',_,p',_⟩:=I.list h';exact SeqAt.ne_of_list_tuple p'.isList (show s.heap.IsTuple a its.toArray from p) rfl
mutual
theorem ND(I:Inv X pins σ H s):∀(d e:PD)(v:V),Rep X.K H d v→Rep X.K H e v→d=e
 | .non,e,v,h,h'=>by rw[Rep] at h;subst h;cases e<;>rw[Rep] at h'<;>first | rfl | (obtain⟨_,_,z,_⟩:=h';cases z;done) | (cases h';done)
 | .bl b,e,v,h,h'=>by rw[Rep] at h;subst h;cases e<;>rw[Rep] at h'<;>first | (obtain⟨_,_,z,_⟩:=h';cases z;done) | (cases h';done) | (cases h';rfl)
 | .int i,e,v,h,h'=>by rw[Rep] at h;subst h;cases e<;>rw[Rep] at h'<;>first | (obtain⟨_,_,z,_⟩:=h';cases z;done) | (cases h';done) | (cases h';rfl)
 | .str x,e,v,h,h'=>by rw[Rep] at h;subst h;cases e<;>rw[Rep] at h'<;>first | (obtain⟨_,_,z,_⟩:=h';cases z;done) | (cases h';done) | (cases h';rfl)
 | .lst ds,e,v,h,h'=>by
  rw[Rep] at h;obtain⟨a,xs,rfl,q,r⟩:=h;cases e with
  | lst es=> rw[Rep] at h';obtain⟨a',ys,z,q',r'⟩:=h';cases z;have:=I.list_inj q q';subst this;rw[Ph I ds es xs r r']
  | tup es=> rw[Rep] at h';obtain⟨a',ys,z,q',r'⟩:=h';cases z;exact(SqT.notL (K:=X.K) I q' q).elim
  | _=>rw[Rep] at h';cases h'
 | .tup ds,e,v,h,h'=>by
  rw[Rep] at h;obtain⟨a,xs,rfl,q,r⟩:=h;cases e with
  | tup es=> rw[Rep] at h';obtain⟨a',ys,z,q',r'⟩:=h';cases z;have:=I.tuple_inj q q';subst this;rw[Ph I ds es xs r r']
  | lst es=> rw[Rep] at h';obtain⟨a',ys,z,q',r'⟩:=h';cases z;exact(SqT.notL (K:=X.K) I q q').elim
  | _=>rw[Rep] at h';cases h'
theorem Ph(I:Inv X pins σ H s):∀(ds es:List PD)(vs:List V),Reps X.K H ds vs→Reps X.K H es vs→ds=es
 | [],es,vs,h,h'=>by
  rw[Reps] at h;subst h;cases es with
  | nil=>rfl
  | cons e es=>rw[Reps] at h';obtain⟨_,_,z,_⟩:=h';cases z
 | d::ds,es,vs,h,h'=>by
  rw[Reps] at h;obtain⟨x,r,rfl,h1,h2⟩:=h;cases es with
  | nil=>rw[Reps] at h';cases h'
  | cons e es=> rw[Reps] at h';obtain⟨x',r',z,h1',h2'⟩:=h';cases z;rw[ND I d e x h1 h1',Ph I ds es r h2 h2']
end
mutual
theorem LF(I:Inv X pins σ H s):∀(A:Bn)(d e:PD)(v w:V)(u y:Value),Rep X.K H d v→Rep X.K H e w→RelV v u→RelV w y→A.units+Iw d<cLine→DA A s u y (HL d e)
 | A,.non,e,v,w,u,y,h,h',r,r',z=>by
  rw[Rep] at h;subst h;cases r;cases e with
  | non=>rw[Rep] at h';subst h';cases r';rw[HL];exact Dt _
  | bl b=>rw[Rep] at h';subst h';cases r';exact FI b
  | int b=>rw[Rep] at h';subst h';obtain⟨t,rfl⟩:=r';exact Ek b t
  | str b=>rw[Rep] at h';subst h';obtain⟨t,rfl⟩:=r';exact El b t
  | lst es=>rw[Rep] at h';obtain⟨a,xs,rfl,q,_⟩:=h';cases r';obtain⟨its,_,p,_⟩:=I.list q;exact SeqAt.EqAt.none_list p.isList (by omega)
  | tup es=>rw[Rep] at h';obtain⟨a,xs,rfl,q,_⟩:=h';cases r';obtain⟨its,_,p,_⟩:=I.tuple q;exact SeqAt.EqAt.none_tuple p (by omega)
 | A,.bl c,e,v,w,u,y,h,h',r,r',z=>by
  rw[Rep] at h;subst h;cases r;cases e with
  | non=>rw[Rep] at h';subst h';cases r';exact FJ c
  | bl b=>rw[Rep] at h';subst h';cases r';exact FK c b
  | int b=>rw[Rep] at h';subst h';obtain⟨t,rfl⟩:=r';exact FQ c b t
  | str b=>rw[Rep] at h';subst h';obtain⟨t,rfl⟩:=r';exact FR c b t
  | lst es=>rw[Rep] at h';obtain⟨a,xs,rfl,q,_⟩:=h';cases r';obtain⟨its,_,p,_⟩:=I.list q;exact SeqAt.EqAt.bool_list c p.isList (by omega)
  | tup es=>rw[Rep] at h';obtain⟨a,xs,rfl,q,_⟩:=h';cases r';obtain⟨its,_,p,_⟩:=I.tuple q;exact SeqAt.EqAt.bool_tuple c p (by omega)
 | A,.int c,e,v,w,u,y,h,h',r,r',z=>by
  rw[Rep] at h;subst h;obtain⟨tc,rfl⟩:=r;cases e with
  | non=>rw[Rep] at h';subst h';cases r';exact Em c tc
  | bl b=>rw[Rep] at h';subst h';cases r';exact FS c tc b
  | int b=>rw[Rep] at h';subst h';obtain⟨t,rfl⟩:=r';exact SeqAt.EqAt.int_int c tc b t
  | str b=>rw[Rep] at h';subst h';obtain⟨t,rfl⟩:=r';exact Dy c tc b t
  | lst es=>rw[Rep] at h';obtain⟨a,xs,rfl,q,_⟩:=h';cases r';obtain⟨its,_,p,_⟩:=I.list q;exact SeqAt.EqAt.int_list c tc p.isList (by omega)
  | tup es=>rw[Rep] at h';obtain⟨a,xs,rfl,q,_⟩:=h';cases r';obtain⟨its,_,p,_⟩:=I.tuple q;exact SeqAt.EqAt.int_tuple c tc p (by omega)
 | A,.str c,e,v,w,u,y,h,h',r,r',z=>by
  rw[Rep] at h;subst h;obtain⟨tc,rfl⟩:=r;cases e with
  | non=>rw[Rep] at h';subst h';cases r';exact En c tc
  | bl b=>rw[Rep] at h';subst h';cases r';exact FT c tc b
  | int b=>rw[Rep] at h';subst h';obtain⟨t,rfl⟩:=r';exact Dz c tc b t
  | str b=>rw[Rep] at h';subst h';obtain⟨t,rfl⟩:=r';exact SeqAt.EqAt.str_str c tc b t
  | lst es=>rw[Rep] at h';obtain⟨a,xs,rfl,q,_⟩:=h';cases r';obtain⟨its,_,p,_⟩:=I.list q;exact SeqAt.EqAt.str_list c tc p.isList (by omega)
  | tup es=>rw[Rep] at h';obtain⟨a,xs,rfl,q,_⟩:=h';cases r';obtain⟨its,_,p,_⟩:=I.tuple q;exact SeqAt.EqAt.str_tuple c tc p (by omega)
 | A,.lst ds,e,v,w,u,y,h,h',r,r',z=>by
  have h0:=h;rw[Rep] at h;obtain⟨a,xs,rfl,q,qs⟩:=h;cases r;obtain⟨its,rv,p,_⟩:=I.list q;cases e with
  | non=>rw[Rep] at h';subst h';cases r';exact SeqAt.EqAt.list_none p.isList (by omega)
  | bl b=>rw[Rep] at h';subst h';cases r';exact SeqAt.EqAt.list_bool b p.isList (by omega)
  | int b=>rw[Rep] at h';subst h';obtain⟨t,rfl⟩:=r';exact SeqAt.EqAt.list_int b t p.isList (by omega)
  | str b=>rw[Rep] at h';subst h';obtain⟨t,rfl⟩:=r';exact SeqAt.EqAt.list_str b t p.isList (by omega)
  | tup es=>rw[Rep] at h';obtain⟨b,ys,rfl,q',_⟩:=h';cases r';obtain⟨its',_,p',_⟩:=I.tuple q';exact SeqAt.EqAt.list_tuple p.isList p' (by omega)
  | lst es=>
   have h0':=h';rw[Rep] at h';obtain⟨b,ys,rfl,q',qs'⟩:=h';cases r';obtain⟨its',rv',p',_⟩:=I.list q';by_cases hab:a=b
   · subst hab;rw[ND I _ _ _ h0 h0',KE];exact Dt _
   · refine SeqAt.EqAt.of_refs hab ?_;rw[HL];rw[Iw] at z;have l1:=qs.length;have l2:=qs'.length;have l3:=rv.length;have l4:=rv'.length;by_cases hl:ds.length=es.length
     · rw[←LJ ds es hl];have:=SeqAt.RcAt.lists (e:=Lw ds es) p.isList p'.isList (by simp;omega) (by omega) (λj h1 h2=>?_) (A:=A)
       · simp only[Al] at this;rw[show ds.length=its.length by omega];exact this
       · have:=LK I A.in1 ds es xs ys its its' qs qs' rv rv' (by rw[AS];omega) j (by simpa using h1) (by simpa using h2);simpa using this
     · rw[Lm hl];exact D5 p.isList p'.isList (by simp;omega) (by omega)
 | A,.tup ds,e,v,w,u,y,h,h',r,r',z=>by
  have h0:=h;rw[Rep] at h;obtain⟨a,xs,rfl,q,qs⟩:=h;cases r;obtain⟨its,rv,p,_⟩:=I.tuple q;cases e with
  | non=>rw[Rep] at h';subst h';cases r';exact SeqAt.EqAt.tuple_none p (by omega)
  | bl b=>rw[Rep] at h';subst h';cases r';exact SeqAt.EqAt.tuple_bool b p (by omega)
  | int b=>rw[Rep] at h';subst h';obtain⟨t,rfl⟩:=r';exact SeqAt.EqAt.tuple_int b t p (by omega)
  | str b=>rw[Rep] at h';subst h';obtain⟨t,rfl⟩:=r';exact SeqAt.EqAt.tuple_str b t p (by omega)
  | lst es=>rw[Rep] at h';obtain⟨b,ys,rfl,q',_⟩:=h';cases r';obtain⟨its',_,p',_⟩:=I.list q';exact SeqAt.EqAt.tuple_list p p'.isList (by omega)
  | tup es=>
   have h0':=h';rw[Rep] at h';obtain⟨b,ys,rfl,q',qs'⟩:=h';cases r';obtain⟨its',rv',p',_⟩:=I.tuple q';by_cases hab:a=b
   · subst hab;rw[ND I _ _ _ h0 h0',KE];exact Dt _
   · refine SeqAt.EqAt.of_refs hab ?_;rw[HL];rw[Iw] at z;have l1:=qs.length;have l2:=qs'.length;have l3:=rv.length;have l4:=rv'.length;have:=SeqAt.RcAt.tuples (e:=Lw ds es) p p' (by omega) (λj h1 h2=>?_) (A:=A)
     · simp only[Al] at this;by_cases hl:ds.length=es.length
       · rw[←LJ ds es hl];rw[show min its.length its'.length=ds.length by omega,show(its.length==its'.length)=true by simp;omega,Bool.and_true] at this;exact this
       · rw[Lm hl];rw[show(its.length==its'.length)=false by simp;omega,DB] at this;exact this
     · have:=LK I A.in1 ds es xs ys its its' qs qs' rv rv' (by rw[AS];omega) j (by simpa using h1) (by simpa using h2);simpa using this
theorem LK(I:Inv X pins σ H s):∀(A:Bn)(ds es:List PD)(vs ws:List V)(us ys:List Value),Reps X.K H ds vs→Reps X.K H es ws→Vals vs us→Vals ws ys→A.units+IR ds<cLine→
 ∀(j:Nat)(h1:j<us.length)(h2:j<ys.length),DA A s us[j] ys[j] (Lw ds es j)
 | A,[],es,vs,ws,us,ys,h,h',r,r',z=>by rw[Reps] at h;subst h;cases r;intro j h1;exact absurd h1 (CI _)
 | A,d::ds,es,vs,ws,us,ys,h,h',r,r',z=>by
  rw[Reps] at h;obtain⟨x,vr,rfl,g1,g2⟩:=h;cases es with
  | nil=> rw[Reps] at h';subst h';cases r';intro j h1 h2;exact absurd h2 (CI _)
  | cons e es=>
   rw[Reps] at h';obtain⟨x',vr',rfl,g1',g2'⟩:=h';cases r with
   | cons ra rb=>
    cases r' with
    | cons ra' rb'=>
     rw[IR] at z;intro j h1 h2;cases j with
     | zero=>exact LF I A d e x x' _ _ g1 g1' ra ra' (by omega)
     | succ j=>exact LK I A ds es vr vr' _ _ g2 g2' rb rb' (by omega) j (by simpa using h1) (by simpa using h2)
end
section
variable{R:Result→Shared→Prop}{J:Addr}{fo wo:List Addr}{len:Nat}{At:Nat→Value→Prop}{Sx:Nat→Heap→Prop}
end
section
variable{R:Result→Shared→Prop}{J:Addr}{fo wo:List Addr}{len:Nat}{At:Nat→Value→Prop}{Sx:Nat→Heap→Prop}
end
def RG(X:Cx)(f:Value)(ks:List Str)(r:List V→List V→Hp→VK→Prop):Prop:=
 ∀(pins:List (Addr×Obj))(s:Shared)(σ:St)(H:Hp)(xs zs:List V)(us ws:List Value)(Q:VK),Inv X pins σ H s→Vals xs us→Vals zs ws→r xs zs H Q→wpAny (model X.prog X.w) X.A (call f us (ks.zip ws)) (EP X pins σ Q) X.xe s
def Qm(r:List V→List V→Hp→VK→Prop)(t tk:TA):TE:=λσ H Q=>t σ H λvs H1=>tk σ H1 λzs H2=>r vs zs H2 Q
theorem Yh{id:String}{ks:List Str}{r:List V→List V→Hp→VK→Prop}{es:List Expr}{kws:List Keyword}{t tk:TA}{p pos:Pos}(hc:RG X (.builtin id) ks r)(hg:Gl X x)(hm:X.mg x=none)(hv:AQ x=some (.builtin id))(ha:PA X (e::es) t)(hkw:PK X kws tk)
 (hks:(backToKw pos (keywordEach kws X.env)).filterMap (·.1)=ks:=by rfl) (hn:x≠"__name__":=by decide) (hdb:(x==("__debug__":Str))=false:=by decide)
 (he:backTo pos (A6 (e::es) X.env)=(false,eval e X.env)::backTo pos (A6 es X.env):=by rfl) (hpl:(backTo pos (A6 (e::es) X.env)).any (·.1)=false:=by rfl)
 (hall:(backToKw pos (keywordEach kws X.env)).all (·.1.isSome)=true:=by rfl) (hkn:(backToKw pos (keywordEach kws X.env)).any (·.1.isNone)=false:=by rfl):
 PE X (.Call (.Name x p) (e::es) kws pos) (Qm r t tk):=by
 intro pins s σ H Q I h;refine Bs (JV I hg hm hv ?_ hn hdb);refine callWith_kw (HJ (ha pos pins s σ H _ I h) λus s1 ⟨vs,H1,I1,r1,q1⟩=>?_) he hpl hall hkn;refine HJ (hkw pos pins s1 σ H1 _ I1 q1) λws s2 ⟨zs,H2,I2,r2,q2⟩=>?_;rw[hks];exact hc pins s2 σ H2 vs zs us ws Q I2 r1 r2 q2
theorem NG(I:Inv X pins σ H s)(A:Bn)(d e:PD)(v w:V)(u y:Value)(h:Rep X.K H d v)(h':Rep X.K H e w)(r:RelV v u)(r':RelV w y)(z:A.units+Iw d<cLine):SeqAt.RcAt A s u y (HL d e):=by
 cases d with
 | non=>
  rw[Rep] at h;subst h;cases r;cases e with
  | non=> rw[Rep] at h';subst h';cases r';rw[HL];exact SeqAt.RcAt.none_none
  | bl b=> rw[Rep] at h';subst h';cases r';exact SeqAt.RcAt.none_bool b
  | int b=> rw[Rep] at h';subst h';obtain⟨t,rfl⟩:=r';exact SeqAt.RcAt.none_int b t
  | str b=> rw[Rep] at h';subst h';obtain⟨t,rfl⟩:=r';exact SeqAt.RcAt.none_str b t
  | lst es=> rw[Rep] at h';obtain⟨b,ys,rfl,q',qs'⟩:=h';cases r';obtain⟨its',rv',p',_⟩:=I.list q';exact SeqAt.RcAt.none_list p'.isList (by omega)
  | tup es=> rw[Rep] at h';obtain⟨b,ys,rfl,q',qs'⟩:=h';cases r';obtain⟨its',rv',p',_⟩:=I.tuple q';exact SeqAt.RcAt.none_tuple p' (by omega)
 | bl c=>
  rw[Rep] at h;subst h;cases r;cases e with
  | non=> rw[Rep] at h';subst h';cases r';exact SeqAt.RcAt.bool_none c
  | bl b=> rw[Rep] at h';subst h';cases r';exact SeqAt.RcAt.bool_bool c b
  | int b=> rw[Rep] at h';subst h';obtain⟨t,rfl⟩:=r';exact SeqAt.RcAt.bool_int c b t
  | str b=> rw[Rep] at h';subst h';obtain⟨t,rfl⟩:=r';exact SeqAt.RcAt.bool_str c b t
  | lst es=> rw[Rep] at h';obtain⟨b,ys,rfl,q',qs'⟩:=h';cases r';obtain⟨its',rv',p',_⟩:=I.list q';exact SeqAt.RcAt.bool_list c p'.isList (by omega)
  | tup es=> rw[Rep] at h';obtain⟨b,ys,rfl,q',qs'⟩:=h';cases r';obtain⟨its',rv',p',_⟩:=I.tuple q';exact SeqAt.RcAt.bool_tuple c p' (by omega)
 | int c=>
  rw[Rep] at h;subst h;obtain⟨tc,rfl⟩:=r;cases e with
  | non=> rw[Rep] at h';subst h';cases r';exact SeqAt.RcAt.int_none c tc
  | bl b=> rw[Rep] at h';subst h';cases r';exact SeqAt.RcAt.int_bool c tc b
  | int b=> rw[Rep] at h';subst h';obtain⟨t,rfl⟩:=r';exact SeqAt.RcAt.int_int c tc b t
  | str b=> rw[Rep] at h';subst h';obtain⟨t,rfl⟩:=r';exact SeqAt.RcAt.int_str c tc b t
  | lst es=> rw[Rep] at h';obtain⟨b,ys,rfl,q',qs'⟩:=h';cases r';obtain⟨its',rv',p',_⟩:=I.list q';exact SeqAt.RcAt.int_list c tc p'.isList (by omega)
  | tup es=> rw[Rep] at h';obtain⟨b,ys,rfl,q',qs'⟩:=h';cases r';obtain⟨its',rv',p',_⟩:=I.tuple q';exact SeqAt.RcAt.int_tuple c tc p' (by omega)
 | str c=>
  rw[Rep] at h;subst h;obtain⟨tc,rfl⟩:=r;cases e with
  | non=> rw[Rep] at h';subst h';cases r';exact SeqAt.RcAt.str_none c tc
  | bl b=> rw[Rep] at h';subst h';cases r';exact SeqAt.RcAt.str_bool c tc b
  | int b=> rw[Rep] at h';subst h';obtain⟨t,rfl⟩:=r';exact SeqAt.RcAt.str_int c tc b t
  | str b=> rw[Rep] at h';subst h';obtain⟨t,rfl⟩:=r';exact SeqAt.RcAt.str_str c tc b t
  | lst es=> rw[Rep] at h';obtain⟨b,ys,rfl,q',qs'⟩:=h';cases r';obtain⟨its',rv',p',_⟩:=I.list q';exact SeqAt.RcAt.str_list c tc p'.isList (by omega)
  | tup es=> rw[Rep] at h';obtain⟨b,ys,rfl,q',qs'⟩:=h';cases r';obtain⟨its',rv',p',_⟩:=I.tuple q';exact SeqAt.RcAt.str_tuple c tc p' (by omega)
 | lst ds=>
  rw[Rep] at h;obtain⟨a,xs,rfl,q,qs⟩:=h;cases r;obtain⟨its,rv,p,_⟩:=I.list q;cases e with
  | non=> rw[Rep] at h';subst h';cases r';exact SeqAt.RcAt.list_none p.isList (by omega)
  | bl b=> rw[Rep] at h';subst h';cases r';exact SeqAt.RcAt.list_bool b p.isList (by omega)
  | int b=> rw[Rep] at h';subst h';obtain⟨t,rfl⟩:=r';exact SeqAt.RcAt.list_int b t p.isList (by omega)
  | str b=> rw[Rep] at h';subst h';obtain⟨t,rfl⟩:=r';exact SeqAt.RcAt.list_str b t p.isList (by omega)
  | lst es=>
   rw[Rep] at h';obtain⟨b,ys,rfl,q',qs'⟩:=h';cases r';obtain⟨its',rv',p',_⟩:=I.list q';rw[HL];rw[Iw] at z;have l1:=qs.length;have l2:=qs'.length;have l3:=rv.length;have l4:=rv'.length;by_cases hl:ds.length=es.length
   · rw[←LJ ds es hl];have:=SeqAt.RcAt.lists (e:=Lw ds es) p.isList p'.isList (by simp;omega) (by omega) (λj h1 h2=>?_) (A:=A)
     · simp only[Al] at this;rw[show ds.length=its.length by omega];exact this
     · have:=LK I A.in1 ds es xs ys its its' qs qs' rv rv' (by rw[AS];omega) j (by simpa using h1) (by simpa using h2);simpa using this
   · rw[Lm hl];exact D5 p.isList p'.isList (by simp;omega) (by omega)
  | tup es=> rw[Rep] at h';obtain⟨b,ys,rfl,q',qs'⟩:=h';cases r';obtain⟨its',rv',p',_⟩:=I.tuple q';exact SeqAt.RcAt.list_tuple p.isList p' (by omega)
 | tup ds=>
  rw[Rep] at h;obtain⟨a,xs,rfl,q,qs⟩:=h;cases r;obtain⟨its,rv,p,_⟩:=I.tuple q;cases e with
  | non=> rw[Rep] at h';subst h';cases r';exact SeqAt.RcAt.tuple_none p (by omega)
  | bl b=> rw[Rep] at h';subst h';cases r';exact SeqAt.RcAt.tuple_bool b p (by omega)
  | int b=> rw[Rep] at h';subst h';obtain⟨t,rfl⟩:=r';exact SeqAt.RcAt.tuple_int b t p (by omega)
  | str b=> rw[Rep] at h';subst h';obtain⟨t,rfl⟩:=r';exact SeqAt.RcAt.tuple_str b t p (by omega)
  | lst es=> rw[Rep] at h';obtain⟨b,ys,rfl,q',qs'⟩:=h';cases r';obtain⟨its',rv',p',_⟩:=I.list q';exact SeqAt.RcAt.tuple_list p p'.isList (by omega)
  | tup es=>
   rw[Rep] at h';obtain⟨b,ys,rfl,q',qs'⟩:=h';cases r';obtain⟨its',rv',p',_⟩:=I.tuple q';rw[HL];rw[Iw] at z;have l1:=qs.length;have l2:=qs'.length;have l3:=rv.length;have l4:=rv'.length;have:=SeqAt.RcAt.tuples (e:=Lw ds es) p p' (by omega) (λj h1 h2=>?_) (A:=A)
   · simp only[Al] at this;by_cases hl:ds.length=es.length
     · rw[←LJ ds es hl];rw[show min its.length its'.length=ds.length by omega,show(its.length==its'.length)=true by simp;omega,Bool.and_true] at this;exact this
     · rw[Lm hl];rw[show(its.length==its'.length)=false by simp;omega,DB] at this;exact this
   · have:=LK I A.in1 ds es xs ys its its' qs qs' rv rv' (by rw[AS];omega) j (by simpa using h1) (by simpa using h2);simpa using this
theorem Zg(I:Inv X pins σ H s)(A:Bn)(d e:PD)(v w:V)(u y:Value)(h:Rep X.K H d v)(h':Rep X.K H e w)(r:RelV v u)(r':RelV w y)(z:A.units+Iw d<cLine):SeqAt.RcNeAt A s u y (!HL d e):=by
 cases d with
 | non=>
  rw[Rep] at h;subst h;cases r;cases e with
  | non=> rw[Rep] at h';subst h';cases r';rw[HL];exact SeqAt.RcNeAt.none_none
  | bl b=> rw[Rep] at h';subst h';cases r';exact SeqAt.RcNeAt.none_bool b
  | int b=> rw[Rep] at h';subst h';obtain⟨t,rfl⟩:=r';exact SeqAt.RcNeAt.none_int b t
  | str b=> rw[Rep] at h';subst h';obtain⟨t,rfl⟩:=r';exact SeqAt.RcNeAt.none_str b t
  | lst es=> rw[Rep] at h';obtain⟨b,ys,rfl,q',qs'⟩:=h';cases r';obtain⟨its',rv',p',_⟩:=I.list q';exact SeqAt.RcNeAt.none_list p'.isList (by omega)
  | tup es=> rw[Rep] at h';obtain⟨b,ys,rfl,q',qs'⟩:=h';cases r';obtain⟨its',rv',p',_⟩:=I.tuple q';exact SeqAt.RcNeAt.none_tuple p' (by omega)
 | bl c=>
  rw[Rep] at h;subst h;cases r;cases e with
  | non=> rw[Rep] at h';subst h';cases r';exact SeqAt.RcNeAt.bool_none c
  | bl b=> rw[Rep] at h';subst h';cases r';exact SeqAt.RcNeAt.bool_bool c b
  | int b=> rw[Rep] at h';subst h';obtain⟨t,rfl⟩:=r';exact SeqAt.RcNeAt.bool_int c b t
  | str b=> rw[Rep] at h';subst h';obtain⟨t,rfl⟩:=r';exact SeqAt.RcNeAt.bool_str c b t
  | lst es=> rw[Rep] at h';obtain⟨b,ys,rfl,q',qs'⟩:=h';cases r';obtain⟨its',rv',p',_⟩:=I.list q';exact SeqAt.RcNeAt.bool_list c p'.isList (by omega)
  | tup es=> rw[Rep] at h';obtain⟨b,ys,rfl,q',qs'⟩:=h';cases r';obtain⟨its',rv',p',_⟩:=I.tuple q';exact SeqAt.RcNeAt.bool_tuple c p' (by omega)
 | int c=>
  rw[Rep] at h;subst h;obtain⟨tc,rfl⟩:=r;cases e with
  | non=> rw[Rep] at h';subst h';cases r';exact SeqAt.RcNeAt.int_none c tc
  | bl b=> rw[Rep] at h';subst h';cases r';exact SeqAt.RcNeAt.int_bool c tc b
  | int b=> rw[Rep] at h';subst h';obtain⟨t,rfl⟩:=r';exact SeqAt.RcNeAt.int_int c tc b t
  | str b=> rw[Rep] at h';subst h';obtain⟨t,rfl⟩:=r';exact SeqAt.RcNeAt.int_str c tc b t
  | lst es=> rw[Rep] at h';obtain⟨b,ys,rfl,q',qs'⟩:=h';cases r';obtain⟨its',rv',p',_⟩:=I.list q';exact SeqAt.RcNeAt.int_list c tc p'.isList (by omega)
  | tup es=> rw[Rep] at h';obtain⟨b,ys,rfl,q',qs'⟩:=h';cases r';obtain⟨its',rv',p',_⟩:=I.tuple q';exact SeqAt.RcNeAt.int_tuple c tc p' (by omega)
 | str c=>
  rw[Rep] at h;subst h;obtain⟨tc,rfl⟩:=r;cases e with
  | non=> rw[Rep] at h';subst h';cases r';exact SeqAt.RcNeAt.str_none c tc
  | bl b=> rw[Rep] at h';subst h';cases r';exact SeqAt.RcNeAt.str_bool c tc b
  | int b=> rw[Rep] at h';subst h';obtain⟨t,rfl⟩:=r';exact SeqAt.RcNeAt.str_int c tc b t
  | str b=> rw[Rep] at h';subst h';obtain⟨t,rfl⟩:=r';exact SeqAt.RcNeAt.str_str c tc b t
  | lst es=> rw[Rep] at h';obtain⟨b,ys,rfl,q',qs'⟩:=h';cases r';obtain⟨its',rv',p',_⟩:=I.list q';exact SeqAt.RcNeAt.str_list c tc p'.isList (by omega)
  | tup es=> rw[Rep] at h';obtain⟨b,ys,rfl,q',qs'⟩:=h';cases r';obtain⟨its',rv',p',_⟩:=I.tuple q';exact SeqAt.RcNeAt.str_tuple c tc p' (by omega)
 | lst ds=>
  rw[Rep] at h;obtain⟨a,xs,rfl,q,qs⟩:=h;cases r;obtain⟨its,rv,p,_⟩:=I.list q;cases e with
  | non=> rw[Rep] at h';subst h';cases r';exact SeqAt.RcNeAt.list_none p.isList (by omega)
  | bl b=> rw[Rep] at h';subst h';cases r';exact SeqAt.RcNeAt.list_bool b p.isList (by omega)
  | int b=> rw[Rep] at h';subst h';obtain⟨t,rfl⟩:=r';exact SeqAt.RcNeAt.list_int b t p.isList (by omega)
  | str b=> rw[Rep] at h';subst h';obtain⟨t,rfl⟩:=r';exact SeqAt.RcNeAt.list_str b t p.isList (by omega)
  | lst es=>
   rw[Rep] at h';obtain⟨b,ys,rfl,q',qs'⟩:=h';cases r';obtain⟨its',rv',p',_⟩:=I.list q';rw[HL];rw[Iw] at z;have l1:=qs.length;have l2:=qs'.length;have l3:=rv.length;have l4:=rv'.length;by_cases hl:ds.length=es.length
   · rw[←LJ ds es hl];have:=SeqAt.RcNeAt.lists (e:=Lw ds es) p.isList p'.isList (by simp;omega) (by omega) (λj h1 h2=>?_) (A:=A)
     · simp only[Al] at this;rw[show ds.length=its.length by omega];exact this
     · have:=LK I A.in1 ds es xs ys its its' qs qs' rv rv' (by rw[AS];omega) j (by simpa using h1) (by simpa using h2);simpa using this
   · rw[Lm hl];exact E9 p.isList p'.isList (by simp;omega) (by omega)
  | tup es=> rw[Rep] at h';obtain⟨b,ys,rfl,q',qs'⟩:=h';cases r';obtain⟨its',rv',p',_⟩:=I.tuple q';exact SeqAt.RcNeAt.list_tuple p.isList p' (by omega)
 | tup ds=>
  rw[Rep] at h;obtain⟨a,xs,rfl,q,qs⟩:=h;cases r;obtain⟨its,rv,p,_⟩:=I.tuple q;cases e with
  | non=> rw[Rep] at h';subst h';cases r';exact SeqAt.RcNeAt.tuple_none p (by omega)
  | bl b=> rw[Rep] at h';subst h';cases r';exact SeqAt.RcNeAt.tuple_bool b p (by omega)
  | int b=> rw[Rep] at h';subst h';obtain⟨t,rfl⟩:=r';exact SeqAt.RcNeAt.tuple_int b t p (by omega)
  | str b=> rw[Rep] at h';subst h';obtain⟨t,rfl⟩:=r';exact SeqAt.RcNeAt.tuple_str b t p (by omega)
  | lst es=> rw[Rep] at h';obtain⟨b,ys,rfl,q',qs'⟩:=h';cases r';obtain⟨its',rv',p',_⟩:=I.list q';exact SeqAt.RcNeAt.tuple_list p p'.isList (by omega)
  | tup es=>
   rw[Rep] at h';obtain⟨b,ys,rfl,q',qs'⟩:=h';cases r';obtain⟨its',rv',p',_⟩:=I.tuple q';rw[HL];rw[Iw] at z;have l1:=qs.length;have l2:=qs'.length;have l3:=rv.length;have l4:=rv'.length;have:=SeqAt.RcNeAt.tuples (e:=Lw ds es) p p' (by omega) (λj h1 h2=>?_) (A:=A)
   · simp only[Al] at this;by_cases hl:ds.length=es.length
     · rw[←LJ ds es hl];rw[show min its.length its'.length=ds.length by omega,show(its.length==its'.length)=true by simp;omega,Bool.and_true] at this;exact this
     · rw[Lm hl];rw[show(its.length==its'.length)=false by simp;omega,DB] at this;exact this
   · have:=LK I A.in1 ds es xs ys its its' qs qs' rv rv' (by rw[AS];omega) j (by simpa using h1) (by simpa using h2);simpa using this
def J4(X:Cx):Prop:=X.A.units+60<cLine
def LM(K:Ad):R2:=λx y H Q=>∃d e,Rep K H d x∧Rep K H e y∧Iw d<60∧Q (.bl (!HL d e)) H
theorem Nv(hr:J4 X):Iv X (AY .NotEq) (LM X.K):=by intro pins s σ H x y v u Q I rx ry h;obtain⟨d,e,h1,h2,h3,q⟩:=h;unfold J4 at hr;exact Zg I X.A d e x y v u h1 h2 rx ry (by omega) X.prog X.w _ _ ⟨.bl _,H,I,rfl,q⟩
theorem Kc{k:Nat}(hr:Room k A):A.units+60<cLine:=BO (FU (by decide:60≤64) _) hr.units
theorem Jw{n:String}:JA X (.builtin "isinstance") (λxs H Q=>∃x t c b,xs=[x,.ty c]∧TyOf X.K H x (.type t)∧PySem.W.kitOne X.K (.type t) (.type c)=some b∧Q (.bl b) H):=by intro pins s σ H xs us Q I r h;obtain⟨x,t,c,b,rfl,ty,e,q⟩:=h;obtain⟨u,w',rfl,ru,rw'⟩:=Mw r;cases rw';exact Yt I ru ty e λtk=>⟨.bl b,H,I.tok tk,rfl,q⟩
section
variable{K:Ad}{p:Addr}{g:TG}{tc:TT}{te:TE}{Q:VK}
abbrev Lj(p:Addr)(g:TG)(tc:TT)(te:TE)(ys:List V)(x:V)(σ:St)(H:Hp)(N:St→List V→Hp→Prop):Prop:=
 g x σ H λσ2 H2=>tc σ2 H2 λb H3=>if b=true then te σ2 H3 λy H4=>H4 p=some (.lst ys)∧N σ2 (ys++[y]) (HD H4 p (.lst (ys++[y]))) else N σ2 ys H3
theorem LA{n:Nat}{J:It}{js:IC}(Pv:Nat→St→List V→Hp→Prop)(h0:Pv 0 (Jf js σ) [] (HD H p (.lst [])))
 (hl:∀i σ ys H,i≤n→Pv i σ ys H→H p=some (.lst ys)∧ys.length<Aw)
 (hgo:∀i σ ys H,i<n→Pv i σ ys H→J.go i H) (hst:∀σ ys H,Pv n σ ys H→J.stop n H)
 (hs:∀(i:Nat)x σ ys H H'(N:St→List V→Hp→Prop),i<n→J.yld i H x H'→Pv i σ ys H→(∀σ' ys' H',Pv (i+1) σ' ys' H'→N σ' ys' H')→Lj p g tc te ys x σ H' N)
 (hd:∀σ ys H,Pv n σ ys H→Q (.ref p) H):
 JU J p js g tc te σ H Q:=by
 refine⟨λi m σ ys H=>m=n - i∧i≤n∧Pv i σ ys H,⟨n,by simp,AC _,h0⟩,?_⟩;rintro i m σ ys H ⟨rfl,hi,pv⟩;obtain⟨q1,q2⟩:=hl i σ ys H hi pv;refine⟨q1,?_⟩;by_cases lt:i<n
 · exact .inr ⟨hgo i σ ys H lt pv,q2,λx H' y=>hs i x σ ys H H' (λσ2 ys2 H2=>∃m',m'<n - i∧m'=n - (i+1)∧i+1≤n∧Pv (i+1) σ2 ys2 H2) lt y pv λσ' ys' H' p'=>⟨n - (i+1),by omega,rfl,lt,p'⟩⟩
 · have e:i=n:=by omega
   subst e;exact .inl ⟨hst σ ys H pv,hd σ ys H pv⟩
theorem LI{js:IC}(Pv:Nat→St→List V→Hp→Prop)(h0:Pv 0 (Jf js σ) [] (HD H p (.lst [])))
 (hl:∀i σ ys H,i≤xs.length→Pv i σ ys H→SqL K H a xs∧H p=some (.lst ys)∧ys.length<Aw)
 (hs:∀(i:Nat)x σ ys H(N:St→List V→Hp→Prop),xs[i]?=some x→Pv i σ ys H→(∀σ' ys' H',Pv (i+1) σ' ys' H'→N σ' ys' H')→Lj p g tc te ys x σ H N)
 (hd:∀σ ys H,Pv xs.length σ ys H→Q (.ref p) H):JU (Ku K a) p js g tc te σ H Q:=
 LA (n:=xs.length) (J:=Ku K a) (js:=js) (σ:=σ) (H:=H) (p:=p) (Q:=Q) (g:=g) (tc:=tc) (te:=te) Pv h0 (λi σ ys H hi pv=>(hl i σ ys H hi pv).2)
  (λi σ ys H hi pv=>⟨xs,xs[i],(hl i σ ys H (Bo hi) pv).1,by simp[hi]⟩) (λσ ys H pv=>⟨xs,(hl _ σ ys H (Af _) pv).1,Af _⟩)
  (λi x σ ys H H' N hi y pv hN=>by obtain⟨e,y⟩:=y;subst e;exact hs i x σ ys _ N (y xs (hl i σ ys _ (Bo hi) pv).1) pv hN) hd
theorem Rv{js:IC}(Pv:Nat→St→List V→Hp→Prop)(h0:Pv 0 (Jf js σ) [] (HD H p (.lst [])))
 (hl:∀i σ ys H,i≤xs.length→Pv i σ ys H→SqT K H a xs∧H p=some (.lst ys)∧ys.length<Aw)
 (hs:∀(i:Nat)x σ ys H(N:St→List V→Hp→Prop),xs[i]?=some x→Pv i σ ys H→(∀σ' ys' H',Pv (i+1) σ' ys' H'→N σ' ys' H')→Lj p g tc te ys x σ H N)
 (hd:∀σ ys H,Pv xs.length σ ys H→Q (.ref p) H):JU (Lz K a) p js g tc te σ H Q:=
 LA (n:=xs.length) (J:=Lz K a) (js:=js) (σ:=σ) (H:=H) (p:=p) (Q:=Q) (g:=g) (tc:=tc) (te:=te) Pv h0 (λi σ ys H hi pv=>(hl i σ ys H hi pv).2)
  (λi σ ys H hi pv=>⟨xs,xs[i],(hl i σ ys H (Bo hi) pv).1,by simp[hi]⟩) (λσ ys H pv=>⟨xs,(hl _ σ ys H (Af _) pv).1,Af _⟩)
  (λi x σ ys H H' N hi y pv hN=>by obtain⟨e,y⟩:=y;subst e;exact hs i x σ ys _ N (y xs (hl i σ ys _ (Bo hi) pv).1) pv hN) hd
theorem LH{js:IC}{lo:Int}{n:Nat}(Pv:Nat→St→List V→Hp→Prop)(h0:Pv 0 (Jf js σ) [] (HD H p (.lst [])))
 (hl:∀i σ ys H,i≤n→Pv i σ ys H→H p=some (.lst ys)∧ys.length<Aw)
 (hs:∀(i:Nat)σ ys H(N:St→List V→Hp→Prop),i<n→Pv i σ ys H→(∀σ' ys' H',Pv (i+1) σ' ys' H'→N σ' ys' H')→Lj p g tc te ys (.int (lo+i)) σ H N)
 (hd:∀σ ys H,Pv n σ ys H→Q (.ref p) H):JU (L0 lo n) p js g tc te σ H Q:=
 LA (n:=n) (J:=L0 lo n) (js:=js) (σ:=σ) (H:=H) (p:=p) (Q:=Q) (g:=g) (tc:=tc) (te:=te) Pv h0 hl
  (λi σ ys H hi pv=>hi) (λσ ys H pv=>Af n)
  (λi x σ ys H H' N hi y pv hN=>by obtain⟨e,y⟩:=y;subst e y;exact hs i σ ys _ N hi pv hN) hd
end
def Te(outer:Scope)(N N':List Str)(js:IC)(scope:Scope):Bool:=
 decide (js.length=N'.length) && (scope.kind== .function) && scope.names.all (λp=>(p.2 != .cell || scope.names.lookup p.1==some .cell) && (p.2 != .local || scope.names.lookup p.1==some .local) && (p.2 != .free || (outer.names.lookup p.1==some .cell || outer.names.lookup p.1==some .free)))
  && (AI js.length).all λi=>match js[i]? with
   | some (some j)=>(match N'[i]? with | some x=>N[j]?==some x && scope.names.lookup x==some .free | none=>false)
   | _=>true
theorem IQ{N N':List Str}{js:IC}{outer:Scope}(h:Te outer N N' js scope=true)(hN:X.N=N:=by rfl)(ho:X.env.scope=outer:=by rfl):CapOk X N' js scope:=by
 subst hN ho;unfold Te at h;rw[Bk,Bk,Bk] at h;obtain⟨⟨⟨h1,h2⟩,h3⟩,h4⟩:=h;rw[List.all_eq_true] at h3 h4;refine⟨of_decide_eq_true h1,eq_of_beq h2,λp hp e=>?_,λp hp e=>?_,λp hp e=>?_,λi j e=>?_⟩
 · have:=h3 p hp;rw[e] at this;simp at this;exact this
 · have:=h3 p hp;rw[e] at this;simp at this;exact this
 · have:=h3 p hp;rw[e] at this;simp at this;exact this
 · have hi:i<js.length:=(Aq.mp e).1;have:=h4 i (BJ.mpr hi);rw[e] at this;simp only at this;cases q:N'[i]? with
   | none=>rw[q] at this;cases this
   | some x=> rw[q] at this;simp only[Bk,beq_iff_eq] at this;exact⟨x,rfl,this.1,this.2⟩
def Ib(P:AU)(w:World)(K:Ad)(mg:Str→Option Value)(base:Heap)(k:Nat)(x:Str)(ps:List Str)(sp:Sp):Prop:=
 ∃f fd,FnOk P w K mg base H_ k f fd ps sp∧Binds K fd ps []∧Es K (.ref f)=true∧mg x=some (.ref f)
section
variable{k:Nat}{ps:List Str}{sp:Sp}{es:List Expr}{t:TA}{p:Pos}
theorem HP(F:Ib X.prog X.w X.K X.mg X.base k x ps sp)(hr:Room k X.A)(hg:Gl X x)(ha:PA X (e::es) t)(hdb:(x==("__debug__":Str))=false:=by decide)
 (he:A6 (e::es) X.env=(false,eval e X.env)::A6 es X.env:=by rfl) (hpl:(backTo pos (A6 es X.env)).any (·.1)=false:=by rfl):PE X (.Call (.Name x p) (e::es) [] pos) (Rb sp [] E0 t):=by
 obtain⟨f,fd,h1,h2,h3,h4⟩:=F;exact Wh h1 hr hg h4 h3 h2 .nil QP ha hdb he hpl
end
structure Bl(mg:Str→Option Value):Prop where
 len_:mg "len"=none
 range_:mg "range"=none
 isinstance_:mg "isinstance"=none
 int_:mg "int"=none
 bool_:mg "bool"=none
 tuple_:mg "tuple"=none
 list_:mg "list"=none
 max_:mg "max"=none
 min_:mg "min"=none
 all_:mg "all"=none
 zip_:mg "zip"=none
 str_:mg "str"=none
 dict_:mg "dict"=none
 sorted_:mg "sorted"=none
 set_:mg "set"=none
 any_:mg "any"=none
 sum_:mg "sum"=none
 enumerate_:mg "enumerate"=none
 repr_:mg "repr"=none
 ord_:mg "ord"=none
 chr_:mg "chr"=none
 abs_:mg "abs"=none
 reversed_:mg "reversed"=none
theorem Oz:AQ "int"=some (.type "int"):=by decide+kernel
theorem OD:AQ "bool"=some (.type "bool"):=by decide+kernel
theorem Lo:AQ "tuple"=some (.type "tuple"):=by decide+kernel
theorem JY:AQ "list"=some (.type "list"):=by decide+kernel
theorem O2:AQ "str"=some (.type "str"):=by decide+kernel
theorem VH:AQ "set"=some (.type "set"):=by decide+kernel
theorem Jl:AQ "isinstance"=some (.builtin "isinstance"):=by decide+kernel
theorem ID:AQ "len"=some (.builtin "len"):=by decide+kernel
theorem VG:AQ "max"=some (.builtin "max"):=by decide+kernel
theorem O0:AQ "min"=some (.builtin "min"):=by decide+kernel
theorem L9:AQ "all"=some (.builtin "all"):=by decide+kernel
theorem TB:AQ "sorted"=some (.builtin "sorted"):=by decide+kernel
theorem L7(h:n≤1000):n≤Aw:=Bo (IB h)
theorem HN{p:Addr}(h:H p=none)(o:HO):Same H (HD H p o):=λb u q=>by rw[HV (IT q h)];exact q
def eV:Option Int→V
 | none=> .non
 | some i=> .int i
def SameB(b g:Addr)(H H':Hp):Prop:=∀a o,H a=some o→a≠b→a≠g→H' a=some o
theorem SameB.trans{g:Addr}{H1 H2:Hp}(x:SameB b g H H1)(y:SameB b g H1 H2):SameB b g H H2:=λa o h n1 n2=>y a o (x a o h n1 n2) n1 n2
theorem Same.sameB{g:Addr}{H1:Hp}(x:Same H H1):SameB b g H H1:=λa o h _ _=>x a o h
theorem U4{c:TT}{tb u:TS}{D:Ends}(W:Nat→St→Hp→Prop)(M:St→Hp→Prop)(h0:∃m,W m σ H)
 (hs:∀(m:Nat)σ H(Z:St→Hp→Prop),W m σ H→(∀σ' H',M σ' H'→Z σ' H')→c σ H λb H1=>if b=true then ∃N:St→Hp→Prop,(∀σ' H',N σ' H'→∃m',m'<m∧W m' σ' H')∧tb {nx:=N,rt:=D.rt,bk:=Z,ct:=N} σ H1 else Z σ H1)
 (hd:∀σ H,M σ H→u D σ H):KN (Rn c tb) u D σ H:=⟨W,h0,λm σ H w=>hs m σ H (u D) w hd⟩
theorem Tz{K:Ad}:∀ns:List Int,Reps K H (ns.map PD.int) (ns.map V.int)
 | []=>by show Reps K H [] [];rw[Reps]
 | n::ns=>by show Reps K H (.int n::ns.map PD.int) (.int n::ns.map V.int);rw[Reps];exact⟨_,_,rfl,by rw[Rep],Tz ns⟩
theorem Uv:∀ns:List Int,IR (ns.map PD.int)=0
 | []=>by show IR []=0;rw[IR]
 | n::ns=>by
  show IR (.int n::ns.map PD.int)=0;rw[IR,Uv ns,Iw]
  all_goals simp
theorem QO{K:Ad}{p:Addr}{ns:List Int}{Q:VK}(h:SqL K H a (ns.map V.int))(hp:SqL K H p [])(q:Q (.bl (!ns.isEmpty)) H):LM K (.ref a) (.ref p) H Q:=by
 refine⟨.lst (ns.map PD.int),.lst [],by rw[Rep];exact⟨a,_,rfl,h,Tz ns⟩,by rw[Rep];exact⟨p,_,rfl,hp,by rw[Reps]⟩,by rw[Iw,Uv];decide,?_⟩;cases ns with
 | nil=>rw[HL,show Ix (([]:List Int).map PD.int) []=true from NR []];exact q
 | cons n ns=>rw[HL,Lm (by simp)];exact q
theorem QF{α:Type}{x:α}{r:List α}:IL (x::r) 0=some x:=J9 (j:=0) rfl
theorem UR{α:Type}{x:α}{r:List α}:K6 (x::r).length 0=some 0:=by unfold K6;rw[if_pos (by decide),if_pos (by rw[A8];omega)];rfl
theorem VD{ls:List Int}{i:Int}(h0:0≤i)(h1:i<(ls.length:Int)):∃v,IL (ls.map V.int) i=some (.int v)∧v∈ls:=by
 obtain⟨k,rfl⟩:=Ci h0;have hk:k<ls.length:=by omega
 exact⟨ls[k],J9 (by rw[Aj,Ay hk];rfl),EV _⟩
theorem J2:(0:Nat)≤Aw:=AC _
theorem J0{α:Type}{l:List α}{x:α}(h:l[i]?=some x):l.take (i+1)=l.take i++[x]:=by rw[Di,h];rfl
theorem N4{K:Ad}{p:Addr}{Q:VK}{js:IC}{cap:St}{tc:TT}{te:TE}(ns:List Int)(f:Int→Int)(c:Int→Bool)(hn:ns.length≤900)(e:SqL K H a (ns.map V.int))(hp:H p=none)(hσ:Jf js σ=none::cap)
 (ht:∀n H'(R:Bool→Hp→Prop),Same H H'→R (c n) H'→tc (some (.int n)::cap) H' R) (he:∀n H'(R:VK),Same H H'→R (.int (f n)) H'→te (some (.int n)::cap) H' R)
 (hq:∀H',Same H H'→H' p=some (.lst (((ns.filter c).map f).map V.int))→Q (.ref p) H'):JU (Ku K a) p js (JS 0) tc te σ H Q:=by
 have s0:=HN hp (.lst []);refine LI (xs:=ns.map V.int) (λi σ' ys H'=>(∃v,σ'=v::cap)∧Same H H'∧H' p=some (.lst ys)∧ys=((((ns.take i).filter c).map f).map V.int)) ⟨⟨_,hσ⟩,s0,HH,rfl⟩ ?_ ?_ ?_
 · rintro i σ' ys H' hi ⟨_,s,h1,h2⟩;refine⟨s.seq e,h1,?_⟩;rw[h2];simp only[Ab];have:=AE c (ns.take i);rw[AA] at this;exact IB (by omega)
 · rintro i x σ' ys H' N hx ⟨⟨v,rfl⟩,s,h1,h2⟩ hN;rw[Aj] at hx;cases hn':ns[i]? with
   | none=>rw[hn'] at hx;cases hx
   | some n=>
    rw[hn'] at hx;have hx:V.int n=x:=A4 hx;subst hx;refine ht n H' _ s ?_;have e1:=J0 hn';cases hc:c n with
    | true=>
     refine HG (he n H' _ s ⟨h1,hN _ _ _ ⟨⟨_,rfl⟩,?_,HH,?_⟩⟩)
     · intro b o q;have:b≠p:=λz=>by rw[z,hp] at q;cases q
       rw[HV this];exact s b o q
     · rw[h2,e1,Bi,BQ,if_pos hc];simp
    | false=> refine HE (hN _ _ _ ⟨⟨_,rfl⟩,s,h1,?_⟩);rw[h2,e1,Bi,BQ,if_neg (by rw[hc];exact An)];simp
 · rintro σ' ys H' ⟨_,s,h1,h2⟩;refine hq H' s ?_;rw[h1,h2,Ab,Bd]
theorem Same.seqT{K:Ad}{H':Hp}(e:Same H H')(h:SqT K H a xs):SqT K H' a xs:=by
 rcases h with(h | ⟨o,h⟩) | h
 · exact .inl (.inl (e _ _ h))
 · exact .inl (.inr ⟨o,e _ _ h⟩)
 · exact .inr h
def Nm(xs:List V):It:=⟨λi _=>i<xs.length,λi H x H'=>H'=H∧xs[i]?=some x,λi _=>xs.length≤i⟩
theorem zeS{K:Ad}{tg:Expr}(it:Addr)(x:Str)(t:Tok):Turn P w K tg (Nm (x.cps.toList.map λc=>V.str ⟨#[c]⟩)) [it] it (λi h=>h.IsStrIter it "str_ascii_iterator" x t i) where
 mem:=by simp
 obj:=λi h st b hb=>by
  have e:b=it:=by simpa using hb
  subst e;obtain⟨o,e,c,d⟩:=st;exact⟨o,e,λv z=>by rw[d] at z;cases z⟩
 keep:=λi h h' st k=>let⟨o,ho,r⟩:=st;⟨o,k it (by simp) o ho,r⟩
 item:=by
  intro X hP hw hK hc i pins s σ H E I hf st hg;subst hP hw hK;have hg:i<(x.cps.toList.map λc=>V.str ⟨#[c]⟩).length:=hg;rw[Ab,A0] at hg;obtain⟨f0,f1,f2,f3,f4,f5⟩:=hf it (by simp);refine wpAny_pyNext_ascii_item st (c:=x.cps[i]) (by simp[hg]) λh' st' sb=>?_;have I1:Inv X pins σ H {s with heap:=h',toks:=s.toks+1}:=I.turned (λb o hb e=>(sb.2 b hb).trans e) f0 f1 f3 f4 f5
  obtain⟨o,e,c,d⟩:=id st';exact⟨_,rfl,LX (s:={s with heap:=h',toks:=s.toks+1}) e c d (by decide) ⟨.str ⟨#[x.cps[i]]⟩,H,I1,⟨_,rfl⟩,⟨rfl,by rw[Aj,AZ,BF hg];rfl⟩,st',λb hb=>(hf b hb).1⟩⟩
 done:=by intro X hP hw hK hc i pins s σ H E I hf st hg;subst hP hw hK;have hg:(x.cps.toList.map λc=>V.str ⟨#[c]⟩).length≤i:=hg;rw[Ab,A0] at hg;obtain⟨f0,f1,f2,f3,f4,f5⟩:=hf it (by simp);exact wpAny_pyNext_ascii_end (I.ok.hd hc) st (by simpa using hg) λh' eb=>⟨rfl,I.turned (t':=s.toks) (λb o hb e=>eb b o hb e) f0 f1 f3 f4 f5⟩
 self:=λ_ _ _ _ _ st h=>wpAny_pyIter_striter_ascii st h
theorem zfJ{K:Ad}{tg:Expr}(it:Addr)(x:Str)(t:Tok):Turn P w K tg (Nm (x.cps.toList.map λc=>V.str ⟨#[c]⟩)) [it] it (λi h=>h.IsStrIter it "str_iterator" x t i) where
 mem:=by simp
 obj:=λi h st b hb=>by
  have e:b=it:=by simpa using hb
  subst e;obtain⟨o,e,c,d⟩:=st;exact⟨o,e,λv z=>by rw[d] at z;cases z⟩
 keep:=λi h h' st k=>let⟨o,ho,r⟩:=st;⟨o,k it (by simp) o ho,r⟩
 item:=by
  intro X hP hw hK hc i pins s σ H E I hf st hg;subst hP hw hK;have hg:i<(x.cps.toList.map λc=>V.str ⟨#[c]⟩).length:=hg;rw[Ab,A0] at hg;obtain⟨f0,f1,f2,f3,f4,f5⟩:=hf it (by simp);refine wpAny_pyNext_wide_item st (c:=x.cps[i]) (by simp[hg]) λh' st' sb=>?_;have I1:Inv X pins σ H {s with heap:=h',toks:=s.toks+1}:=I.turned (λb o hb e=>(sb.2 b hb).trans e) f0 f1 f3 f4 f5
  obtain⟨o,e,c,d⟩:=id st';exact⟨_,rfl,LX (s:={s with heap:=h',toks:=s.toks+1}) e c d (by decide) ⟨.str ⟨#[x.cps[i]]⟩,H,I1,⟨_,rfl⟩,⟨rfl,by rw[Aj,AZ,BF hg];rfl⟩,st',λb hb=>(hf b hb).1⟩⟩
 done:=by intro X hP hw hK hc i pins s σ H E I hf st hg;subst hP hw hK;have hg:(x.cps.toList.map λc=>V.str ⟨#[c]⟩).length≤i:=hg;rw[Ab,A0] at hg;obtain⟨f0,f1,f2,f3,f4,f5⟩:=hf it (by simp);exact wpAny_pyNext_wide_end (I.ok.hd hc) st (by simpa using hg) λh' eb=>⟨rfl,I.turned (t':=s.toks) (λb o hb e=>eb b o hb e) f0 f1 f3 f4 f5⟩
 self:=λ_ _ _ _ _ st h=>wpAny_pyIter_striter_wide st h
section
variable{tg:Expr}
def signs(x:Str):List V:=x.cps.toList.map λc=>V.str ⟨#[c]⟩
def QB(tl:TE):TI:=λσ H R=>tl σ H λv H1=>∃x,v= .str x∧R (Nm (signs x)) H1
theorem V1{l:Expr}{tl:TE}(hl:PE X l tl):PI X tg l (QB tl):=by
 intro pins s σ H R I h;refine HJ (hl pins s σ H _ I h) λv s1 ⟨y,H1,I1,r1,q1⟩=>?_;obtain⟨x,e,q⟩:=q1;subst e;obtain⟨t,rfl⟩:=r1;cases ha:x.cps.all (· <128)
 · refine wpAny_pyIter_wide ha ?_;refine⟨s1.heap.objs.size,[s1.heap.objs.size],_,_,H1,rfl,I1.kept (t':=s1.toks) λb o e=>Ae _ e,zfJ _ x t,⟨_,Au _ rfl,rfl,rfl⟩,λb hb=>?_,q⟩;have e:b=s1.heap.objs.size:=by simpa using hb
   subst e;exact I1.fpOk (Af _) (I1.hok.fresh (Af _))
 · refine wpAny_pyIter_ascii ha ?_;refine⟨s1.heap.objs.size,[s1.heap.objs.size],_,_,H1,rfl,I1.kept (t':=s1.toks) λb o e=>Ae _ e,zeS _ x t,⟨_,Au _ rfl,rfl,rfl⟩,λb hb=>?_,q⟩;have e:b=s1.heap.objs.size:=by simpa using hb
   subst e;exact I1.fpOk (Af _) (I1.hok.fresh (Af _))
theorem TQ:Iv X (AY .LtE) (λx y H Q=>∃i j,x= .str i∧y= .str j∧Q (.bl (!decide (j.cps.toList<i.cps.toList))) H):=by intro pins s σ H x y v u Q I rx ry h;obtain⟨i,j,rfl,rfl,q⟩:=h;obtain⟨t,rfl⟩:=rx;obtain⟨t',rfl⟩:=ry;exact PySem.P.le_str (IG I q rfl)
theorem LD(hc:X.calm=true):JA X (.builtin "all") (λxs H Q=>∃(a:Addr)(bs:List Bool),xs=[.ref a]∧SqL X.K H a (bs.map V.bl)∧Q (.bl (bs.all id)) H):=by
 intro pins s σ H xs us Q I r h;obtain⟨a,bs,rfl,hq,q⟩:=h;obtain⟨u,rfl,ru⟩:=JT r;cases ru;obtain⟨its,rv,p,hzz⟩:=I.list hq;have ll:=rv.length;rw[Ab] at ll;refine call_all_walk (ED p.isList ?_);obtain⟨o,ho,_⟩:=id p.isList;have lt:=Ao ho;refine⟨s.heap.objs.size,_,_,_,_,_,λi=>bs.getD i false,rfl,Walks.list (A:=X.A.in1) (I.ok.hd hc) s.heap.objs.size a (A5 lt) its.toArray,⟨⟨_,Au _ rfl,rfl,rfl⟩,p.isList.at λo' e=>Ae _ e⟩,?_,λg t' k=>?_⟩
 · intro i v s' Q' E' hv q';have hi:its[i]?=some v:=by simpa using hv
   have hl:i<its.length:=(Aq.mp hi).1;have e:(bs.map V.bl)[i]?=some (.bl (bs.getD i false)):=by rw[Aj,Ay (by omega),A7,Ay (by omega)];rfl
   obtain⟨u,h1,h2⟩:=Vals.get rv e;rw[hi] at h1;cases h1;cases h2;exact Bf q'
 · refine⟨.bl (bs.all id),H,I.kept (λb o' e=>k b o' ?_ (Ae _ e)),?_,q⟩
   · intro z;exact absurd (Ax.mp z) (A5 (Ao e))
   · show Value.bool _=Value.bool _;congr 1;rw[Al,←ll];clear rv ll hq q p ho lt hzz
     induction bs with
     | nil=>rfl
     | cons b r ih=> rw[A8,Ft,C6,List.all_map,C6,←ih];rfl
end
theorem Vo{xs:List V}{p:Addr}{g:TG}{tc:TT}{te:TE}{Q:VK}{js:IC}(Pv:Nat→St→List V→Hp→Prop)(h0:Pv 0 (Jf js σ) [] (HD H p (.lst [])))
 (hl:∀i σ ys H,i≤xs.length→Pv i σ ys H→H p=some (.lst ys)∧ys.length<Aw)
 (hs:∀(i:Nat)x σ ys H(N:St→List V→Hp→Prop),xs[i]?=some x→Pv i σ ys H→(∀σ' ys' H',Pv (i+1) σ' ys' H'→N σ' ys' H')→Lj p g tc te ys x σ H N)
 (hd:∀σ ys H,Pv xs.length σ ys H→Q (.ref p) H):JU (Nm xs) p js g tc te σ H Q:=
 LA (n:=xs.length) (J:=Nm xs) (js:=js) (σ:=σ) (H:=H) (p:=p) (Q:=Q) (g:=g) (tc:=tc) (te:=te) Pv h0 hl
  (λi σ ys H hi pv=>hi) (λσ ys H pv=>Af _)
  (λi x σ ys H H' N hi y pv hN=>by obtain⟨e,y⟩:=y;subst e;exact hs i x σ ys _ N y pv hN) hd
section
variable{R:Result→Shared→Prop}
theorem U5{kx vx target iter:Expr}{ifs:List Expr}{scope:Scope}{pos:Pos}{it:Value}{D:Addr}{env:Env}(I:Nat→Shared→Prop)
 (turn:∀n s,I n s→wpAny (model prog w) A (pyNext it) (λr s₁=>match r with
  | none=>R (.ok .next) s₁
  | some v=>wpAny (model prog w) A (BL target it v) (λ_ s₁'=>wpAny (model prog w) A (assign target env v) (λ_ s₂=>
   wpAny (model prog w) A (forIn ifs true λc r=>if r=true then do let ok ←isTrue c env (eval c env);pure (ForInStep.yield ok) else pure (ForInStep.yield r)) (λok s₃=>
    if ok=true then wpAny (model prog w) A (eval kx env) (λkv s₄=>wpAny (model prog w) A (eval vx env) (λvv s₅=> wpAny (model prog w) A (dictSet D kv vv) (λ_ s₆=>∃m,m<n∧I m s₆) (λ_ _=>False) s₅) (λ_ _=>False) s₄) (λ_ _=>False) s₃
    else ∃m,m<n∧I m s₃) (λ_ _=>False) s₂) (λ_ _=>False) s₁') (λ_ _=>False) s₁) (λ_ _=>False) s)
 (n:Nat) (h:I n s):
 codeAny (model prog w) A (.compLoop (.DictComp kx vx [⟨target,iter,ifs,0⟩] scope pos) 0 it (.ref D) env) R s:=by
 refine Ed rfl I (λn s hI=>?_) n h;show wpAny _ A ((compTurn (.DictComp kx vx [⟨target,iter,ifs,0⟩] scope pos) 0 it (.ref D) env).onRaise (λx=>do noteFrame x env;theTreesLotGoes x)) _ _ s
 refine Ey ?_;rw[compTurn_dict];refine Aa (Bu (Aa (Av (turn n s hI) (λr s₁ h₁=>?_) λ_ _ z=>z.elim)));cases r with
 | none=>exact Ac h₁
 | some v=>
  refine Aa (Av h₁ (λ_ s₁' h₁'=>?_) λ_ _ z=>z.elim);refine Aa (Av h₁' (λ_ s₂ h₂=>Aa (Av h₂ (λok s₃ h₃=>?_) λ_ _ z=>z.elim)) λ_ _ z=>z.elim);cases ok with
  | false=>exact Ac ⟨rfl,h₃⟩
  | true=> exact Aa (Aa (Av h₃ (λkv s₄ h₄=>Aa (AN (Av h₄ (λvv s₅ h₅=>Aa (Bu (AN (Av h₅ (λ_ s₆ h₆=>Ac ⟨rfl,h₆⟩) λ_ _ z=>z.elim)))) λ_ _ z=>z.elim))) λ_ _ z=>z.elim))
end
def Ot(J:It)(p:Addr)(js:IC)(g:TG)(tc:TT)(tk tv:TE)(σ:St)(H:Hp)(Q:VK):Prop:=
 ∃W:Nat→Nat→St→List (Iq×V)→Hp→Prop,(∃m,W 0 m (Jf js σ) [] (HD H p (.dK [])))∧∀i m σ' kvs H,W i m σ' kvs H→H p=some (.dK kvs)∧
  ((J.stop i H∧Q (.ref p) H)∨(J.go i H∧kvs.length<Aw∧∀x H',J.yld i H x H'→g x σ' H' λσ2 H2=>tc σ2 H2 λb H3=>
    if b=true then tk σ2 H3 λk H4=>tv σ2 H4 λy H5=>∃ky,k=kV ky∧H5 p=some (.dK kvs)∧∃m',m'<m∧W (i+1) m' σ2 (Jb kvs ky y) (HD H5 p (.dK (Jb kvs ky y)))
    else ∃m',m'<m∧W (i+1) m' σ2 kvs H3))
def tDC(wi:TI)(js:IC)(g:TG)(tc:TT)(tk tv:TE):TE:=λσ H Q=>wi σ H λJ H1=>∀p,H1 p=none→Ot J p js g tc tk tv σ H1 Q
section
variable{tg iter kx vx:Expr}{ifs:List Expr}{wi:TI}{js:IC}{g:TG}{tc:TT}{tk tv:TE}{N':List Str}
theorem WZ{pins:List (Addr×Obj)}{σ:St}{H:Hp}{s:Shared}{E:Value→Shared→Prop}{Q:VK}{J:It}{it:Addr}{fp:List Addr}{tn:Nat→Heap→Prop}{cl:List (Str×Addr)}
 (hc:X.calm=true) (ok:CapOk X N' js scope)
 (h2:∀x c,cl.lookup x=some c→X.env.cells.lookup x=some c) (h3:∀p∈scope.names,p.2= .free→(cl.lookup p.1).isSome=true)
 (hg:∀cl C s₀ H₀ ex,PG (Ij X N' scope cl C s₀ H₀ ex) tg g) (ht:∀cl C s₀ H₀ ex,Ir (Ij X N' scope cl C s₀ H₀ ex) ifs tc) (he:∀cl C s₀ H₀ ex,PE (Ij X N' scope cl C s₀ H₀ ex) kx tk) (hv:∀cl C s₀ H₀ ex,PE (Ij X N' scope cl C s₀ H₀ ex) vx tv)
 (I:Inv X pins σ H s) (T:Turn X.prog X.w X.K tg J fp it tn) (st:tn 0 s.heap) (hf:∀b∈fp,HS X pins H b)
 (hw:∀p,H p=none→Ot J p js g tc tk tv σ H Q):
 wpAny (model X.prog X.w) X.A newDict (λacc s₃=>wpAny (model X.prog X.w) X.A (newFunctionEnv scope X.env.globals cl [] X.env.qual none .none (some X.env)) (λcenv s₄=>
  codeAny (model X.prog X.w) X.A (.compStart (.DictComp kx vx [⟨tg,iter,ifs,0⟩] scope pos) 0 (.ref it) acc {cenv with scope:=relabel scope X.env})
   (λr s'=>r= .ok .next∧(∃m,s'.heap.Ns cenv.locals m)∧∃v H',RelV v acc∧Inv X pins σ H' s'∧HS X pins H' cenv.locals∧Q v H') s₄) E s₃) E s:=by
 have objs:=T.obj _ _ st;refine Bh ?_;obtain⟨W,⟨m0,w0⟩,turn⟩:=hw s.heap.objs.size (I.hok.fresh (Af _));generalize hp:s.heap.objs.size=p at*;have kp:∀b u,s.heap.get? b=some u→(s.heap.push {cls:= .type "dict",data:= .dict #[]}).get? b=some u:=λb u e=>Ae _ e;have I3:Inv X pins σ (HD H p (.dK [])) {s with heap:=s.heap.push {cls:= .type "dict",data:= .dict #[]}}:=by subst hp;exact I.laid (t':=s.toks) kp (Af _) (Xh s.heap I.big)
 have fne:∀b∈fp,b≠p:=λb hb=>by obtain⟨o,e,_⟩:=objs b hb;have:=Ao e;rw[←hp];exact A5 this
 have hf3:∀b∈fp,HS X pins (HD H p (.dK [])) b:=λb hb=>⟨by rw[HV (fne b hb)];exact(hf b hb).1,(hf b hb).2⟩;have st3:tn 0 (s.heap.push {cls:= .type "dict",data:= .dict #[]}):=T.keep _ _ _ st λb _ o e=>kp b o e;have lt3:∀b∈fp,b<(s.heap.push {cls:= .type "dict",data:= .dict #[]}).objs.size:=λb hb=>by obtain⟨o,e,_⟩:=objs b hb;exact Ao (kp b o e)
 generalize hs3:({s with heap:=s.heap.push {cls:= .type "dict",data:= .dict #[]}}:Shared)=s3 at*
 have eh:s.heap.push {cls:= .type "dict",data:= .dict #[]}=s3.heap:=by rw[←hs3]
 rw[eh] at st3 lt3;refine ME ok.cells λcl h₁ hns₁ k4 oc=>?_;have I4:=M6 (cl:=cl) (h₁:=h₁) (t':=s3.toks+([]:List (Str×Value)).length) ok I3 h2 h3 hf3 lt3 k4 hns₁ oc;have st4:tn 0 h₁:=T.keep _ _ _ st3 λb _ o e=>k4 b o e;generalize hX:Ij X N' scope cl s3.heap.objs.size s3 (HD H p (.dK [])) fp=X' at I4;have hg':PG X' tg g:=by rw[←hX];exact hg _ _ _ _ _
 have ht':Ir X' ifs tc:=by rw[←hX];exact ht _ _ _ _ _
 have he':PE X' kx tk:=by rw[←hX];exact he _ _ _ _ _
 have hv':PE X' vx tv:=by rw[←hX];exact hv _ _ _ _ _
 have eP:X'.prog=X.prog:=by rw[←hX];rfl
 have ew:X'.w=X.w:=by rw[←hX];rfl
 have eK:X'.K=X.K:=by rw[←hX];rfl
 have ec:X'.calm=true:=by rw[←hX];exact hc
 have eA:X'.A=X.A:=by rw[←hX];rfl
 have ex:X'.xe=λ_ _=>False:=by rw[←hX];rfl
 have eE:X'.env=compEnvC scope cl s3.heap.objs.size X.env:=by rw[←hX];rfl
 have eEx:X'.ex=fp:=by rw[←hX];rfl
 have eN:X'.pn=[]:=by rw[←hX];rfl
 have stat:∀{H':Hp},(∀b∈fp,H' b=none)→∀b∈fp,HS X' [] H' b:=λ{H'}hn b hb=>by have okc:=I4.ok;refine⟨hn b hb,(okc.exf b (by rw[eEx];exact hb)).1,okc.exfs b (by rw[eEx];exact hb),.inl (by rw[eEx];exact hb),(okc.exf b (by rw[eEx];exact hb)).2,λq hq=>?_⟩;rw[eN] at hq;cases hq
 have loop:∀s₄:Shared,s₄={s3 with heap:=h₁,toks:=s3.toks+([]:List (Str×Value)).length}→
  codeAny (model X.prog X.w) X.A (.compLoop (.DictComp kx vx [⟨tg,iter,ifs,0⟩] scope pos) 0 (.ref it) (.ref p) (compEnvC scope cl s3.heap.objs.size X.env))
   (λr s'=>r= .ok .next∧(∃m,s'.heap.Ns s3.heap.objs.size m)∧∃v H',RelV v (.ref p)∧Inv X pins σ H' s'∧HS X pins H' s3.heap.objs.size∧Q v H') s₄:=by
  rintro s₄ rfl;refine U5 (λn s'=>∃i σ' ys H',Inv X' [] σ' H' s'∧tn i s'.heap∧(∀b∈fp,H' b=none)∧W i n σ' ys H') ?_ m0 ⟨0,_,[],_,I4,st4,λb hb=>(hf3 b hb).1,w0⟩;rintro n s5 ⟨i,σ5,ys,H5,I5,st5,fr5,w5⟩;obtain⟨hp5,tu⟩:=turn i n σ5 ys H5 w5;rcases tu with⟨stop,qn⟩ | ⟨go,hz,step⟩
  · have D:=T.done X' eP ew eK ec i [] s5 σ5 H5 (λ_ _=>False) I5 (stat fr5) st5 stop;rw[eA] at D;refine HJ D λr s6 ⟨hr,I6⟩=>?_;subst hr;refine⟨rfl,?_,.ref p,H5,rfl,?_,?_,qn⟩
    · obtain⟨m,hm,_⟩:=I6.loc;rw[eE] at hm;exact⟨m,hm⟩
    · have b6:=I6.base;have ho:=I6.os;have hk:=I6.hok;have hb:=I6.bare;subst hX;exact I3.call' (ch:=fp) ho b6 hk hb λb hb'=>⟨(hf b hb').2.2.2.1,(hf b hb').2.1,(hf b hb').2.2.2.2.1,(hf b hb').2.2.2.2.2⟩
    · have fr:=I6.free;rw[eE] at fr;exact I3.fpOk (Af _) fr
  · have D:=T.item X' eP ew eK ec i [] s5 σ5 H5 (λ_ _=>False) I5 (stat fr5) st5 go;rw[eA] at D;refine HJ D λr s6 ⟨u,hr,h6⟩=>?_;subst hr;refine HJ h6 λ_ s7 ⟨x,H7,I7,r7,y7,st7,fr7⟩=>?_;have I7':=I7.pinned (stat fr7) (T.obj _ _ st7);have G:=hg' _ s7 σ5 H7 x u _ I7' r7 (step x H7 y7);rw[eP,ew,eA,ex,eE] at G;refine HJ G λ_ s8 ⟨σ8,H8,I8,q8⟩=>?_;have Tt:=ht' _ s8 σ8 H8 _ I8 q8;rw[eP,ew,eA,ex,eE] at Tt;refine HJ Tt λb s9 ⟨H9,I9,q9⟩=>?_;have again:∀{s':Shared}{ys':List (Iq×V)}{H':Hp},Inv X' ([]++Ky fp s7.heap) σ8 H' s'→(∃m',m'<n∧W (i+1) m' σ8 ys' H')→
     ∃m,m<n∧∃i σ' ys H',Inv X' [] σ' H' s'∧tn i s'.heap∧(∀b∈fp,H' b=none)∧W i m σ' ys H':=λ{s' ys' H'}I' ⟨m',hm,w'⟩=>by
     refine⟨m',hm,i+1,σ8,ys',H',I'.unpinned,T.keep _ _ _ st7 λb hb o e=>(I'.pin (b,o) (Ag _ (Ag _ (JK hb e)))).1,λb hb=>?_,w'⟩;obtain⟨o,e,d⟩:=T.obj _ _ st7 b hb;exact(I'.pin (b,o) (Ag _ (Ag _ (JK hb e)))).2.1
    cases b with
    | false=>exact again I9 q9
    | true=>
     have Ee:=he' _ s9 σ8 H9 _ I9 q9;rw[eP,ew,eA,ex,eE] at Ee;show wpAny _ _ _ _ _ _;refine HJ Ee λkv s10 ⟨kk,H10,I10,r10,q10⟩=>?_;have Ev:=hv' _ s10 σ8 H10 _ I10 q10;rw[eP,ew,eA,ex,eE] at Ev;refine HJ Ev λvv s11 ⟨y,H11,I11,r11,ky,ek,hp11,q11⟩=>?_;subst ek;obtain⟨z0,hd0,vs0,rel0,dd0⟩:=K8 I11.hok hp11;have hz0:vs0.length≤Aw:=by rw[←rel0.length];exact z0
     have hl0:(Jb ys ky y).length≤Aw:=by have:=Ut ys ky y;omega
     rw[eP,ew] at dd0;refine wpAny_dictSet_pairs (hsz:=hz0) (Nt r10) dd0 λh' dd' hs'=>?_;have he0:∃q,h'.get? p=some q:=let⟨q,_,_,hq,_⟩:=dd';⟨q,hq⟩;have I12:=OE (t':=s11.toks+1) I11 (by rw[hp11];exact True.intro) hs' he0 (VL hl0 hd0 (rel0.put ky r11) (by rw[eP,ew];exact dd'));exact again I12 q11
 exact Fu (loop _ rfl) (T.self _ 0 _ _ _ st4 (loop _ rfl))
theorem Vj(hc:X.calm=true)(ok:CapOk X N' js scope)(hi:PI X tg iter wi)
 (hg:∀cl C s₀ H₀ ex,PG (Ij X N' scope cl C s₀ H₀ ex) tg g) (ht:∀cl C s₀ H₀ ex,Ir (Ij X N' scope cl C s₀ H₀ ex) ifs tc) (he:∀cl C s₀ H₀ ex,PE (Ij X N' scope cl C s₀ H₀ ex) kx tk) (hv:∀cl C s₀ H₀ ex,PE (Ij X N' scope cl C s₀ H₀ ex) vx tv)
 (hs:∀x,Bp iter X.env x=pure x:=by intro _;rfl):PE X (.DictComp kx vx [⟨tg,iter,ifs,0⟩] scope pos) (tDC wi js g tc tk tv):=by
 intro pins s σ H Q I h;obtain⟨cl,c1,c2,c3⟩:=Mb (scope:=scope) I.ok.has ok.free;show wpAny _ X.A (comprehension (.DictComp kx vx [⟨tg,iter,ifs,0⟩] scope pos) scope X.env _ newDict false (eval iter X.env)) _ _ s;refine Cc (use:=none) rfl hs c1 ok.kind ok.names (HJ (hi pins s σ H _ I h) λv s1 h1=>HJ h1 λitv s2 h2=>?_);obtain⟨it,fp,tn,J,H2,e,I2,T,st2,f2,hw⟩:=h2;subst e;refine Av (WZ (iter:=iter) (pos:=pos) hc ok c2 c3 hg ht he hv I2 T st2 f2 hw) (λacc s3 h3=>Av h3 (λcenv s4 h4=>?_) λ_ _ z=>z) λ_ _ z=>z;refine BS h4 λr s5 h5=>?_;obtain⟨rfl,⟨m,hm⟩,v,H5,rv,I5,f5,q5⟩:=h5;refine⟨m,hm,λh' sb=>?_⟩;obtain⟨f0,f1,_,f3,f4,f6⟩:=f5;exact⟨v,H5,I5.turned (t':=s5.toks) (λb o hb e=>(sb.2 b hb).trans e) f0 f1 f3 f4 f6,rv,q5⟩
end
theorem OO{ti tp:Addr}{k:Nat}{vs:Array Value}{v:Value}{Q:Value→Shared→Prop}(hi:s.heap.IsTupleIter ti tp k)(ht:s.heap.IsTuple tp vs)(hv:vs[k]?=some v)
 (fin:∀g,g.IsTupleIter ti tp (k+1)→Cw ti s.heap g→Q v {s with heap:=g}):wpAny (model prog w) A (Br (.ref ti)) Q E s:=by
 obtain⟨oi,e1,c1,d1⟩:=id hi;obtain⟨ot,e2,_,nt,d2⟩:=ht;unfold Br;refine Aa (Bm (name:=Ca "__next__") hi.typeIs Cp (AR Cp hi.typeIs DP ?_ (DM _)));show wpAny _ _ (field (.ref ti) 0>>=_) _ _ s;refine Aa (Bt e1 d1 (x:= .ref tp) rfl ?_);show wpAny _ _ (if(Value.ref tp==Value.none)=true then _ else _) _ _ s
 rw[if_neg (show ¬((Value.ref tp==Value.none)=true) from An)];show wpAny _ _ (field (.ref ti) 1>>=_) _ _ s;refine Aa (Bt e1 d1 (x:= .int k 0) rfl ?_);show wpAny _ _ (seqItems? (.ref tp)>>=_) _ _ s;refine Aa (Bc e2 d2 ?_);simp only[CL,hv];refine Aa (Et e1 d1 (by simp) (Ac ⟨v,rfl,Ac (fin _ ?_ (BG ..))⟩));exact⟨_,Dh _ e1 (F9 (D6 d1 _)),(Obj.cls_mapFields ..).trans c1,by rw[D6 d1];simp[rawInt]⟩
theorem Ry{ti tp:Addr}{k:Nat}{vs:Array Value}{Q:Value→Shared→Prop}(hh:A.handled=none)(hi:s.heap.IsTupleIter ti tp k)(ht:s.heap.IsTuple tp vs)(hv:vs[k]?=none)
 (fin:∀g e,Heap.ExtBut ti s.heap g→(∃o,g.get? e=some o∧o.cls= .type "StopIteration")→E (.ref e) {s with heap:=g}):wpAny (model prog w) A (Br (.ref ti)) Q E s:=by
 obtain⟨oi,e1,c1,d1⟩:=id hi;obtain⟨ot,e2,_,nt,d2⟩:=ht;unfold Br;refine Aa (Bm (name:=Ca "__next__") hi.typeIs Cp (AR Cp hi.typeIs DP ?_ (DM _)));show wpAny _ _ (field (.ref ti) 0>>=_) _ _ s;refine Aa (Bt e1 d1 (x:= .ref tp) rfl ?_);show wpAny _ _ (if(Value.ref tp==Value.none)=true then _ else _) _ _ s
 rw[if_neg (show ¬((Value.ref tp==Value.none)=true) from An)];show wpAny _ _ (field (.ref ti) 1>>=_) _ _ s;refine Aa (Bt e1 d1 (x:= .int k 0) rfl ?_);show wpAny _ _ (seqItems? (.ref tp)>>=_) _ _ s;refine Aa (Bc e2 d2 ?_);simp only[CL,hv];refine Aa (Cf (Aa (Et e1 d1 (by simp) ?_)));show wpAny _ _ (newExc (.type "StopIteration") []>>=_) _ _ _;refine Aa ?_;simp only[newExc,newTuple];refine Aa (Bh ?_ (by size_fits));refine Aa (m:=firstArgMember _ _) (Fq (a:=Value.none) (by first | rfl | (simp only[firstArgMember];rfl)) ?_)
 refine Bh ?_ (by size_fits);simp only[raiseNew];refine Aa (wpAny_handled ?_)
 first | rw[show A.in1.handled=none from hh] | rw[hh]
 refine Aa (Ac (wpAny_throw ?_));exact fin _ _ (((BG ..).extBut.push _).push _) ⟨_,Au _ rfl,rfl⟩
structure ZA(z a b i j:Addr):Prop where
 az:a≠z
 bz:b≠z
 iz:i≠z
 jz:j≠z
 ab:a≠b
 ai:a≠i
 aj:a≠j
 bi:b≠i
 bj:b≠j
 ij:i≠j
theorem KJ{h':Heap}{t c:Addr}{vs:Array Value}(x:h.IsTuple t vs)(hs:Cw c h h')(n:t≠c):h'.IsTuple t vs:=x.extBut hs.extBut n
theorem Xl{z i j t1 t2:Addr}{k1 k2:Nat}{xs ys:Array Value}{x y p q:Value}{Q:Value→Shared→Prop}(D:ZA z a b i j)(n1:t1≠z∧t1≠b∧t1≠i∧t1≠j)(n2:t2≠z∧t2≠b∧t2≠i∧t2≠j)
 (hz:IsZip s.heap z a b .none) (ha:IsPair s.heap a (.ref i) (.ref j)) (hb:IsPair s.heap b p q) (h1:s.heap.IsTupleIter i t1 k1) (h2:s.heap.IsTupleIter j t2 k2) (g1:s.heap.IsTuple t1 xs) (g2:s.heap.IsTuple t2 ys) (hx:xs[k1]?=some x) (hy:ys[k2]?=some y)
 (fin:∀g,IsZip g z a b (rawInt s.heap.objs.size)→IsPair g b x y→g.IsTupleIter i t1 (k1+1)→g.IsTupleIter j t2 (k2+1)→IsPair g s.heap.objs.size x y→
  (∀c o,c≠z→c≠b→c≠i→c≠j→s.heap.get? c=some o→g.get? c=some o)→Q (.ref s.heap.objs.size) {s with heap:=g}):
 wpAny (model prog w) A (Builtin.«zip.__next__» ⟨[.ref z],[]⟩) (λr s'=>∃v,r= .done (.ret v)∧Q v s') E s:=by
 show wpAny _ _ (field (.ref z) 2>>=_) _ _ _;refine Aa (Bt hz rfl (x:= .bool false) rfl ?_);show wpAny _ _ (field (.ref z) 3>>=_) _ _ _;refine Aa (Bt hz rfl (x:= .ref a) rfl ?_);refine Aa (Bc ha rfl ?_);show wpAny _ _ (Cg (.ref z)>>=_) _ _ _;refine Aa ?_;unfold Cg;refine Aa (Bt hz rfl (x:= .none) rfl (Ac ?_));simp only[if_true];refine Aa (Cf ?_);refine Aa (Bt hz rfl (x:= .ref b) rfl ?_);refine Aa (CB hz (by simp) λw1 z1 m1=>?_)
 replace z1:IsZip w1 z a b .ellipsis:=z1
 refine Aa ?_;simp only[List.zipIdx_cons,List.zipIdx_nil,Fj,F8];refine Aa (Aa (EA ?_));show wpAny _ _ (Br (.ref i)>>=_) _ _ _;refine Aa (OO (h1.extBut m1.extBut D.iz) (KJ g1 m1 n1.1) hx λw2 i2 m2=>Ac ?_);have b2:IsPair w2 b p q:=m2.extBut _ _ D.bi (m1.extBut _ _ D.bz hb);refine Aa (Bc b2 rfl ?_);refine Aa (Ef b2 λw3 b3 m3=>?_)
 replace b3:IsPair w3 b x q:=b3
 refine Aa (Ex (Ac ?_));refine Aa (Aa (EA ?_));show wpAny _ _ (Br (.ref j)>>=_) _ _ _;refine Aa (OO (((h2.extBut m1.extBut D.jz).extBut m2.extBut D.ij.symm).extBut m3.extBut D.bj.symm) (KJ (KJ (KJ g2 m1 n2.1) m2 n2.2.2.1) m3 n2.2.1) hy λw4 j4 m4=>Ac ?_);have b4:IsPair w4 b x q:=m4.extBut _ _ D.bj b3;refine Aa (Bc b4 rfl ?_);refine Aa (Ef b4 λw5 b5 m5=>?_)
 replace b5:IsPair w5 b x y:=b5
 refine Aa (Ex (Ac (Ac ?_)));refine Aa (Bc b5 rfl ?_);refine Aa (wpAny_newTuple ?_);have sz:w5.objs.size=s.heap.objs.size:=by rw[m5.1,m4.1,m3.1,m2.1,m1.1]
 have z5:IsZip w5 z a b .ellipsis:=m5.extBut _ _ D.bz.symm (m4.extBut _ _ D.jz.symm (m3.extBut _ _ D.bz.symm (m2.extBut _ _ D.iz.symm z1)));have k5:∀c o,c≠z→c≠b→c≠i→c≠j→s.heap.get? c=some o→w5.get? c=some o:=λc o c1 c2 c3 c4 e=> m5.extBut _ _ c2 (m4.extBut _ _ c4 (m3.extBut _ _ c2 (m2.extBut _ _ c3 (m1.extBut _ _ c1 e))));have i5:w5.IsTupleIter i t1 (k1+1):=((i2.extBut m3.extBut D.bi.symm).extBut m4.extBut D.ij).extBut m5.extBut D.bi.symm;have j5:w5.IsTupleIter j t2 (k2+1):=j4.extBut m5.extBut D.bj.symm;have zlt:z<w5.objs.size:=Ao z5;show wpAny _ _ (D7 (.ref z) (.ref w5.objs.size)>>=_) _ _ _;refine Aa ?_;unfold D7;have z6:IsZip (w5.push {cls:= .type "tuple",data:= .seq #[x,y]}) z a b .ellipsis:=Ae _ z5;refine Aa (CB z6 (by simp) λw7 z7 m7=>?_)
 replace z7:IsZip w7 z a b (rawInt w5.objs.size):=z7
 refine CB z7 (by simp) λw8 z8 m8=>?_
 replace z8:IsZip w8 z a b (rawInt w5.objs.size):=z8
 have up:∀c o,c≠z→w5.get? c=some o→w8.get? c=some o:=λc o c1 e=>m8.extBut _ _ c1 (m7.extBut _ _ c1 (Ae _ e));have t8:IsPair w8 w5.objs.size x y:=m8.extBut _ _ (Cy zlt) (m7.extBut _ _ (Cy zlt) (Au _ rfl));rw[sz] at z8 t8;refine Ac ⟨_,rfl,?_⟩;show Q (.ref w5.objs.size) _;rw[sz];obtain⟨oi,ei,ri⟩:=i5;obtain⟨oj,ej,rj⟩:=j5;exact fin w8 z8 (up _ _ D.bz b5) ⟨oi,up _ oi D.iz ei,ri⟩ ⟨oj,up _ oj D.jz ej,rj⟩ t8 λc o c1 c2 c3 c4 e=>up c o c1 (k5 c o c1 c2 c3 c4 e)
theorem W1{z i j t1 t2:Addr}{k1 k2:Nat}{xs ys:Array Value}{p q:Value}{Q:Fin→Shared→Prop}(hh:A.handled=none)(D:ZA z a b i j)(n1:t1≠z∧t1≠b∧t1≠i∧t1≠j)(n2:t2≠z∧t2≠b∧t2≠i∧t2≠j)
 (hz:IsZip s.heap z a b .none) (ha:IsPair s.heap a (.ref i) (.ref j)) (hb:IsPair s.heap b p q) (h1:s.heap.IsTupleIter i t1 k1) (h2:s.heap.IsTupleIter j t2 k2) (g1:s.heap.IsTuple t1 xs) (g2:s.heap.IsTuple t2 ys) (hend:xs[k1]?=none∨ys[k2]?=none)
 (fin:∀g e,(∀c o,c≠z→c≠b→c≠i→c≠j→s.heap.get? c=some o→g.get? c=some o)→(∃o,g.get? e=some o∧o.cls= .type "StopIteration")→E (.ref e) {s with heap:=g}):
 wpAny (model prog w) A (Builtin.«zip.__next__» ⟨[.ref z],[]⟩) Q E s:=by
 show wpAny _ _ (field (.ref z) 2>>=_) _ _ _;refine Aa (Bt hz rfl (x:= .bool false) rfl ?_);show wpAny _ _ (field (.ref z) 3>>=_) _ _ _;refine Aa (Bt hz rfl (x:= .ref a) rfl ?_);refine Aa (Bc ha rfl ?_);show wpAny _ _ (Cg (.ref z)>>=_) _ _ _;refine Aa ?_;unfold Cg;refine Aa (Bt hz rfl (x:= .none) rfl (Ac ?_));simp only[if_true];refine Aa (Cf ?_);refine Aa (Bt hz rfl (x:= .ref b) rfl ?_);refine Aa (CB hz (by simp) λw1 z1 m1=>?_)
 replace z1:IsZip w1 z a b .ellipsis:=z1
 refine Aa ?_;simp only[List.zipIdx_cons,List.zipIdx_nil,Fj,F8];refine Aa (Aa (EA ?_));show wpAny _ _ (Br (.ref i)>>=_) _ _ _;cases hx:xs[k1]? with
 | none=>
  refine Aa (Ry hh (h1.extBut m1.extBut D.iz) (KJ g1 m1 n1.1) hx λw2 e m2 he=>?_);obtain⟨oe,e1,e2⟩:=he;have z2:IsZip w2 z a b .ellipsis:=m2 _ _ D.iz.symm z1;have ez:e≠z:=λu=>by subst u;rw[z2] at e1;cases e1;simp at e2
  exact CB z2 (by simp) λw3 _ m3=>fin w3 e (λc o c1 _ c3 _ u=>m3.extBut _ _ c1 (m2 _ _ c3 (m1.extBut _ _ c1 u))) ⟨oe,m3.extBut _ _ ez e1,e2⟩
 | some x=>
  have hy:ys[k2]?=none:=by
   rcases hend with u | u
   · rw[hx] at u;cases u
   · exact u
  refine Aa (OO (h1.extBut m1.extBut D.iz) (KJ g1 m1 n1.1) hx λw2 i2 m2=>Ac ?_);have b2:IsPair w2 b p q:=m2.extBut _ _ D.bi (m1.extBut _ _ D.bz hb);refine Aa (Bc b2 rfl ?_);refine Aa (Ef b2 λw3 b3 m3=>?_);refine Aa (Ex (Ac ?_));refine Aa (Aa (EA ?_));show wpAny _ _ (Br (.ref j)>>=_) _ _ _;refine Aa (Ry hh (((h2.extBut m1.extBut D.jz).extBut m2.extBut D.ij.symm).extBut m3.extBut D.bj.symm) (KJ (KJ (KJ g2 m1 n2.1) m2 n2.2.2.1) m3 n2.2.1) hy λw4 e m4 he=>?_);obtain⟨oe,e1,e2⟩:=he;have z4:IsZip w4 z a b .ellipsis:=m4 _ _ D.jz.symm (m3.extBut _ _ D.bz.symm (m2.extBut _ _ D.iz.symm z1));have ez:e≠z:=λu=>by subst u;rw[z4] at e1;cases e1;simp at e2
  exact CB z4 (by simp) λw5 _ m5=>fin w5 e (λc o c1 c2 c3 c4 u=>m5.extBut _ _ c1 (m4 _ _ c4 (m3.extBut _ _ c2 (m2.extBut _ _ c3 (m1.extBut _ _ c1 u))))) ⟨oe,m5.extBut _ _ ez e1,e2⟩
section
variable{h':Heap}
theorem Inv.newTup{T:Addr}{x y:V}{t':Nat}(I:Inv X pins σ H s)(ch:List Addr)(hch:∀c∈ch,HS X pins H c)(keep:∀c o,c ∉ ch→s.heap.get? c=some o→h'.get? c=some o)(hT:s.heap.objs.size≤T)
 (tup:∃its:List Value,Vals [x,y] its∧IsTupP h' T its.toArray):Inv X pins σ (HD H T (.tup [x,y])) {s with heap:=h',toks:=t'}:=by
 have hn:H T=none:=I.hok.fresh hT;have neT:∀c o,s.heap.get? c=some o→c≠T:=λc o e=>A5 (AB (Ao e) hT);have off:∀c u,H c=some u→c ∉ ch:=λc u e z=>by rw[(hch c z).1] at e;cases e
 refine I.step (g':=s.gens) (d':=s.drawn) (ch:=ch) (λc hc=>⟨(hch c hc).2.2.2.1,(hch c hc).2.1,(hch c hc).2.2.2.2.1,(hch c hc).2.2.2.2.2⟩) (λc o _ _ hc e _=>keep c o hc e) (λc o _ _ hc e _=>⟨o.slots,keep c o hc e⟩)
  (λc o _ e n=>by rw[HV (neT c o e)];exact n) (λc o hc e=>⟨o,keep c o hc e⟩) (λc xs e=>by rw[HV (IT e hn)];exact e) (λc o u e=>by rw[HV (IT e hn)];exact e)
  (λc ps e=>⟨#[],by rw[HV (IT e hn),e];simp⟩) (λm hm=>?_) (λc u e=>?_) I.bare
 · obtain⟨o,es,ep,ho,r⟩:=hm;exact⟨o,es,ep,keep _ o (λz=>(hch _ z).2.1 rfl) ho,r⟩
 · by_cases hc:c=T
   · subst hc;rw[HH] at e;cases e;obtain⟨its,r,p⟩:=tup;exact⟨by show 2≤Aw;decide,its,r,p⟩
   · rw[HV hc] at e;refine(I.hok c u e).stay (λd v hd q=>keep d v ?_ q) (λd q=>by rw[HV (IT q hn)];exact q) λd xs q=>by rw[HV (IT q hn)];exact q
     rcases hd with z | z
     · rw[z];exact off c u e
     · exact off d _ z
theorem Inv.turnedN{t':Nat}(I:Inv X pins σ H s)(ch:List Addr)(hch:∀c∈ch,HS X pins H c)(keep:∀c o,c ∉ ch→s.heap.get? c=some o→h'.get? c=some o):Inv X pins σ H {s with heap:=h',toks:=t'}:=by
 have off:∀c u,H c=some u→c ∉ ch:=λc u e z=>by rw[(hch c z).1] at e;cases e
 refine I.step (g':=s.gens) (d':=s.drawn) (ch:=ch) (λc hc=>⟨(hch c hc).2.2.2.1,(hch c hc).2.1,(hch c hc).2.2.2.2.1,(hch c hc).2.2.2.2.2⟩) (λc o _ _ hc e _=>keep c o hc e) (λc o _ _ hc e _=>⟨o.slots,keep c o hc e⟩)
  (λc o _ e n=>n) (λc o hc e=>⟨o,keep c o hc e⟩) (λc xs e=>e) (λc o u e=>e) (λc ps e=>⟨#[],by rw[e];simp⟩) (λm hm=>?_) (λc u e=>?_) I.bare
 · obtain⟨o,es,ep,ho,r⟩:=hm;exact⟨o,es,ep,keep _ o (λz=>(hch _ z).2.1 rfl) ho,r⟩
 · refine(I.hok c u e).stay (λd v hd q=>keep d v ?_ q) (λ_ q=>q) λ_ _ q=>q;rcases hd with z | z
   · rw[z];exact off c u e
   · exact off d _ z
theorem J8{t c:Addr}(I:Inv X pins σ H s)(h:SqT X.K H t xs)(f:HS X pins H c):t≠c:=by
 intro e;subst e;rcases h with(h | ⟨o,h⟩) | ⟨o,its,n,hk,_⟩
 · rw[f.1] at h;cases h
 · rw[f.1] at h;cases h
 · have eb:=I.ok.mod.kin t o hk;rcases f.2.2.2.1 with z | z
   · exact I.ok.noex t o eb z
   · exact absurd (AB (Ao eb) (A2 I.ok.bsz z)) (C5 _)
end
def Oj(K:Ad)(t1 t2:Addr):It:=
 ⟨λk H=>∃(xs ys:List V)(x y:V),SqT K H t1 xs∧SqT K H t2 ys∧xs[k]?=some x∧ys[k]?=some y,
  λk H v H'=>∃p,v= .ref p∧H p=none∧∀(xs ys:List V)(x y:V),SqT K H t1 xs→SqT K H t2 ys→xs[k]?=some x→ys[k]?=some y→H'=HD H p (.tup [x,y]),
  λk H=>∃(xs ys:List V),SqT K H t1 xs∧SqT K H t2 ys∧(xs.length≤k∨ys.length≤k)⟩
theorem Xn{P:AU}{w:World}{K:Ad}{es:List Expr}{kk:Nat}{pos:Pos}(t1 t2 z a b i j:Addr)(D:ZA z a b i j):
 Turn P w K (.Tuple es kk pos) (Oj K t1 t2) [z,a,b,i,j] z (λk h=>IsZip h z a b .none∧IsPair h a (.ref i) (.ref j)∧(∃p q,IsPair h b p q)∧h.IsTupleIter i t1 k∧h.IsTupleIter j t2 k) where
 mem:=by simp
 obj:=λk h st c hc=>by
  obtain⟨hz,ha,⟨p,q,hb⟩,⟨oi,ei,_,di⟩,⟨oj,ej,_,dj⟩⟩:=st;simp only[As,AK,or_false] at hc;rcases hc with rfl | rfl | rfl | rfl | rfl
  · exact⟨_,hz,λv e=>by cases e⟩
  · exact⟨_,ha,λv e=>by cases e⟩
  · exact⟨_,hb,λv e=>by cases e⟩
  · exact⟨oi,ei,λv e=>by rw[di] at e;cases e⟩
  · exact⟨oj,ej,λv e=>by rw[dj] at e;cases e⟩
 keep:=λk h h' st kp=>by obtain⟨hz,ha,⟨p,q,hb⟩,⟨oi,ei,ri⟩,⟨oj,ej,rj⟩⟩:=st;exact⟨kp z (by simp) _ hz,kp a (by simp) _ ha,⟨p,q,kp b (by simp) _ hb⟩,⟨oi,kp i (by simp) _ ei,ri⟩,⟨oj,kp j (by simp) _ ej,rj⟩⟩
 item:=by
  intro X hP hw hK hc k pins s σ H E I hf st hg;subst hP hw hK;obtain⟨xs,ys,x,y,q1,q2,hx,hy⟩:=hg;obtain⟨hz,ha,⟨p,q,hb⟩,h1,h2⟩:=st;obtain⟨its1,r1,g1,_⟩:=I.tuple q1;obtain⟨its2,r2,g2,_⟩:=I.tuple q2;obtain⟨u1,hu1,v1⟩:=r1.get hx;obtain⟨u2,hu2,v2⟩:=r2.get hy;have fz:=hf z (by simp);have fb:=hf b (by simp);have fi:=hf i (by simp);have fj:=hf j (by simp);have hT:s.TypeIs (.ref z) "zip":=⟨_,hz,rfl⟩;unfold pyNext;refine Aa (DU (Bm (name:=Ca "__next__") hT Dj (AR Dj hT Fv
   (Xl D ⟨J8 I q1 fz,J8 I q1 fb,J8 I q1 fi,J8 I q1 fj⟩ ⟨J8 I q2 fz,J8 I q2 fb,J8 I q2 fi,J8 I q2 fj⟩ hz ha hb h1 h2 g1 g2 (by simpa using hu1) (by simpa using hu2) λg a1 a2 a3 a4 a5 a6=>Ac ?_) (Fd _))))
  refine⟨_,rfl,wpAny_letOwnedTupleGo_zip a1 λg' z' m'=>?_⟩;have zT:z≠s.heap.objs.size:=A5 (Ao hz);have up:∀c o,c≠z→g.get? c=some o→g'.get? c=some o:=λc o hc e=>m'.extBut c o hc e;have fr:H s.heap.objs.size=none:=I.hok.fresh (Af _);have I1:Inv X pins σ (HD H s.heap.objs.size (.tup [x,y])) {s with heap:=g'}:=by
   refine I.newTup (t':=s.toks) [z,b,i,j] (λc hc=>?_) (λc o hc e=>?_) (Af _) ⟨[u1,u2],.cons v1 (.cons v2 .nil),_,up _ _ zT.symm a5,rfl,rfl,_,rfl⟩
   · simp only[As,AK,or_false] at hc;rcases hc with rfl | rfl | rfl | rfl
     · exact fz
     · exact fb
     · exact fi
     · exact fj
   · simp only[As,AK,or_false,not_or] at hc;exact up c o hc.1 (a6 c o hc.1 hc.2.1 hc.2.2.1 hc.2.2.2 e)
  obtain⟨oi,ei,ri⟩:=a3;obtain⟨oj,ej,rj⟩:=a4;refine⟨.ref s.heap.objs.size,_,I1,rfl,⟨_,rfl,fr,λxs' ys' x' y' s1 s2 e1 e2=>?_⟩,⟨z',up _ _ D.az (a6 a _ D.az D.ab D.ai D.aj ha),⟨_,_,up _ _ D.bz a2⟩,⟨oi,up _ _ D.iz ei,ri⟩,⟨oj,up _ _ D.jz ej,rj⟩⟩,λc hc=>?_⟩
  · rw[I.tuple_inj s1 q1,hx] at e1;rw[I.tuple_inj s2 q2,hy] at e2;cases e1;cases e2;rfl
  · have fc:=hf c hc;have:c≠s.heap.objs.size:=by
     simp only[As,AK,or_false] at hc;obtain⟨oi',ei',_⟩:=h1;obtain⟨oj',ej',_⟩:=h2;rcases hc with rfl | rfl | rfl | rfl | rfl
     · exact zT
     · exact A5 (Ao ha)
     · exact A5 (Ao hb)
     · exact A5 (Ao ei')
     · exact A5 (Ao ej')
    rw[HV this];exact fc.1
 done:=by
  intro X hP hw hK hc k pins s σ H E I hf st hg;subst hP hw hK;obtain⟨xs,ys,q1,q2,hend⟩:=hg;obtain⟨hz,ha,⟨p,q,hb⟩,h1,h2⟩:=st;obtain⟨its1,r1,g1,_⟩:=I.tuple q1;obtain⟨its2,r2,g2,_⟩:=I.tuple q2;have l1:=r1.length;have l2:=r2.length;have fz:=hf z (by simp);have fb:=hf b (by simp);have fi:=hf i (by simp);have fj:=hf j (by simp);have hT:s.TypeIs (.ref z) "zip":=⟨_,hz,rfl⟩;unfold pyNext;refine Aa (DU (Bm (name:=Ca "__next__") hT Dj (AR Dj hT Fv
   (W1 (I.ok.hd hc) D ⟨J8 I q1 fz,J8 I q1 fb,J8 I q1 fi,J8 I q1 fj⟩ ⟨J8 I q2 fz,J8 I q2 fb,J8 I q2 fi,J8 I q2 fj⟩ hz ha hb h1 h2 g1 g2 ?_ λg e kp he=>?_) (Fd _))))
  · rcases hend with u | u
    · exact .inl (by simp;omega)
    · exact .inr (by simp;omega)
  · obtain⟨o,ho,hcl⟩:=he;refine Aa (CS (T:="StopIteration") (b:=true) ⟨o,ho,hcl⟩ isSubtype_stop ?_);refine Ac ⟨rfl,I.turnedN (t':=s.toks) [z,b,i,j] (λc hc=>?_) (λc o hc e=>?_)⟩
    · simp only[As,AK,or_false] at hc;rcases hc with rfl | rfl | rfl | rfl
      · exact fz
      · exact fb
      · exact fi
      · exact fj
    · simp only[As,AK,or_false,not_or] at hc;exact kp c o hc.1 hc.2.1 hc.2.2.1 hc.2.2.2 e
 self:=λ_ _ _ _ _ st h=>wpAny_pyIter_zip st.1 h
abbrev L4(h:Heap)(t:Addr):Heap:=h.push {cls:= .type "tuple_iterator",data:= .fields #[.ref t,.int 0 0]}
abbrev L3(h:Heap)(t u:Addr):Heap:=(L4 h t).push {cls:= .type "tuple_iterator",data:= .fields #[.ref u,.int 0 0]}
abbrev L1(h:Heap)(t u:Addr):Heap:=(L3 h t u).push {cls:= .type "tuple",data:= .seq #[.ref h.objs.size,.ref (L4 h t).objs.size]}
abbrev LV(h:Heap)(t u:Addr):Heap:=(L1 h t u).push {cls:= .type "tuple",data:= .seq #[.none,.none]}
abbrev Le(h:Heap)(t u:Addr):Heap:=(LV h t u).push {cls:= .type "zip",data:= .fields #[.none,.bool false,.bool false,.ref (L3 h t u).objs.size,.ref (L1 h t u).objs.size]}
theorem W6(t u:Addr)(xs ys:Array Value):Meets (Builtin.«zip.__new__» ⟨[.type "zip",.ref t,.ref u],[]⟩) (λ_ R s=>s.heap.IsTuple t xs∧s.heap.IsTuple u ys∧
 R (.ok (.ret (.ref (LV s.heap t u).objs.size))) {s with heap:=Le s.heap t u}):=
 .of_wp λprog w A R s h=>by
  obtain⟨hp,g,d,tk,os⟩:=s;obtain⟨g1,g2,h⟩:=h;have f0:=sub_zip;have f1:Heap.IsTuple (Shared.heap ⟨hp,g,d,tk,os⟩) t xs:=g1;have f2:Heap.IsTuple (Shared.heap ⟨hp.push {cls:= .type "tuple_iterator",data:= .fields #[.ref t,.int 0 0]},g,d,tk,os⟩) u ys:=Heap.IsTuple.push g2 _
  wp_walk using Ez f1,Ez f2
  exact⟨_,rfl,h⟩
theorem VI:AQ "zip"=some (.type "zip"):=by decide+kernel
def Q9(K:Ad)(ta:TA):TI:=λσ H R=>ta σ H λvs H1=>∃t u,vs=[.ref t,.ref u]∧(∃xs,SqT K H1 t xs)∧(∃ys,SqT K H1 u ys)∧R (Oj K t u) H1
theorem V2{es:List Expr}{kk:Nat}{tpos:Pos}{a b:Expr}{ta:TA}{p pos:Pos}(hg:Gl X "zip")(hm:X.mg "zip"=none)(ha:PA X [a,b] ta)
 (he:A6 [a,b] X.env=(false,eval a X.env)::A6 [b] X.env:=by rfl) (hpl:(backTo pos (A6 [b] X.env)).any (·.1)=false:=by rfl):
 PI X (.Tuple es kk tpos) (.Call (.Name "zip" p) [a,b] [] pos) (Q9 X.K ta):=by
 intro pins s σ H R I h;refine Bs (JV I hg hm VI ?_ (by decide) (by decide));refine Bx (HJ (ha pos pins s σ H _ I h) λus s1 ⟨vs,H1,I1,r1,t,u,e,⟨xs,q1⟩,⟨ys,q2⟩,q⟩=>?_) he hpl;subst e;obtain⟨u1,u2,rfl,v1,v2⟩:=Mw r1;cases v1;cases v2;obtain⟨its1,rv1,g1,_⟩:=I1.tuple q1;obtain⟨its2,rv2,g2,_⟩:=I1.tuple q2;refine callType_new PySem.F.called_zip (by decide) (PySem.F.typeCall_zip_2 _ _) (PySem.F.newCall_zip_2 _ _) (λobj=>PySem.F.args_object_init_3 obj _ _) PySem.F.entry_zip_new (W6 t u its1.toArray its2.toArray) ⟨g1,g2,?_⟩;have y1:(L4 s1.heap t).objs.size=s1.heap.objs.size+1:=BK ..;have y2:(L3 s1.heap t u).objs.size=s1.heap.objs.size+2:=by rw[BK,y1]
 have y3:(L1 s1.heap t u).objs.size=s1.heap.objs.size+3:=by rw[BK,y2]
 have y4:(LV s1.heap t u).objs.size=s1.heap.objs.size+4:=by rw[BK,y3]
 have k5:∀c o,s1.heap.get? c=some o→(Le s1.heap t u).get? c=some o:=λc o e=>Ae _ (Ae _ (Ae _ (Ae _ (Ae _ e))));have e5:(Le s1.heap t u).get? (LV s1.heap t u).objs.size=some _:=Au _ rfl;have e4:(Le s1.heap t u).get? (L1 s1.heap t u).objs.size=some _:=Ae _ (Au _ rfl);have e3:(Le s1.heap t u).get? (L3 s1.heap t u).objs.size=some _:=Ae _ (Ae _ (Au _ rfl));have e2:(Le s1.heap t u).get? (L4 s1.heap t).objs.size=some _:=Ae _ (Ae _ (Ae _ (Au _ rfl)));have e1:(Le s1.heap t u).get? s1.heap.objs.size=some _:=Ae _ (Ae _ (Ae _ (Ae _ (Au _ rfl))));have I2:Inv X pins σ H1 {s1 with heap:=Le s1.heap t u}:=I1.kept (t':=s1.toks) k5
 have fp:∀c,s1.heap.objs.size≤c→HS X pins H1 c:=λc hc=>I1.fpOk hc (I1.hok.fresh hc);have D:ZA (LV s1.heap t u).objs.size (L3 s1.heap t u).objs.size (L1 s1.heap t u).objs.size s1.heap.objs.size (L4 s1.heap t).objs.size:=by
  have n4:(L1 s1.heap t u).objs.size<(LV s1.heap t u).objs.size:=by rw[y3,y4];exact CT _
  have n3:(L3 s1.heap t u).objs.size<(L1 s1.heap t u).objs.size:=by rw[y2,y3];exact CT _
  have n2:(L4 s1.heap t).objs.size<(L3 s1.heap t u).objs.size:=by rw[y1,y2];exact CT _
  have n1:s1.heap.objs.size<(L4 s1.heap t).objs.size:=by rw[y1];exact CT _
  exact⟨A5 (Cm n3 n4),A5 n4,A5 (Cm n1 (Cm n2 (Cm n3 n4))),A5 (Cm n2 (Cm n3 n4)),A5 n3,Cy (Cm n1 n2),Cy n2,
   Cy (Cm n1 (Cm n2 n3)),Cy (Cm n2 n3),A5 n1⟩
 refine⟨⟨_,e5,rfl⟩,wpAny_pyIter_zip e5 ?_⟩;refine⟨_,_,_,_,H1,rfl,I2,Xn t u _ _ _ _ _ D,⟨e5,e3,⟨_,_,e4⟩,⟨_,e1,rfl,rfl⟩,⟨_,e2,rfl,rfl⟩⟩,λc hc=>fp c ?_,q⟩;simp only[As,AK,or_false] at hc;rcases hc with rfl | rfl | rfl | rfl | rfl
 · rw[y4];exact C9 _ _
 · rw[y2];exact C9 _ _
 · rw[y3];exact C9 _ _
 · exact Af _
 · rw[y1];exact C9 _ _
section
variable{tg iter kx vx:Expr}{ifs:List Expr}{wi:TI}{js:IC}{g:TG}{tc:TT}{tk tv:TE}{N':List Str}
end
theorem Yz{t sl:Addr}{items:Array Value}{vl vu:Value}{lo hi:Option Int}{Q:Value→Shared→Prop}(ht:IsTup s.heap t items)(hs:s.heap.IsSliceOf sl vl vu .none)(pl:IsPart vl lo)(pu:IsPart vu hi)
 (h0:HT.sIx items.size 0 lo=0) (h1:HT.sIx items.size items.size hi=items.size) (h:Q (.ref t) s):wpAny (model prog w) A (getItem (.ref t) (.ref sl)) Q E s:=by
 obtain⟨os,hos,hcs,hds⟩:=id hs;have hTs:s.TypeIs (.ref sl) "slice":=⟨os,hos,hcs⟩;unfold getItem
 try with_reducible refine AN ?_
 first | refine Aa (Ac ?_) | skip
 refine Aa (EE ht.typeIs (by decide) ?_);refine Aa (Bm (name:=Ca "__getitem__") ht.typeIs BA
  (AR BA ht.typeIs PySem.F.entry_tuple_getitem ?_ (PySem.F.args_tuple_getitem_2 _ _)))
 show wpAny _ _ (Dq (.ref t)>>=_) _ _ s;refine Aa (tupleItemsOf_ ht ?_);refine Aa (Dg hTs ?_);rw[if_pos (by decide)];refine Aa (HT.sliceApplied_gen hs pl pu ?_);have yes:((((HT.sIx items.size 0 lo:Nat):Int)==0 && (1:Int)==1 && (HT.sIx items.size items.size hi - HT.sIx items.size 0 lo)==items.size)=true):=by rw[h0,h1];simp
 show wpAny _ _ (if(((HT.sIx items.size 0 lo:Nat):Int)==0 && (1:Int)==1 && (HT.sIx items.size items.size hi - HT.sIx items.size 0 lo)==items.size)=true then _ else _) _ _ s
 rw[if_pos yes];unfold Builtin.Tuple.tupleIsExact;refine Aa (Aa (Dg ht.typeIs (Ac ?_)));rw[if_pos (by decide)];exact Aa (Cf (Ac ⟨_,rfl,Ac h⟩))
def MK(K:Ad):V→Option Int→Option Int→Hp→VK→Prop:=λx lo hi H Q=>∃a xs,x= .ref a∧SqT K H a xs∧
 (HT.sIx xs.length 0 lo=0∧HT.sIx xs.length xs.length hi=xs.length→Q (.ref a) H)∧
 (¬(HT.sIx xs.length 0 lo=0∧HT.sIx xs.length xs.length hi=xs.length)→∀p,H p=none→Q (.ref p) (HD H p (.tup (Iz xs lo hi))))
theorem Ss:Mr X (MK X.K):=by
 intro pins s σ H x v vl vu lo hi sl Q I rx hs pl pu h;obtain⟨a,xs,rfl,hx,q1,q2⟩:=h;by_cases hw:HT.sIx xs.length 0 lo=0∧HT.sIx xs.length xs.length hi=xs.length
 · cases rx;obtain⟨its,r,ht,hz⟩:=I.tuple hx;have hlen:its.toArray.size=xs.length:=by rw[Al];exact r.length.symm
   refine⟨"tuple",_,BA.lookup,ht.typeIs,?_⟩;exact Yz ht hs pl pu (by rw[hlen];exact hw.1) (by rw[hlen];exact hw.2) ⟨.ref a,H,I,rfl,q1 hw⟩
 · exact WR pins s σ H (.ref a) v vl vu lo hi sl Q I rx hs pl pu ⟨a,xs,rfl,hx,hw,q2 hw⟩
theorem Wu{K:Ad}{Q:VK}(h:SqT K H a xs)(q:∀p H',Same H H'→SqT K H' p (xs.drop 1)→Q (.ref p) H'):MK K (.ref a) (some 1) none H Q:=by
 have e0:HT.sIx xs.length 0 (some 1)=min 1 xs.length:=HT.sIx_nat _ _ 1;refine⟨a,xs,rfl,h,λhw=>?_,λhw p hp=>?_⟩
 · rw[e0] at hw;have hl:xs.length=0:=by omega
   have hx:xs=[]:=Fe.mp hl;subst hx;exact q a H (Same.refl _) h
 · refine q p _ (HN hp _) (SqT.of ?_);rw[HH];unfold Iz;rw[e0,show HT.sIx xs.length xs.length none=xs.length from rfl];cases xs with
   | nil=>rfl
   | cons x r=>
    have e1:min 1 (x::r).length=1:=by rw[A8];omega
    rw[e1];congr 2;rw[A8,Nat.add_sub_cancel];exact AO (by simp)
section
variable{K:Ad}
theorem Se(K:Ad)(h:X.K=K):Ly X (ML K):=by subst h;exact JN
theorem XX(K:Ad)(h:X.K=K):Ly X (MM K):=by subst h;exact IA
theorem Ll(K:Ad)(h:X.K=K){es:List Expr}{k:Nat}{t:Lx}{n:Nat}{pos:Pos}(hc:X.calm=true)(hg:Ni X es t)
 (hn:(assignEach es X.env).length=n:=by rfl) (hst:(assignEach es X.env).findIdx? (·.1)=none:=by rfl):PG X (.Tuple es k pos) (LN K n t):=by subst h;exact JW hc hg hn hst
end
theorem Vq{K:Ad}{t1 t2 p:Addr}{ys:List V}{g:TG}{tc:TT}{te:TE}{Q:VK}{js:IC}(h1:n≤xs.length)(h2:n≤ys.length)(h3:xs.length≤n∨ys.length≤n)(Pv:Nat→St→List V→Hp→Prop)(h0:Pv 0 (Jf js σ) [] (HD H p (.lst [])))
 (hl:∀i σ zs H,i≤n→Pv i σ zs H→SqT K H t1 xs∧SqT K H t2 ys∧H p=some (.lst zs)∧zs.length<Aw)
 (hs:∀(i:Nat)x y σ zs H q(N:St→List V→Hp→Prop),xs[i]?=some x→ys[i]?=some y→H q=none→Pv i σ zs H→(∀σ' ys' H',Pv (i+1) σ' ys' H'→N σ' ys' H')→Lj p g tc te zs (.ref q) σ (HD H q (.tup [x,y])) N)
 (hd:∀σ zs H,Pv n σ zs H→Q (.ref p) H):JU (Oj K t1 t2) p js g tc te σ H Q:=
 LA (n:=n) (J:=Oj K t1 t2) (js:=js) (σ:=σ) (H:=H) (p:=p) (Q:=Q) (g:=g) (tc:=tc) (te:=te) Pv h0 (λi σ zs H hi pv=>(hl i σ zs H hi pv).2.2)
  (λi σ zs H hi pv=>⟨xs,ys,xs[i],ys[i],(hl i σ zs H (Bo hi) pv).1,(hl i σ zs H (Bo hi) pv).2.1,by simp,by simp⟩)
  (λσ zs H pv=>⟨xs,ys,(hl _ σ zs H (Af _) pv).1,(hl _ σ zs H (Af _) pv).2.1,h3⟩)
  (λi v σ zs H H' N hi y pv hN=>by
   obtain⟨q,e,hq,y⟩:=y;subst e;have ex:xs[i]?=some xs[i]:=by simp
   have ey:ys[i]?=some ys[i]:=by simp
   have e2:=y xs ys _ _ (hl i σ zs H (Bo hi) pv).1 (hl i σ zs H (Bo hi) pv).2.1 ex ey;subst e2;exact hs i _ _ σ zs H q N ex ey hq pv hN) hd
section
variable{h':Heap}
end
def Nn(K:Ad)(a:Addr):It:=
 ⟨λk H=>∃(xs:List V)(x:V),SqL K H a xs∧xs[k]?=some x,
  λk H v H'=>∃p,v= .ref p∧H p=none∧∀(xs:List V)(x:V),SqL K H a xs→xs[k]?=some x→H'=HD H p (.tup [.int k,x]),
  λk H=>∃(xs:List V),SqL K H a xs∧xs.length≤k⟩
theorem YS{P:AU}{w:World}{K:Ad}{es:List Expr}{kk:Nat}{pos:Pos}(a e it:Addr)(D:e≠it):
 Turn P w K (.Tuple es kk pos) (Nn K a) [e,it] e (λk h=>(∃old,IsEnum h e it k old)∧h.IsListIter it a k) where
 mem:=by simp
 obj:=λk h st c hc=>by
  obtain⟨⟨old,hz⟩,⟨oi,ei,_,di⟩⟩:=st;simp only[As,AK,or_false] at hc;rcases hc with rfl | rfl
  · exact⟨_,hz,λv e=>by cases e⟩
  · exact⟨oi,ei,λv e=>by rw[di] at e;cases e⟩
 keep:=λk h h' st kp=>by obtain⟨⟨old,hz⟩,⟨oi,ei,ri⟩⟩:=st;exact⟨⟨old,kp e (by simp) _ hz⟩,⟨oi,kp it (by simp) _ ei,ri⟩⟩
 item:=by
  intro X hP hw hK hc k pins s σ H E I hf st hg;subst hP hw hK;obtain⟨xs,x,q1,hx⟩:=hg;obtain⟨⟨old,hz⟩,h1⟩:=st;obtain⟨its1,r1,g1,_⟩:=I.list q1;obtain⟨u1,hu1,v1⟩:=r1.get hx;have fz:=hf e (by simp);have fi:=hf it (by simp);refine wpAny_pyNext_enum_item hz h1 g1.isList (by simpa using hu1) D λg a1 a2 a3 a4 a5=>?_;refine⟨_,rfl,wpAny_letOwnedTupleGo_enum a1 λg' z' m'=>?_⟩;have zT:e≠s.heap.objs.size:=A5 (Ao hz);have up:∀c o,c≠e→g.get? c=some o→g'.get? c=some o:=λc o hc e=>m'.extBut c o hc e;have fr:H s.heap.objs.size=none:=I.hok.fresh (Af _);have I1:Inv X pins σ (HD H s.heap.objs.size (.tup [.int k,x])) {s with heap:=g',toks:=s.toks+1}:=by
   refine I.newTup (t':=s.toks+1) [e,it] (λc hc=>?_) (λc o hc e=>?_) (Af _) ⟨[.int k s.toks,u1],.cons ⟨_,rfl⟩ (.cons v1 .nil),_,up _ _ zT.symm a3,rfl,rfl,_,rfl⟩
   · simp only[As,AK,or_false] at hc;rcases hc with rfl | rfl
     · exact fz
     · exact fi
   · simp only[As,AK,or_false,not_or] at hc;exact up c o hc.1 (a5 c o hc.1 hc.2 e)
  obtain⟨oi,ei,ri⟩:=a2;refine⟨.ref s.heap.objs.size,_,I1,rfl,⟨_,rfl,fr,λxs' x' s1 e1=>?_⟩,⟨⟨_,z'⟩,⟨oi,up _ _ D.symm ei,ri⟩⟩,λc hc=>?_⟩
  · rw[I.list_inj s1 q1,hx] at e1;cases e1;rfl
  · have fc:=hf c hc;have:c≠s.heap.objs.size:=by
     simp only[As,AK,or_false] at hc;obtain⟨oi',ei',_⟩:=h1;rcases hc with rfl | rfl
     · exact zT
     · exact A5 (Ao ei')
    rw[HV this];exact fc.1
 done:=by
  intro X hP hw hK hc k pins s σ H E I hf st hg;subst hP hw hK;obtain⟨xs,q1,hend⟩:=hg;obtain⟨⟨old,hz⟩,h1⟩:=st;obtain⟨its1,r1,g1,_⟩:=I.list q1;have l1:=r1.length;refine wpAny_pyNext_enum_end (I.ok.hd hc) hz h1 g1.isList (by simp;omega) λg kp=>?_;refine⟨rfl,I.turnedN (t':=s.toks) [it] (λc hc=>?_) (λc o hc e=>?_)⟩
  · simp only[As,AK,or_false] at hc;subst hc;exact hf c (by simp)
  · simp only[As,AK,or_false] at hc;exact kp c o hc e
 self:=λ_ _ _ _ _ st h=>by obtain⟨⟨old,hz⟩,_⟩:=st;exact wpAny_pyIter_enum hz h
theorem Zq:AQ "enumerate"=some (.type "enumerate"):=by decide+kernel
def Vd(K:Ad)(ta:TA):TI:=λσ H R=>ta σ H λvs H1=>∃t,vs=[.ref t]∧(∃xs,SqL K H1 t xs)∧R (Nn K t) H1
theorem RS{es:List Expr}{kk:Nat}{tpos:Pos}{a:Expr}{ta:TA}{p pos:Pos}(hg:Gl X "enumerate")(hm:X.mg "enumerate"=none)(ha:PA X [a] ta)
 (he:A6 [a] X.env=(false,eval a X.env)::A6 [] X.env:=by rfl) (hpl:(backTo pos (A6 [] X.env)).any (·.1)=false:=by rfl):
 PI X (.Tuple es kk tpos) (.Call (.Name "enumerate" p) [a] [] pos) (Vd X.K ta):=by
 intro pins s σ H R I h;refine Bs (JV I hg hm Zq ?_ (by decide) (by decide));refine Bx (HJ (ha pos pins s σ H _ I h) λus s1 ⟨vs,H1,I1,r1,t,e,⟨xs,q1⟩,q⟩=>?_) he hpl;subst e;obtain⟨u1,rfl,v1⟩:=JT r1;cases v1;obtain⟨its1,rv1,⟨o,n,g0,g1,g2,g3⟩,_⟩:=I1.list q1;obtain⟨oc,od,odat,osl⟩:=o;cases g1;cases g2;cases g3;refine callType_new PySem.F.called_enumerate (by decide) (PySem.F.typeCall_enumerate_1 _) (PySem.F.newCall_enumerate_1 _) (λobj=>PySem.F.args_object_init_2 obj _) PySem.F.entry_enumerate_new (meets_enumerate_newL t its1.toArray n none osl) ⟨g0,?_⟩;generalize hh5:((s1.heap.push {cls:= .type "list_iterator",data:= .fields #[.ref t,.int 0 0]}).push {cls:= .type "enumerate",data:= .fields #[.none,.bool false,.ref s1.heap.objs.size,rawInt 0,.none,.none]})=h5;have y1:(s1.heap.push {cls:= .type "list_iterator",data:= .fields #[.ref t,.int 0 0]}).objs.size=s1.heap.objs.size+1:=BK ..;have k5:∀c o,s1.heap.get? c=some o→h5.get? c=some o:=λc o e=>by rw[←hh5];exact Ae _ (Ae _ e)
 have e5:IsEnum h5 (s1.heap.objs.size+1) s1.heap.objs.size 0 .none:=by have:=Au (s1.heap.push {cls:= .type "list_iterator",data:= .fields #[.ref t,.int 0 0]}) (o:={cls:= .type "enumerate",data:= .fields #[.none,.bool false,.ref s1.heap.objs.size,rawInt 0,.none,.none]}) rfl;rw[y1,hh5] at this;exact this
 have e1:h5.IsListIter s1.heap.objs.size t 0:=by rw[←hh5];exact⟨_,Ae _ (Au _ rfl),rfl,rfl⟩
 have I2:Inv X pins σ H1 {s1 with heap:=h5}:=I1.kept (t':=s1.toks) k5
 have fp:∀c,s1.heap.objs.size≤c→HS X pins H1 c:=λc hc=>I1.fpOk hc (I1.hok.fresh hc);show _∧_;rw[y1];refine⟨⟨_,e5,rfl⟩,wpAny_pyIter_enum e5 ?_⟩;refine⟨_,_,_,_,H1,rfl,I2,YS t _ _ (Cy (CT _)),⟨⟨_,e5⟩,e1⟩,λc hc=>fp c ?_,q⟩;simp only[As,AK,or_false] at hc;rcases hc with rfl | rfl
 · exact Dr _
 · exact Af _
theorem Sg{K:Ad}{a p:Addr}{xs:List V}{g:TG}{tc:TT}{te:TE}{Q:VK}{js:IC}(Pv:Nat→St→List V→Hp→Prop)(h0:Pv 0 (Jf js σ) [] (HD H p (.lst [])))
 (hl:∀i σ ys H,i≤xs.length→Pv i σ ys H→SqL K H a xs∧H p=some (.lst ys)∧ys.length<Aw)
 (hs:∀(i:Nat)x q σ ys H(N:St→List V→Hp→Prop),xs[i]?=some x→H q=none→Pv i σ ys H→(∀σ' ys' H',Pv (i+1) σ' ys' H'→N σ' ys' H')→Lj p g tc te ys (.ref q) σ (HD H q (.tup [.int i,x])) N)
 (hd:∀σ ys H,Pv xs.length σ ys H→Q (.ref p) H):JU (Nn K a) p js g tc te σ H Q:=
 LA (n:=xs.length) (J:=Nn K a) (js:=js) (σ:=σ) (H:=H) (p:=p) (Q:=Q) (g:=g) (tc:=tc) (te:=te) Pv h0 (λi σ ys H hi pv=>(hl i σ ys H hi pv).2)
  (λi σ ys H hi pv=>⟨xs,xs[i],(hl i σ ys H (Bo hi) pv).1,by simp[hi]⟩) (λσ ys H pv=>⟨xs,(hl _ σ ys H (Af _) pv).1,Af _⟩)
  (λi x σ ys H H' N hi y pv hN=>by
   obtain⟨q,e,hq,y⟩:=y;subst e;have hx:xs[i]?=some xs[i]:=by simp[hi]
   rw[y xs xs[i] (hl i σ ys _ (Bo hi) pv).1 hx];exact hs i _ q σ ys _ N hx hq pv hN) hd
section
variable{te:TE}{p2 p3 p4:Pos}
def Qc(K:Ad)(te:TE):TE:=λσ H Q=>te σ H λx H1=>∃a xs,x= .ref a∧SqL K H1 a xs∧∀p,H1 p=none→Q (.ref p) (HD H1 p (.lst xs.reverse))
theorem Vals.rev:∀{xs:List V}{us:List Value},Vals xs us→Vals xs.reverse us.reverse
 | _,_,.nil=> .nil
 | _,_,.cons r t=>by rw[Dc,Dc];exact(Vals.rev t).append (.cons r .nil)
theorem Vz(he:PE X e te):PE X (.Subscript e (.Slice none none (some (.UnaryOp .USub (.Constant (.int 1) n p3) p4)) p2) pos) (Qc X.K te):=by
 intro pins s σ H Q I h;refine Subscript_ (HJ (he pins s σ H _ I h) λv s1 ⟨x,H1,I1,r1,a,xs,hx,hq,q1⟩=>?_);subst hx;cases r1;refine wpAny_Slice ?_;rw[evalPart_none,evalPart_some];refine Ac (Ac ?_);have hst:PE X (.UnaryOp .USub (.Constant (.int 1) n p3) p4) _:=Om O7 HF;refine HJ (hst pins s1 σ H1 (λv H2=>v= .int (-1)∧H2=H1) I1 ⟨1,rfl,rfl,rfl⟩) λvs s2 ⟨y,H2,I2,r2,e2,e3⟩=>?_;subst e2 e3;obtain⟨t,rfl⟩:=r2;have I4:Inv X pins σ H2 {s2 with heap:=s2.heap.push {cls:= .type "slice",data:= .fields #[.none,.none,.int (-1) t]}}:=I2.kept (t':=s2.toks) λb ob q=>Ae _ q
 obtain⟨its,r,ht,hz⟩:=I4.list hq;have hlen:=r.length;have hg:wpAny (model X.prog X.w) X.A (getItem (.ref a) (.ref s2.heap.objs.size)) (EP X pins σ Q) X.xe {s2 with heap:=s2.heap.push {cls:= .type "slice",data:= .fields #[.none,.none,.int (-1) t]}}:=by refine ER ht.isList (Heap.IsSliceOf.new ..) .none .none (.int (-1) t) (by decide) ?_ (by rw[Al]<;>omega);rw[PySem.W.krv_pick];refine⟨.ref _,_,I4.laid (t':=s2.toks) (o:= .lst xs.reverse) (λb ob q=>Ae _ q) (Af _) ?_,rfl,q1 _ (I4.hok.fresh (Af _))⟩;exact⟨by rw[Ep];exact hz,_,0,Vals.rev r,Au _ rfl⟩
 show wpAny (model X.prog X.w) X.A (subscriptTail e (.Slice none none (some (.UnaryOp .USub (.Constant (.int 1) n p3) p4)) p2) (.ref a) (.ref s2.heap.objs.size)) (EP X pins σ Q) X.xe {s2 with heap:=s2.heap.push {cls:= .type "slice",data:= .fields #[.none,.none,.int (-1) t]}}
 exact tail_any (ops:=_) ht.isList.typeIs EF.lookup hg (by with_unfolding_all rfl)
end
def Qa(ns:List Int):Nat:=(ns.foldl step_dedup []).length
section
variable{te:TE}{p2 p3 p4:Pos}
end
end L2
namespace WB
def Web(W:List Int):Prop:=W.length≤23∧∀(i:Nat)(x:Int),W[i]?=some x→0≤x∧x≤(i:Int)
def Post(W:List Int)(p:Int):Prop:=0≤p∧p≤(W.length:Int)
def par(W:List Int)(p:Int):Int:=W.getD (p - 1).toNat 0
theorem par_at{W:List Int}{p:Int}(h:Post W p)(h0:0<p):W[(p - 1).toNat]?=some (par W p):=by
 obtain⟨h1,h2⟩:=h;have:(p - 1).toNat<W.length:=by omega
 unfold par;rw[A7,Ay this];rfl
theorem par_lt{W:List Int}{p:Int}(w:Web W)(h:Post W p)(h0:0<p):0≤par W p∧par W p<p:=by have:=w.2 _ _ (par_at h h0);omega
theorem par_post{W:List Int}{p:Int}(w:Web W)(h:Post W p)(h0:0<p):Post W (par W p):=by have:=par_lt w h h0;obtain⟨h1,h2⟩:=h;exact⟨this.1,by omega⟩
def back(W:List Int):Nat→Int→List Int
 | 0,p=>[p]
 | f+1,p=>if 0<p then p::back W f (par W p) else [p]
def bk(W:List Int)(p:Int):List Int:=back W p.toNat p
theorem T5{W:List Int}(w:Web W):∀(f g:Nat)(p:Int),Post W p→p.toNat≤f→p.toNat≤g→back W f p=back W g p
 | 0,0,p,_,_,_=>rfl
 | 0,g+1,p,h,h1,_=>by
  have:¬ 0<p:=by omega
  unfold back;rw[if_neg this]
 | f+1,0,p,h,_,h1=>by
  have:¬ 0<p:=by omega
  unfold back;rw[if_neg this]
 | f+1,g+1,p,h,h1,h2=>by
  unfold back;by_cases h0:0<p
  · rw[if_pos h0,if_pos h0];have:=par_lt w h h0;rw[T5 w f g _ (par_post w h h0) (by omega) (by omega)]
  · rw[if_neg h0,if_neg h0]
theorem bk_pos{W:List Int}{p:Int}(w:Web W)(h:Post W p)(h0:0<p):bk W p=p::bk W (par W p):=by
 unfold bk;obtain⟨n,hn⟩:∃n,p.toNat=n+1:=⟨p.toNat - 1,by omega⟩;rw[hn];have:=par_lt w h h0;show(if 0<p then p::back W n (par W p) else [p])=_
 rw[if_pos h0,T5 w n (par W p).toNat _ (par_post w h h0) (by omega) (Af _)]
theorem bk_zero(W:List Int):bk W 0=[0]:=rfl
theorem M9{W:List Int}(w:Web W){P:Int→Prop}(h0:P 0)(hs:∀p,Post W p→0<p→P (par W p)→P p):∀p,Post W p→P p:=by
 have:∀(n:Nat)(p:Int),p.toNat≤n→Post W p→P p:=by
  intro n
  induction n with
  | zero=>
   intro p hn hp;have:p=0:=by have:=hp.1;omega
   subst this;exact h0
  | succ n ih=>
   intro p hn hp;by_cases hp0:0<p
   · have:=par_lt w hp hp0;exact hs p hp hp0 (ih _ (by omega) (par_post w hp hp0))
   · have:p=0:=by have:=hp.1;omega
     subst this;exact h0
 exact λp hp=>this _ p (Af _) hp
theorem bk_cons{W:List Int}(w:Web W){p:Int}(h:Post W p):∃t,bk W p=p::t:=by
 by_cases h0:0<p
 · exact⟨_,bk_pos w h h0⟩
 · have:p=0:=by have:=h.1;omega
   subst this;exact⟨_,bk_zero W⟩
theorem L8{W:List Int}(w:Web W):∀p,Post W p→∀x∈bk W p,Post W x∧x≤p∧∃pre,bk W p=pre++bk W x:=by
 refine M9 w ?_ ?_
 · intro x hx;rw[bk_zero] at hx;simp at hx;subst hx;exact⟨⟨by decide,by omega⟩,by decide,[],rfl⟩
 · intro p hp h0 ih x hx;have e:=bk_pos w hp h0;rw[e] at hx;rcases As.mp hx with rfl | hx
   · exact⟨hp,Int.le_refl _,[],rfl⟩
   · obtain⟨a,b,pre,c⟩:=ih x hx;have:=par_lt w hp h0;exact⟨a,by omega,p::pre,by rw[e,c];rfl⟩
theorem WA{W:List Int}(w:Web W):∀p,Post W p→(0:Int)∈bk W p:=by
 refine M9 w ?_ ?_
 · rw[bk_zero];simp
 · intro p hp h0 ih;rw[bk_pos w hp h0];exact Ai _ ih
theorem Rp{W:List Int}(w:Web W):∀p,Post W p→(bk W p).Pairwise (· > ·):=by
 refine M9 w ?_ ?_
 · rw[bk_zero];simp
 · intro p hp h0 ih;rw[bk_pos w hp h0];refine List.pairwise_cons.mpr ⟨λx hx=>?_,ih⟩;have:=(L8 w _ (par_post w hp h0) x hx).2.1;have:=par_lt w hp h0;omega
theorem Y2{l:List Int}(h:l.Pairwise (· > ·)):l.Nodup:=h.imp (λa=>by omega)
theorem NF{W:List Int}(w:Web W){p:Int}(h:Post W p):(bk W p).Nodup:=Y2 (Rp w p h)
theorem Sn:∀(l:List Int)(m:Int),l.Pairwise (· > ·)→(∀x∈l,0≤x∧x≤m)→(l.length:Int)≤m+1∨l=[]
 | [],m,_,_=> .inr rfl
 | x::l,m,h,hm=>by
  rw[E3] at h;have hx:=hm x (Ah ..)
  left
  rcases Sn l (x - 1) h.2 (λy hy=>⟨(hm y (Ai _ hy)).1,by have:=h.1 y hy;omega⟩) with z | z
  · rw[A8];omega
  · subst z;simp;omega
theorem bk_len{W:List Int}(w:Web W){p:Int}(h:Post W p):(bk W p).length≤24:=by
 have:=Sn _ p (Rp w p h) (λx hx=>⟨(L8 w p h x hx).1.1,(L8 w p h x hx).2.1⟩);have h2:=h.2;have h3:=w.1;rcases this with z | z
 · omega
 · rw[z];simp
structure Split(W:List Int)(p q c:Int)(a b:List Int):Prop where
 pc:Post W c
 ea:bk W p=a++bk W c
 eb:bk W q=b++bk W c
 na:∀x∈a,x ∉ bk W q
 nb:∀x∈b,x ∉ bk W p
theorem split{W:List Int}(w:Web W){q:Int}(hq:Post W q):∀p,Post W p→∃c a b,Split W p q c a b:=by
 have Od:∀p,Post W p→p∈bk W q→∃c a b,Split W p q c a b:=by intro p hp hm;obtain⟨_,_,pre,e⟩:=L8 w q hq p hm;refine⟨p,[],pre,hp,rfl,e,λx hx=>by simp at hx,λx hx hx2=>?_⟩;have nd:=NF w hq;rw[e,Ck] at nd;exact nd.2.2 x hx x hx2 rfl
 refine M9 w ?_ ?_
 · exact Od 0 ⟨by decide,by omega⟩ (WA w q hq)
 · intro p hp h0 ih;by_cases hm:p∈bk W q
   · exact Od p hp hm
   · obtain⟨c,a,b,s⟩:=ih;have e:=bk_pos w hp h0;refine⟨c,p::a,b,s.pc,by rw[e,s.ea];rfl,s.eb,λx hx=>?_,λx hx hx2=>?_⟩
     · rcases As.mp hx with rfl | hx
       · exact hm
       · exact s.na x hx
     · rw[e] at hx2;rcases As.mp hx2 with rfl | hx2
       · exact hm (by rw[s.eb];exact AF _ hx)
       · exact s.nb x hx hx2
theorem Split.flip{W:List Int}{p q c:Int}{a b:List Int}(s:Split W p q c a b):Split W q p c b a:=⟨s.pc,s.eb,s.ea,s.nb,s.na⟩
def off(B:List Int)(x:Int):Bool:=!B.any (λy=>y==x)
theorem off_iff{B:List Int}{x:Int}:off B x=true↔x ∉ B:=by
 unfold off;rw[De,←EW,Cq];constructor
 · intro h hx;exact h ⟨x,hx,by simp⟩
 · rintro h ⟨y,hy,e⟩;have:=eq_of_beq e;subst this;exact h hy
theorem Split.ahead{W:List Int}{p q c:Int}{a b:List Int}(s:Split W p q c a b):(bk W p).filter (off (bk W q))=a:=by rw[s.ea,Bi];have h1:a.filter (off (bk W q))=a:=List.filter_eq_self.mpr λx hx=>off_iff.mpr (s.na x hx);have h2:(bk W c).filter (off (bk W q))=[]:=List.filter_eq_nil_iff.mpr λx hx z=>off_iff.mp z (by rw[s.eb];exact Ag _ hx);rw[h1,h2,Cz]
def wayB(W:List Int)(p q:Int):List Int:=
 (bk W p).filter (off (bk W q))++[(bk W p).getD ((bk W p).filter (off (bk W q))).length 0]++((bk W q).filter (off (bk W p))).reverse
theorem Split.turn{W:List Int}(w:Web W){p q c:Int}{a b:List Int}(s:Split W p q c a b):(bk W p)[a.length]?=some c:=by obtain⟨t,e⟩:=bk_cons w s.pc;rw[s.ea,Cn (Af _),Nat.sub_self,e];rfl
theorem Split.way{W:List Int}(w:Web W){p q c:Int}{a b:List Int}(s:Split W p q c a b):wayB W p q=a++c::b.reverse:=by unfold wayB;rw[s.ahead,s.flip.ahead,A7,s.turn w];simp
theorem Sq{W:List Int}(w:Web W){p q:Int}(hp:Post W p)(hq:Post W q):wayB W q p=(wayB W p q).reverse:=by obtain⟨c,a,b,s⟩:=split w hq p hp;rw[s.way w,s.flip.way w];simp
def Adj(W:List Int)(x y:Int):Prop:=0<max x y∧W[(max x y - 1).toNat]?=some (min x y)
theorem Adj.symm{W:List Int}{x y:Int}(h:Adj W x y):Adj W y x:=by unfold Adj at*;rw[Int.max_comm,Int.min_comm];exact h
theorem OA{W:List Int}(w:Web W){p:Int}(h:Post W p)(h0:0<p):Adj W p (par W p):=by have:=par_lt w h h0;unfold Adj;rw[Fl (by omega),Int.min_eq_right (by omega)];exact⟨h0,par_at h h0⟩
def Adjs(W:List Int):List Int→Prop
 | []=>True
 | [_]=>True
 | x::y::r=>Adj W x y∧Adjs W (y::r)
theorem RL{W:List Int}(w:Web W):∀p,Post W p→Adjs W (bk W p):=by
 refine M9 w ?_ ?_
 · rw[bk_zero];exact trivial
 · intro p hp h0 ih;rw[bk_pos w hp h0];obtain⟨t,e⟩:=bk_cons w (par_post w hp h0);rw[e] at ih ⊢;exact⟨OA w hp h0,ih⟩
theorem Adjs.left{W:List Int}:∀(a:List Int){c:Int}{t:List Int},Adjs W (a++c::t)→Adjs W (a++[c])
 | [],c,t,_=>trivial
 | [x],c,t,h=>⟨h.1,trivial⟩
 | x::y::r,c,t,h=>⟨h.1,Adjs.left (y::r) h.2⟩
theorem Adjs.join{W:List Int}:∀(a:List Int){c:Int}{b:List Int},Adjs W (a++[c])→Adjs W (c::b)→Adjs W (a++c::b)
 | [],c,b,_,h=>h
 | [x],c,b,h,h2=>⟨h.1,h2⟩
 | x::y::r,c,b,h,h2=>⟨h.1,Adjs.join (y::r) h.2 h2⟩
theorem Adjs.rev{W:List Int}:∀(l:List Int),Adjs W l→Adjs W l.reverse
 | [],_=>trivial
 | [x],_=>trivial
 | x::y::r,h=>by have ih:=Adjs.rev (y::r) h.2;rw[Dc] at ih;rw[Dc,Dc,BV];exact Adjs.join _ ih ⟨h.1.symm,trivial⟩
structure IsWay(W:List Int)(l:List Int)(p q:Int):Prop where
 first:l[0]?=some p
 last:l[l.length - 1]?=some q
 nd:l.Nodup
 posts:∀x∈l,Post W x
 adj:Adjs W l
 len:l.length≤60
theorem Pt{W:List Int}(w:Web W){p q:Int}(hp:Post W p)(hq:Post W q):∃t,wayB W p q=p::t:=by
 obtain⟨c,a,b,s⟩:=split w hq p hp;obtain⟨t,e⟩:=bk_cons w s.pc;obtain⟨t',e'⟩:=bk_cons w hp;rw[s.way w];have:=s.ea;rw[e,e'] at this;cases a with
 | nil=>injection this with h1 h2;exact⟨b.reverse,by rw[h1];rfl⟩
 | cons x a=>injection this with h1 h2;exact⟨a++c::b.reverse,by rw[h1];rfl⟩
theorem W0{W:List Int}(w:Web W){p q:Int}(hp:Post W p)(hq:Post W q):IsWay W (wayB W p q) p q:=by
 have r:=Sq w hp hq;obtain⟨t1,f1⟩:=Pt w hp hq;obtain⟨t2,f2⟩:=Pt w hq hp;obtain⟨c,a,b,s⟩:=split w hq p hp
 have e:=s.way w;have ea:=s.ea;have eb:=s.eb;obtain⟨t,ec⟩:=bk_cons w s.pc;have nA:=NF w hp;have nB:=NF w hq;have aA:=RL w p hp;have aB:=RL w q hq;have mA:∀x∈a++[c],x∈bk W p:=λx hx=>by
  rw[ea,ec];rcases AD.mp hx with z | z
  · exact AF _ z
  · exact Ag _ (by rw[Ax.mp z];exact Ah ..)
 have lA:=bk_len w hp;have lB:=bk_len w hq;refine⟨by rw[f1];rfl,?_,?_,?_,?_,?_⟩
 · have:(wayB W p q).reverse[0]?=some q:=by rw[←r,f2];rfl
   rw[List.getElem?_reverse (by rw[f1];simp)] at this;rw[←this,EX]
 · rw[e];rw[ea,ec] at nA;rw[eb,ec] at nB;rw[Ck] at nA nB ⊢;refine⟨nA.1,?_,?_⟩
   · rw[BC];refine⟨λz=>nB.2.2 c (by simpa using z) c (Ah ..) rfl,?_⟩;exact List.pairwise_reverse.mpr (nB.1.imp λh z=>h z.symm)
   · intro x hx y hy z;subst z;rcases As.mp hy with z | z
     · exact nA.2.2 x hx c (Ah ..) z
     · exact s.na x hx (by rw[eb];exact AF _ (by simpa using z))
 · intro x hx;rw[e] at hx;rcases AD.mp hx with z | z
   · exact(L8 w p hp x (by rw[ea];exact AF _ z)).1
   · rcases As.mp z with z | z
     · rw[z];exact s.pc
     · exact(L8 w q hq x (by rw[eb];exact AF _ (by simpa using z))).1
 · rw[e];rw[ea,ec] at aA;rw[eb,ec] at aB;refine Adjs.join a (aA.left a) ?_;have:=Adjs.rev _ (aB.left b);simpa using this
 · rw[e];have l1:a.length+(bk W c).length=(bk W p).length:=by rw[ea,Az]
   have l2:b.length+(bk W c).length=(bk W q).length:=by rw[eb,Az]
   rw[Az,A8,Ep];omega
end WB
namespace L2
def QY(i j:Int):Prop:=i.natAbs<2^1000∧j.natAbs<2^1000
theorem Mc:Iv X (binaryOp .Mult) (rI QY λi j=> .int (i*j)):=MQ λi j _ _ _ _ _ hc q=> mul_int q (IntMulOk.of_bits (A2 (intBits_le hc.1) (by decide)) (A2 (intBits_le hc.2) (by decide)))
theorem Vv(K:Ad)(h:X.K=K):Iv X (AY .In) (Mo K false):=by subst h;exact TN
theorem Um(K:Ad)(h:X.K=K):Iv X (AY .NotIn) (Mo K true):=by subst h;exact NU
theorem UI(K:Ad)(h:X.K=K):JA X (.builtin "len") (λxs H Q=>∃p ys,xs=[.ref p]∧(SqL K H p ys∨SqT K H p ys)∧Q (.int ys.length) H):=by subst h;exact IN
theorem Wg(K:Ad)(h:X.K=K)(hr:J4 X):Iv X (AY .NotEq) (LM K):=by subst h;exact Nv hr
section
variable{K:Ad}{Q:VK}
theorem OX:∀ns:List Int,(ns.map V.int).all Kx=true
 | []=>rfl
 | n::ns=>by rw[Am,C6,OX ns];rfl
theorem OQ(x:Int):∀ns:List Int,Mp (.int x) (ns.map V.int)=ns.any (λy=>y==x)
 | []=>rfl
 | n::ns=>by have:=OQ x ns;unfold Mp at*;rw[Am,Co,Co,this];rfl
theorem Sd{p:Addr}{x:Int}{ns:List Int}(h:SqL K H p (ns.map V.int))(q:Q (.bl (ns.any (λy=>y==x))) H):Mo K false (.int x) (.ref p) H Q:=
 ⟨p,_,rfl,.inl h,rfl,OX ns,by rw[OQ];exact q⟩
theorem NP{p:Addr}{x:Int}{ns:List Int}(h:SqL K H p (ns.map V.int))(q:Q (.bl (!ns.any (λy=>y==x))) H):Mo K true (.int x) (.ref p) H Q:=
 ⟨p,_,rfl,.inl h,rfl,OX ns,by rw[OQ];exact q⟩
end
def WebAt(H:Hp)(a:Addr)(W:List Int):Prop:=H a=some (.lst (W.map V.int))∧WB.Web W
theorem WebAt.same{H':Hp}{W:List Int}(h:WebAt H a W)(s:Same H H'):WebAt H' a W:=⟨s _ _ h.1,h.2⟩
def Sv:Sp:=λvs H Q _=>∃(a:Addr)(W:List Int),vs=[.ref a]∧WebAt H a W∧∀H',Same H H'→Q (.bl true) H'
def SS:Sp:=λvs H Q _=>∃(a:Addr)(W:List Int),vs=[.ref a]∧WebAt H a W∧∀H',Same H H'→Q .non H'
def SU:Sp:=λvs H Q _=>∃(a:Addr)(W:List Int)(p:Int),vs=[.ref a,.int p]∧WebAt H a W∧WB.Post W p∧Q (.bl true) H
def Uc:Sp:=λvs H Q _=>∃(a:Addr)(W:List Int)(p:Int),vs=[.ref a,.int p]∧WebAt H a W∧WB.Post W p∧∀l H',Same H H'→H l=none→H' l=some (.lst ((WB.bk W p).map V.int))→Q (.ref l) H'
def Ra:Sp:=λvs H Q _=>∃(a:Addr)(W:List Int)(p q:Int),vs=[.ref a,.int p,.int q]∧WebAt H a W∧WB.Post W p∧WB.Post W q∧∀l H',Same H H'→H l=none→H' l=some (.lst ((WB.wayB W p q).map V.int))→Q (.ref l) H'
theorem W9(pre:List Int)(x:Int):IL ((pre++[x]).map V.int) (-1)=some (.int x):=by
 unfold IL K6;rw[if_neg (by decide),if_pos (by rw[Ab,Az,CH];omega)];show((pre++[x]).map V.int)[(-1+(((pre++[x]).map V.int).length:Int)).toNat]?=_;have:(-1+(((pre++[x]).map V.int).length:Int)).toNat=pre.length:=by rw[Ab,Az,CH];omega
 rw[this,Aj,Cn (Af _),Nat.sub_self];rfl
theorem RQ{H':Hp}{l:Addr}(s:Same H H')(h:H' l=none):H l=none:=by
 cases hz:H l with
 | none=>rfl
 | some o=>rw[s _ _ hz] at h;cases h
theorem nb{i:Int}(h0:0≤i)(h1:i<2^400):i.natAbs<2^1000:=by
 have:i.natAbs<2^400:=by omega
 exact AB this (by decide)
def Nr(K:Ad):Sp:=λvs H Q _=>∃(a:Addr)(ns:List Int),vs=[.ref a]∧SqL K H a (ns.map V.int)∧ns.length≤63∧∀H',Q (.bl true) H'
theorem mx(i j:Int):(if j>i then j else i)=max i j:=by rw[Int.max_def];split<;>split<;>omega
def Tups(H H':Hp):Prop:=∀a xs,H a=some (.tup xs)→H' a=some (.tup xs)
theorem Tups.trans{H1 H2:Hp}(a:Tups H H1)(b:Tups H1 H2):Tups H H2:=λc xs h=>b c xs (a c xs h)
theorem Same.tups{H':Hp}(s:Same H H'):Tups H H':=λa xs h=>s _ _ h
theorem NI{p:Addr}{ys:List V}{o:HO}(h:H p=some (.lst ys)):Tups H (HD H p o):=λa xs e=>by rw[HV (Mt e h (by intro z;cases z))];exact e
theorem Jh{H0:Hp}{p:Addr}{o:HO}(s:Same H0 H)(n:H0 p=none):Same H0 (HD H p o):=λa u e=>by rw[HV (IT e n)];exact s _ _ e
theorem SE:∀{ts:List Str}{us:List Value},Vals (ts.map V.str) us→∃l:List (Str×Tok),strValues l=us∧l.map (·.1)=ts
 | [],_,h=>by cases h;exact⟨[],rfl,rfl⟩
 | x::ts,_,h=>by
  rw[Am] at h;cases h with
  | cons r h=> obtain⟨t,rfl⟩:=r;obtain⟨l,h1,h2⟩:=SE h;exact⟨(x,t)::l,by rw[←h1];rfl,by rw[←h2];rfl⟩
theorem U3:∀{ts:List Str}{us:List Value},Vals (ts.map V.str) us→StrsAre us ts
 | [],_,h=>by cases h;exact .nil
 | x::ts,_,h=>by
  rw[Am] at h;cases h with
  | cons r h=> obtain⟨t,rfl⟩:=r;exact .cons _ _ (U3 h)
theorem U9:∀{us:List Value}{ts:List Str},StrsAre us ts→Vals (ts.map V.str) us
 | _,_,.nil=> .nil
 | _,_,.cons n t h=> .cons ⟨t,rfl⟩ (U9 h)
def VT(K:Ad):V→List V→Hp→VK→Prop:=λx vs H Q=>∃(y:Str)(a:Addr)(ts:List Str),x= .str y∧vs=[.ref a]∧SqL K H a (ts.map V.str)∧JoinOk y ts=true∧Q (.str (Txt.join y ts)) H
theorem Wc:QJ X "str.join" (VT X.K):=by intro pins s σ H x vs v us Q I rx rv h;obtain⟨y,a,ts,rfl,rfl,hq,hok,q⟩:=h;obtain⟨t,rfl⟩:=rx;obtain⟨u,rfl,ru⟩:=rv.one;cases ru;obtain⟨its,r,ht,hz⟩:=I.list hq;obtain⟨l,rfl,rfl⟩:=SE r;unfold JoinOk at hok;rw[De] at hok;refine call_meets F.slot_str_join (typeIs_str _ _ _) F.entry_str_join (F.args_str_join_2 _ _) (meets_str_join_list y t a l hok) ⟨ht.isList,post_join l ⟨joinFit_length hok,λt' k=>?_⟩⟩;exact⟨.str _,H,I.kept (t':=k) λb o e=>e,⟨t',rfl⟩,q⟩
def V5(K:Ad):List V→Hp→VK→Prop:=λxs H Q=>∃(a:Addr)(ns:List Str),xs=[.ref a]∧SqL K H a (ns.map V.str)∧ns.length<64∧
 ∀(p:Addr)(ms:List Str),ms.Perm ns→sortedS ms=true→H p=none→Q (.ref p) (HD H p (.lst (ms.map V.str)))
theorem Zr:JA X (.builtin "sorted") (V5 X.K):=by
 intro pins s σ H xs us Q I r h;obtain⟨a,ns,rfl,hq,h64,q⟩:=h;obtain⟨u,rfl,rx⟩:=JT r;cases rx;obtain⟨its,rv,ht,hz⟩:=I.list hq;have hl:=rv.length;rw[Ab] at hl;refine sorted_strs ht.isList (U3 rv) (by omega) λout ns' a1 a2 a3=>?_;obtain⟨e,he⟩:=sortedAll_at s.heap its out;have hn:H (s.heap.objs.size+1)=none:=I.hok.fresh (Dr _);have hlen:ns'.length=ns.length:=a2.length_eq;refine⟨.ref (s.heap.objs.size+1),HD H (s.heap.objs.size+1) (.lst (ns'.map V.str)),I.laid (t':=s.toks) (λb o e=>sortedAll_old e) (Dr _) ?_,rfl,q _ ns' a2 a3 hn⟩;have hz':ns.length≤Aw:=by rw[Ab] at hz;exact hz
 exact⟨by rw[Ab];omega,out.toList,e,U9 a1,by simpa [Be] using he⟩
def IU(w:World):Bool:=w.params.followText "set-order"
theorem Ww(k:Str)(t:Tok):(strKind prog w).is k (.str k t)=true:=by show DT k (.str k t)=true;simp[DT]
theorem RT(h:Heap)(a:Addr)(es es':Array (Int×Value))(ep:Nat)(t t':AV)(ho:h.get? a=some {cls:= .type "set",dict:=none,data:= .set es ep t}):
 (h.update a (Obj.putSet es' t')).get? a=some {cls:= .type "set",dict:=none,data:= .set es' (ep+1) t'}:=by
 have:=Dh (Obj.putSet es' t') ho (by rw[putSet_of es' t' (o:={cls:= .type "set",dict:=none,data:= .set es ep t}) rfl];rfl);rw[putSet_of es' t' (o:={cls:= .type "set",dict:=none,data:= .set es ep t}) rfl] at this;exact this
section
variable{R:Result→Shared→Prop}{I:Addr}{fp wr:List Addr}{G:Array GenState→Array GenState→Prop}{P:Nat→Value→Prop}{St:Nat→Shared→Prop}
end
theorem Za(a:Value){Q₁:Value→Shared→Prop}
 (h:Q₁ (.ref s.heap.objs.size) {s with heap:=s.heap.push {cls:= .type "set",dict:=none,data:= .set #[] 0 (.fresh 0 0 (!IU w))}}):
 codeAny (model prog w) A (.call (.builtin "set.__new__") ⟨[.type "set",a],[]⟩) (wants Q₁ E) s:=by
 refine Eg ?_;show wpAny _ A.in1 (do checkBuiltinCall "set.__new__" ⟨[.type "set",a],[]⟩;again (.builtin "set.__new__" ⟨[.type "set",a],[]⟩)) _ _ s
 refine Aa (Fq (PySem.F.newCall_set_1 a) (Ac ⟨CJ FB _,BX PySem.F.entry_set_new ?_⟩));rw[BD FB _];unfold Builtin.«set.__new__» Builtin.Frozenset.newClass;have hsub:=sub_set_self;obtain⟨hp,g,d,tk,os⟩:=s;dsimp only
 wp_walk
 refine EY (Ac ?_);dsimp only;simp only[newObj];refine Aa (wpAny_alloc (Ac ?_));exact Ac h
namespace FS
end FS
namespace FS
end FS
section
variable{te:TE}{p2 p3 p4:Pos}
end
theorem ZS:typeLookup (.type "tuple") "keys"=pure none:=by rw[typeLookup_type,builtinLookup_eq_fast];kernel_rfl
set_option maxHeartbeats 4000000 in
theorem Lq{prog:AU}{w:World}{A:Bn}{E:Value→Shared→Prop}{a:Addr}{its:Array Value}{n:Nat}{sl:Array (Option Value)}{h:Heap}{g d t os}{Q:Option Value→Shared→Prop}
 (hh:A.handled=none) (hx:h.get? a=some {cls:= .type "tuple",dict:=none,data:= .seq its n,slots:=sl})
 (q:∀h' tk,(∀b o,h.get? b=some o→h'.get? b=some o)→Q none ⟨h',g,d,tk,os⟩):wpAny (model prog w) A (getAttr? (.ref a) "keys") Q E ⟨h,g,d,t,os⟩:=by
 have y0:∀tk',(⟨h,g,d,tk',os⟩:Shared).TypeIs (.ref a) "tuple":=λ_=>⟨_,hx,rfl⟩;have y1:=sub_AttributeError;have y2:=F.slot_tuple_getattribute.lookup;have y3:=F.slot_tuple_getattribute.bind (.ref a);have y4:=am_tuple_getattr_none;unfold getAttr? getAttrBy? getAttrBy
 repeat (any_goals (first
  | assumption
  | exact y0 _
  | ((with_reducible show wpAny _ _ (call (Value.builtin "tuple.__getattribute__") _ _) _ _ _)
     refine call_meets F.slot_tuple_getattribute (y0 _) am_entry_tuple_getattribute (F.args_tuple_getattribute_2 _ _) (meets_getattribute_miss_tuple a its n sl "keys" _ ZS (by decide+kernel)) ⟨hx,hh,λh' tk' e hx'=>?_⟩)
  | wp_step))
 obtain⟨t',u',he⟩:=hx'.there;show wpAny _ _ (getattributeRaised _ _ _ _ _ _ _) _ _ _;unfold getattributeRaised
 repeat (any_goals (first | assumption | wp_step))
 exact q _ _ hx'.keeps
namespace FS
end FS
section
variable{κ:Type}[DecidableEq κ]{knd:PySem.KeyKind prog w κ}
end
open PySem.W PyProof.Rows
namespace KS
def Je{α:Type}(lt:Nat→Nat→Bool)(n:Nat):KasT α→(α→Prop)→Prop
 | .ret a,Q=>Q a
 | .ask i j k,Q=>i<n∧j<n∧Je lt n (k (lt i j)) Q
variable{lt:Nat→Nat→Bool}{N:Nat}
theorem Mi{α β:Type}{f:α→KasT β}{Q:β→Prop}:∀(t:KasT α),Je lt N t (λa=>Je lt N (f a) Q)→Je lt N (t.bind f) Q
 | .ret _,h=>h
 | .ask _ _ k,⟨h1,h2,h⟩=>⟨h1,h2,Mi (k _) h⟩
theorem Kh{α:Type}{Q Q':α→Prop}(hq:∀a,Q a→Q' a):∀(t:KasT α),Je lt N t Q→Je lt N t Q'
 | .ret a,h=>hq a h
 | .ask _ _ k,⟨h1,h2,h⟩=>⟨h1,h2,Kh hq (k _) h⟩
structure Ord(lt:Nat→Nat→Bool):Prop where
 as:∀a b,lt a b=true→lt b a=false
 tr:∀a b c,lt b a=false→lt c b=false→lt c a=false
theorem Ord.rfl'(O:Ord lt)(a:Nat):lt a a=false:=by
 cases h:lt a a with
 | false=>rfl
 | true=>exact(O.as a a h).symm.trans h ▸ rfl
abbrev K(p:Array Nat)(i:Nat):Nat:=p.getD i 0
structure Ok(N:Nat)(p:Array Nat):Prop where
 perm:p.toList.Perm (AI N)
theorem Ok.size{p:Array Nat}(h:Ok N p):p.size=N:=by have:=h.perm.length_eq;simpa using this
theorem Ok.below{p:Array Nat}(h:Ok N p)(hi:i<N):K p i<N:=by
 have hs:i<p.size:=by rw[h.size];exact hi
 have:p.getD i 0=p[i]:=by simp[Array.getD,hs]
 show p.getD i 0<N;rw[this];have m:p[i]∈p.toList:=by simp
 exact BJ.mp (h.perm.mem_iff.mp m)
theorem Ok.of_perm{p q:Array Nat}(h:Ok N p)(e:q.Perm p):Ok N q:=⟨(Array.perm_iff_toList_perm.mp e).trans h.perm⟩
theorem Ok.rev{p:Array Nat}(h:Ok N p)(i j:Nat):Ok N (kas_rev p i j):=h.of_perm (mirror_perm _ _ _ _)
theorem Ok.bub{p:Array Nat}(h:Ok N p)(i j:Nat):Ok N (bubble p i j):=h.of_perm (bubble_perm _ _ _)
theorem Kt{p q:Array Nat}{j:Nat}(h:p[i]?=q[j]?):K p i=K q j:=by show p.getD i 0=q.getD j 0;rw[BP,BP,h]
theorem On{p:Array Nat}(h:Ok N p){j:Nat}(hj:j≤N)(k:Nat):K (kas_rev p i j) k=if i≤k∧k<j then K p (i+j - 1 - k) else K p k:=by
 have e:=getElem?_mirror_all (xs:=p) (i:=i) (j:=j) (by rw[h.size];exact hj) k
 split
 · rename_i c;rw[if_pos c] at e;exact Kt e
 · rename_i c;rw[if_neg c] at e;exact Kt e
theorem QT{p:Array Nat}(h:Ok N p){k l:Nat}(hk:k<N)(hl:l≤k)(i:Nat):K (bubble p k (k - l)) i=if i=l then K p k else if l<i∧i≤k then K p (i - 1) else K p i:=by
 have e:=getElem?_bubble (xs:=p) (src:=k) (by rw[h.size];exact hk) (k - l) (by omega) i;have e1:k - (k - l)=l:=by omega
 rw[e1] at e
 split
 · rename_i c;rw[if_pos c] at e;exact Kt e
 · rename_i c;rw[if_neg c] at e
   split
   · rename_i d;rw[if_pos d] at e;exact Kt e
   · rename_i d;rw[if_neg d] at e;exact Kt e
def Srt(lt:Nat→Nat→Bool)(p:Array Nat)(m:Nat):Prop:=∀i j,i<j→j<m→lt (K p j) (K p i)=false
def Dsc(lt:Nat→Nat→Bool)(p:Array Nat)(m:Nat):Prop:=∀i j,i<j→j<m→lt (K p i) (K p j)=false
def Eqv(lt:Nat→Nat→Bool)(a b:Nat):Prop:=lt a b=false∧lt b a=false
theorem Eqv.symm{a b:Nat}(h:Eqv lt a b):Eqv lt b a:=⟨h.2,h.1⟩
theorem Ord.refl(O:Ord lt)(a:Nat):Eqv lt a a:=⟨O.rfl' a,O.rfl' a⟩
theorem Ord.eqv_trans(O:Ord lt){a b c:Nat}(h:Eqv lt a b)(h':Eqv lt b c):Eqv lt a c:=⟨O.tr c b a h'.1 h.1,O.tr a b c h.2 h'.2⟩
theorem Ord.via(O:Ord lt){a b a' b':Nat}(h1:Eqv lt a a')(h2:Eqv lt b b')(h:lt a' b'=false):lt a b=false:=
 O.tr b b' a h2.symm.1 (O.tr b' a' a h h1.1)
theorem Ox(O:Ord lt){p:Array Nat}(h:Ok N p):∀(f n:Nat),1≤n→n+f≤N→Srt lt p n→
 Je lt N (kas_asc p f n) (λm=>n≤m∧m≤n+f∧Srt lt p m∧(m<n+f→lt (K p m) (K p (m - 1))=true))
 | 0,n,_,_,s=>⟨Af _,Af _,s,λz=>absurd z (by omega)⟩
 | f+1,n,h1,h2,s=>by
  refine⟨h.below (by omega),h.below (by omega),?_⟩;cases c:lt (p.getD n 0) (p.getD (n - 1) 0) with
  | true=>exact⟨Af _,by omega,s,λ_=>c⟩
  | false=>
   show Je lt N (kas_asc p f (n+1)) _;refine Kh (λm hm=>?_) _ (Ox O h f (n+1) (by omega) (by omega) ?_)
   · obtain⟨a1,a2,a3,a4⟩:=hm;exact⟨by omega,by omega,a3,λz=>a4 (by omega)⟩
   · intro i j hij hj;by_cases hjn:j<n
     · exact s i j hij hjn
     · obtain rfl:j=n:=by omega
       by_cases hi:i=j - 1
       · subst hi;exact c
       · exact O.tr _ (K p (j - 1)) _ (s i (j - 1) (by omega) (by omega)) c
theorem OI(O:Ord lt){p:Array Nat}(h:Ok N p){j:Nat}(hj:j≤N)(he:∀k,i≤k→k<j→Eqv lt (K p k) (K p (j - 1)))(k:Nat):Eqv lt (K (kas_rev p i j) k) (K p k):=by
 rw[On h hj]
 split
 · rename_i c;exact O.eqv_trans (he _ (by omega) (by omega)) (he k c.1 c.2).symm
 · exact O.refl _
theorem Dsc.eqv(O:Ord lt){p q:Array Nat}{m:Nat}(h:Dsc lt p m)(e:∀k,Eqv lt (K q k) (K p k)):Dsc lt q m:=λi j hij hj=>O.via (e i) (e j) (h i j hij hj)
def QM(lt:Nat→Nat→Bool)(p:Array Nat)(m q:Nat):Prop:=∀i,m - (q+1)≤i→i<m→Eqv lt (K p i) (K p (m - 1))
theorem Dsc.snoc(O:Ord lt){p:Array Nat}(h1:1≤n)(s:Dsc lt p n)(c:lt (K p (n - 1)) (K p n)=false):Dsc lt p (n+1):=by
 intro i j hij hj;by_cases hjn:j<n
 · exact s i j hij hjn
 · obtain rfl:j=n:=by omega
   by_cases hi:i=j - 1
   · subst hi;exact c
   · exact O.tr _ (K p (j - 1)) _ c (s i (j - 1) (by omega) (by omega))
theorem Nz(O:Ord lt):∀(f:Nat)(p:Array Nat)(n q:Nat),Ok N p→q+1≤n→n+f≤N→Dsc lt p n→QM lt p n q→
 Je lt N (kas_desc f p n q) (λr=>Ok N r.1∧n≤r.2.1∧r.2.1≤n+f∧Dsc lt r.1 r.2.1∧QM lt r.1 r.2.1 r.2.2∧r.2.2+1≤r.2.1)
 | 0,p,n,q,h,h1,h2,s,e=>⟨h,Af _,Af _,s,e,h1⟩
 | f+1,p,n,q,h,h1,h2,s,e=>by
  refine⟨h.below (by omega),h.below (by omega),?_⟩;cases c:lt (p.getD n 0) (p.getD (n - 1) 0) with
  | true=>
   have c':lt (K p (n - 1)) (K p n)=false:=O.as _ _ c;have s':=s.snoc O (by omega) c';show Je lt N (if q>0 then kas_desc f (kas_rev p (n - (q+1)) n) (n+1) 0 else kas_desc f p (n+1) 0) _
   have t1:∀p',QM lt p' (n+1) 0:=λp' i hi1 hi2=>by
    obtain rfl:i=n:=by omega
    exact O.refl _
   split
   · refine Kh (λm hm=>?_) _ (Nz O f (kas_rev p (n - (q+1)) n) (n+1) 0 (h.rev _ _) (by omega) (by omega) (s'.eqv O (OI O h (by omega) e)) (t1 _));obtain⟨a1,a2,a3,a4⟩:=hm;exact⟨a1,by omega,by omega,a4⟩
   · refine Kh (λm hm=>?_) _ (Nz O f p (n+1) 0 h (by omega) (by omega) s' (t1 _));obtain⟨a1,a2,a3,a4⟩:=hm;exact⟨a1,by omega,by omega,a4⟩
  | false=>
   show Je lt N (KasT.ask (p.getD (n - 1) 0) (p.getD n 0) λd=>if d=true then KasT.ret (p,n,q) else kas_desc f p (n+1) (q+1)) _
   refine⟨h.below (by omega),h.below (by omega),?_⟩;cases d:lt (p.getD (n - 1) 0) (p.getD n 0) with
   | true=>exact⟨h,Af _,by show n≤n+(f+1);omega,s,e,h1⟩
   | false=>
    show Je lt N (kas_desc f p (n+1) (q+1)) _;refine Kh (λm hm=>?_) _ (Nz O f p (n+1) (q+1) h (by omega) (by omega) (s.snoc O (by omega) d) ?_)
    · obtain⟨a1,a2,a3,a4⟩:=hm;exact⟨a1,by omega,by omega,a4⟩
    · intro i hi1 hi2;have en:Eqv lt (K p (n - 1)) (K p n):=⟨d,c⟩;by_cases hin:i=n
      · subst hin;exact O.refl _
      · exact O.eqv_trans (e i (by omega) (by omega)) en
theorem SI(O:Ord lt){p:Array Nat}{nrem:Nat}(h:Ok N p)(h1:1≤n)(h2:n≤nrem)(h3:nrem≤N)(s:Dsc lt p n):
 Je lt N (kas_tail3 n nrem p) (λr=>Ok N r.2∧1≤r.1∧r.1≤nrem∧Srt lt r.2 r.1):=by
 unfold kas_tail3;refine Mi _ (Kh (λm hm=>?_) _ (Ox O (h.rev 0 n) (nrem - n) n h1 (by omega) ?_))
 · obtain⟨a1,a2,a3,_⟩:=hm;exact⟨h.rev 0 n,by show 1≤m;omega,by show m≤nrem;omega,a3⟩
 · intro i j hij hj;rw[On h (by omega),On h (by omega),if_pos (by omega),if_pos (by omega)];exact s _ _ (by omega) (by omega)
theorem Us(O:Ord lt){p:Array Nat}{nrem:Nat}(h:Ok N p)(h1:1≤n)(h2:n+1≤nrem)(h3:nrem≤N)(s:Dsc lt p (n+1)):
 Je lt N (kas_descPart n nrem p) (λr=>Ok N r.2∧1≤r.1∧r.1≤nrem∧Srt lt r.2 r.1):=by
 unfold kas_descPart;refine Mi _ (Kh (λr hr=>?_) _ (Nz O (nrem - (n+1)) p (n+1) 0 h (by omega) (by omega) s λi i1 i2=>?_))
 · obtain⟨a1,a2,a3,a4,a5,a6⟩:=hr
   split
   · exact SI O (a1.rev _ _) (by omega) (by omega) h3 (a4.eqv O (OI O a1 (by omega) a5))
   · exact SI O a1 (by omega) (by omega) h3 a4
 · obtain rfl:i=n:=by omega
   exact O.refl _
theorem WY(O:Ord lt){p:Array Nat}{nrem:Nat}(h:Ok N p)(h1:1≤nrem)(h3:nrem≤N):
 Je lt N (kas_count nrem p) (λr=>Ok N r.2∧1≤r.1∧r.1≤nrem∧Srt lt r.2 r.1):=by
 unfold kas_count;refine Mi _ (Kh (λn hn=>?_) _ (Ox O h (nrem - 1) 1 (Af _) (by omega) λi j hij hj=>absurd hj (by omega)));obtain⟨a1,a2,a3,a4⟩:=hn
 split
 · exact⟨h,a1,by show n≤nrem;omega,a3⟩
 · rename_i ne;have hlt:n<nrem:=by
    have:n≠nrem:=λz=>ne (by rw[z];simp);omega
   have c:=a4 (by omega);have c':=O.as _ _ c
   split
   · refine⟨h.below (by omega),h.below (by omega),?_⟩;cases d:lt (p.getD 0 0) (p.getD (n - 1) 0) with
     | true=>exact⟨h,a1,by show n≤nrem;omega,a3⟩
     | false=>
      show Je lt N (kas_descPart n nrem (kas_rev p 0 n)) _;have al:∀k,0≤k→k<n→Eqv lt (K p k) (K p (n - 1)):=by
       intro k _ hk;have u1:lt (K p (n - 1)) (K p k)=false:=by
        by_cases z:k=n - 1
        · subst z;exact O.rfl' _
        · exact a3 k (n - 1) (by omega) (by omega)
       have u0:lt (K p k) (K p 0)=false:=by
        by_cases z:k=0
        · subst z;exact O.rfl' _
        · exact a3 0 k (by omega) hk
       exact⟨O.tr _ (K p 0) _ d u0,u1⟩
      refine Us O (h.rev 0 n) a1 (by omega) h3 ?_;have dn:Dsc lt p n:=λi j hij hj=>O.via (al i (by omega) (by omega)) (al j (by omega) hj) (O.rfl' _);exact(dn.snoc O a1 c').eqv O (OI O h (by omega) al)
   · refine Us O h a1 (by omega) h3 ?_;refine Dsc.snoc O a1 (λi j hij hj=>absurd hj (by omega)) c'
theorem Pf(O:Ord lt){p:Array Nat}(h:Ok N p){k:Nat}(hk:k<N)(s:Srt lt p k):∀(f l r:Nat),l≤r→r≤k→r - l≤f→(∀i,i<l→lt (K p k) (K p i)=false)→(∀i,r≤i→i<k→lt (K p k) (K p i)=true)→
 Je lt N (kas_place p k f l r) (λL=>L≤k∧(∀i,i<L→lt (K p k) (K p i)=false)∧∀i,L≤i→i<k→lt (K p k) (K p i)=true)
 | 0,l,r,h1,h2,h3,a,b=>by
  obtain rfl:l=r:=by omega
  exact⟨h2,a,b⟩
 | f+1,l,r,h1,h2,h3,a,b=>by
  unfold kas_place
  split
  · obtain rfl:l=r:=by omega
    exact⟨h2,a,b⟩
  · refine⟨h.below hk,h.below (by omega),?_⟩;cases c:lt (p.getD k 0) (p.getD ((l+r) / 2) 0) with
    | true=>
     show Je lt N (kas_place p k f l ((l+r) / 2)) _;refine Pf O h hk s f l _ (by omega) (by omega) (by omega) a λi i1 i2=>?_;cases d:lt (K p k) (K p i) with
     | true=>rfl
     | false=>
      have:lt (K p k) (K p ((l+r) / 2))=false:=by
       by_cases z:i=(l+r) / 2
       · rw[←z];exact d
       · exact O.tr _ (K p i) _ (s _ _ (by omega) i2) d
      rw[show lt (K p k) (K p ((l+r) / 2))=true from c] at this;cases this
    | false=>
     show Je lt N (kas_place p k f ((l+r) / 2+1) r) _;refine Pf O h hk s f _ r (by omega) h2 (by omega) (λi hi=>?_) b;by_cases z:i=(l+r) / 2
     · rw[z];exact c
     · exact O.tr _ (K p ((l+r) / 2)) _ (s _ _ (by omega) (by omega)) c
theorem RJ(O:Ord lt):∀(f:Nat)(p:Array Nat)(k:Nat),Ok N p→k+f≤N→1≤k→Srt lt p k→Je lt N (kas_bin f p k) (λq=>Ok N q∧Srt lt q (k+f))
 | 0,p,k,h,_,_,s=>⟨h,s⟩
 | f+1,p,k,h,h1,h2,s=>by
  unfold kas_bin;refine Mi _ (Kh (λl hl=>?_) _ (Pf O h (by omega) s k 0 k (by omega) (Af _) (by omega) (λi hi=>absurd hi (by omega)) λi i1 i2=>absurd i2 (by omega)));obtain⟨l1,a,b⟩:=hl;have e:k+1+f=k+(f+1):=by omega
  rw[←e];refine RJ O f _ (k+1) (h.bub k (k - l)) (by omega) (by omega) λi j hij hj=>?_;rw[QT h (by omega) l1,QT h (by omega) l1];by_cases jl:j=l
  · rw[if_pos jl,if_neg (by omega),if_neg (by omega)];exact a i (by omega)
  · rw[if_neg jl];by_cases jm:l<j∧j≤k
    · rw[if_pos jm];by_cases il:i=l
      · rw[if_pos il];exact O.as _ _ (b (j - 1) (by omega) (by omega))
      · rw[if_neg il];by_cases im:l<i∧i≤k
        · rw[if_pos im];exact s _ _ (by omega) (by omega)
        · rw[if_neg im];exact s _ _ (by omega) (by omega)
    · rw[if_neg jm,if_neg (by omega),if_neg (by omega)];exact s _ _ hij (by omega)
theorem sort_ok(O:Ord lt)(h1:1≤N):Je lt N (kas_sort N) (λq=>Ok N q∧Srt lt q N):=by
 unfold kas_sort;refine Mi _ (Kh (λr hr=>?_) _ (WY O (p:=(AI N).toArray) ⟨by simp⟩ h1 (Af _)));obtain⟨a1,a2,a3,a4⟩:=hr
 split
 · have e:max r.1 1=r.1:=by omega
   rw[e];refine Kh (λq hq=>?_) _ (RJ O (N - r.1) r.2 r.1 a1 (by omega) a2 a4);rw[show r.1+(N - r.1)=N by omega] at hq;exact hq
 · have e:r.1=N:=by omega
   rw[e] at a4;exact⟨a1,a4⟩
open PySem in
theorem sat_wp{α:Type}{cmp:Nat→Nat→(Bool→Shared→Prop)→Shared→Prop}{Q:α→Prop}{G:α→Shared→Prop}(hc:∀i j C,i<N→j<N→C (lt i j) s→cmp i j C s)(hq:∀a,Q a→G a s):
 ∀t:KasT α,Je lt N t Q→t.kasWp cmp G s
 | .ret a,h=>hq a h
 | .ask i j k,⟨h1,h2,h⟩=>hc i j _ h1 h2 (sat_wp hc hq (k _) h)
end KS
end L2
set_option maxHeartbeats 1000000
namespace L2
open PySem PySem.Spec PyProof.Rows PySem.W
def J3:V→Bool
 | .non=>true
 | .int _=>true
 | _=>false
def Q7:V→V→Bool
 | .int i,.int j=>decide (i≤j)
 | _,_=>true
def J_(H:Hp):V→Bool
 | .ref a=>match H a with
  | some (.tup [x,y])=>J3 x && J3 y && Q7 x y
  | _=>false
 | _=>false
def SpanAt(H:Hp)(v:V)(lo hi:Option Int):Prop:=∃a,v= .ref a∧H a=some (.tup [eV lo,eV hi])
def KU:Option Int→Option Int→Bool
 | some i,some j=>decide (i≤j)
 | _,_=>true
theorem Ys{v:V}{lo hi:Option Int}(h:SpanAt H v lo hi):J_ H v=KU lo hi:=by obtain⟨a,rfl,e⟩:=h;unfold J_;simp only[e];cases lo<;>cases hi<;>simp[eV,J3,Q7,KU]
theorem QZ{K:Ad}(o:Option Int):∃t,TyOf K H (eV o) (.type t):=by
 cases o with
 | none=>exact⟨_,.non⟩
 | some i=>exact⟨_,.int i⟩
def SC(K:Ad):Sp:=λvs H Q _=>∃(v:V)(t:String),vs=[v]∧TyOf K H v (.type t)∧Q (.bl (t=="int")) H
def Q_(K:Ad):Sp:=λvs H Q _=>∃(v:V)(t:String),vs=[v]∧TyOf K H v (.type t)∧Q (.bl (J3 v)) H
def RI(K:Ad)(H:Hp)(v:V):Prop:=∀a x y,v= .ref a→H a=some (.tup [x,y])→∃t1 t2,TyOf K H x (.type t1)∧TyOf K H y (.type t2)
def SV(K:Ad):Sp:=λvs H Q _=>∃(v:V)(t:String),vs=[v]∧TyOf K H v (.type t)∧RI K H v∧Q (.bl (J_ H v)) H
theorem SpanAt.ty{K:Ad}{v:V}{lo hi:Option Int}(h:SpanAt H v lo hi):TyOf K H v (.type "tuple")∧RI K H v:=by obtain⟨a,rfl,q⟩:=h;refine⟨.tup q,λa' x y e q'=>?_⟩;cases e;rw[q] at q';injection q' with q';injection q' with q';injection q' with e1 e2;injection e2 with e2 _;subst e1 e2;obtain⟨t1,h1⟩:=QZ (K:=K) (H:=H) lo;obtain⟨t2,h2⟩:=QZ (K:=K) (H:=H) hi;exact⟨t1,t2,h1,h2⟩
def K9:Option Int→Option Int→Bool
 | none,_=>true
 | some _,none=>false
 | some l,some o=>decide (l≤o)
def Ml:Option Int→Option Int→Bool
 | none,_=>true
 | some _,none=>false
 | some h,some o=>decide (o≤h)
def Kg(lo hi lo2 hi2:Option Int):Bool:=K9 lo lo2 && Ml hi hi2
def UP:Option Int→Option Int→Option Int
 | none,o=>o
 | some l,none=>some l
 | some l,some o=>some (if l<o then o else l)
def UQ:Option Int→Option Int→Option Int
 | none,o=>o
 | some h,none=>some h
 | some h,some o=>some (if o<h then o else h)
def Ng:Option Int→Option Int→Bool
 | some l,some h=>decide (h<l)
 | _,_=>false
def loB:Option Int→Int→Bool
 | none,_=>true
 | some l,k=>decide (l≤k)
def hiB:Option Int→Int→Bool
 | none,_=>true
 | some h,k=>decide (k≤h)
def Od(lo hi:Option Int)(k:Int):Bool:=loB lo k && hiB hi k
def Sz:Sp:=λvs H Q _=>∃(v w:V)(lo hi lo2 hi2:Option Int),vs=[v,w]∧SpanAt H v lo hi∧SpanAt H w lo2 hi2∧Q (.bl (Kg lo hi lo2 hi2)) H
abbrev T15:Int:=1000000000000000
theorem Of:(10:Int)^(15:Int).toNat=T15:=by decide
theorem Js{j:Int}(h0:0≤j)(h1:j≤1000):QS 10 j:=⟨h0,h1,by decide⟩
def MR:Option Int→List Int
 | none=>[]
 | some e=>[e - 1,e,e+1]
def Qy:List Int:=[0,10^(17:Int).toNat,0 - 10^(17:Int).toNat]
def Vk(ss:List (Option Int×Option Int)):List Int:=Qy++ss.flatMap λs=>MR s.1++MR s.2
def spPoints(K:Ad):Sp:=λvs H Q _=>∃(a:Addr)(ss:List (Addr×Option Int×Option Int)),vs=[.ref a]∧SqL K H a (ss.map λs=>V.ref s.1)∧(∀s∈ss,H s.1=some (.tup [eV s.2.1,eV s.2.2]))∧ss.length≤8∧
 ∀r H',Same H H'→H' r=some (.lst ((Vk (ss.map (·.2))).map V.int))→Q (.ref r) H'
def dE:Option Int→PD
 | none=> .non
 | some i=> .int i
theorem R5{K:Ad}(o:Option Int):Rep K H (dE o) (eV o):=by
 cases o with
 | none=>show Rep K H .non .non;rw[Rep]
 | some i=>show Rep K H (.int i) (.int i);rw[Rep]
def Lp(c:Nat):Bool:=decide (97≤c) && decide (c≤122)
structure FieldOk(x:Str):Prop where
 one:1≤x.length
 eight:x.length≤8
 all:∀c∈x.cps.toList,Lp c=true
theorem UZ:("a":Str).cps.toList=[97]:=by decide+kernel
theorem U_:("z":Str).cps.toList=[122]:=by decide+kernel
theorem QD{c:Nat}(h:Lp c=true):(!decide ((⟨#[c]⟩:Str).cps.toList<("a":Str).cps.toList))=true:=by
 rw[UZ];have h1:97≤c:=of_decide_eq_true ((Bk _ _).mp h).1;have:¬([c]:List Nat)<[97]:=by
  intro z;cases z with
  | rel z=>exact absurd z (by omega)
  | cons z=>cases z
 show(!decide (([c]:List Nat)<[97]))=true;rw[decide_eq_false this];rfl
theorem Q6{c:Nat}(h:Lp c=true):(!decide (("z":Str).cps.toList<(⟨#[c]⟩:Str).cps.toList))=true:=by
 rw[U_];have h1:c≤122:=of_decide_eq_true ((Bk _ _).mp h).2;have:¬([122]:List Nat)<[c]:=by
  intro z;cases z with
  | rel z=>exact absurd z (by omega)
  | cons z=>cases z
 show(!decide (([122]:List Nat)<[c]))=true;rw[decide_eq_false this];rfl
def N6:Sp:=λvs H Q _=>∃x:Str,vs=[.str x]∧FieldOk x∧∀H',Same H H'→Q (.bl true) H'
def UX(H:Hp)(p:Addr)(f:Str)(lo hi:Option Int):Prop:=H p=some (.tup [.str f,eV lo,eV hi])
def U2:Sp:=λvs H Q _=>∃(p:Addr)(f:Str)(lo hi:Option Int),vs=[.ref p]∧UX H p f lo hi∧FieldOk f∧KU lo hi=true∧∀H',Same H H'→Q (.bl true) H'
def Jy(f g:Str):Prop:=f.cps.toList<g.cps.toList
def SQ:Sp:=λvs H Q _=>∃(a:Addr)(ps:List (Addr×Str×List V)),vs=[.ref a]∧H a=some (.tup (ps.map λp=>V.ref p.1))∧ps.length≤100∧(∀p∈ps,H p.1=some (.tup (V.str p.2.1::p.2.2)))∧
 (∀(i:Nat)p q,ps[i]?=some p→ps[i+1]?=some q→Jy p.2.1 q.2.1)∧∀H',Same H H'→Q (.bl true) H'
abbrev WP:=Str×Option Int×Option Int
def WishAt(H:Hp)(a:Addr)(w:List WP):Prop:=∃ps:List (Addr×WP),ps.map (·.2)=w∧H a=some (.tup (ps.map λp=>V.ref p.1))∧∀p∈ps,H p.1=some (.tup [.str p.2.1,eV p.2.2.1,eV p.2.2.2])
theorem WishAt.keep{H':Hp}{w:List WP}(h:WishAt H a w)(s:Tups H H'):WishAt H' a w:=by obtain⟨ps,e,h1,h2⟩:=h;exact⟨ps,e,s _ _ h1,λp hp=>s _ _ (h2 p hp)⟩
theorem WishAt.same{H':Hp}{w:List WP}(h:WishAt H a w)(s:Same H H'):WishAt H' a w:=h.keep s.tups
structure WOk(w:List WP):Prop where
 len:w.length≤100
 ok:∀p∈w,FieldOk p.1∧KU p.2.1 p.2.2=true
 asc:(w.map (·.1)).Pairwise Jy
def IY(w:List WP)(f:Str):Option (Option Int×Option Int):=(w.find? (λp=>decide (p.1=f))).map (·.2)
theorem UC{w:List WP}{f:Str}(h:∀p∈w,p.1≠f):IY w f=none:=by unfold IY;rw[Da.mpr λp hp z=>h p hp (of_decide_eq_true z)];rfl
theorem ZE(w:List WP)(p:WP)(f:Str)(hn:IY w p.1=none):IY (w++[p]) f=if f=p.1 then some p.2 else IY w f:=by
 unfold IY at*;rw[List.find?_append];by_cases h:f=p.1
 · subst h;rw[if_pos rfl];cases e:w.find? (λq=>decide (q.1=p.1)) with
   | some q=>rw[e] at hn;cases hn
   | none=>simp
 · rw[if_neg h];cases e:w.find? (λq=>decide (q.1=f)) with
   | some q=>rfl
   | none=>simp;exact λz=>h z.symm
theorem Rx{f g:Str}(h:Jy f g):f≠g:=λe=>by subst e;exact List.lt_irrefl _ h
theorem WOk.fresh{w:List WP}(h:WOk w){p:WP}(hp:w[i]?=some p):IY (w.take i) p.1=none:=by
 refine UC λq hq e=>?_;obtain⟨j,hj⟩:=Ch hq;rw[List.getElem?_take] at hj
 split at hj
 · rename_i lt;have hi:i<w.length:=(Aq.mp hp).1;have:=Cu.mp h.asc j i (by rw[Ab];omega) (by rw[Ab];exact hi) lt;rw[DW,DW] at this;have e1:w[j]'(by omega)=q:=(Aq.mp hj).2;have e2:w[i]=p:=(Aq.mp hp).2;rw[e1,e2] at this;exact Rx this e
 · cases hj
def DictSp(H:Hp)(d:Addr)(w:List WP):Prop:=∃kvs:List (Iq×V),H d=some (.dK kvs)∧kvs.length≤w.length∧∀f:Str,match IY w f with
 | none=>Ik kvs (.inr f)=none
 | some s=>∃t,Ik kvs (.inr f)=some (.ref t)∧H t=some (.tup [eV s.1,eV s.2])
theorem DictSp.same{H':Hp}{d:Addr}{w:List WP}(h:DictSp H d w)(s:Same H H'):DictSp H' d w:=by
 obtain⟨kvs,e,l,q⟩:=h;refine⟨kvs,s _ _ e,l,λf=>?_⟩;have:=q f;cases hs:IY w f with
 | none=>rw[hs] at this;exact this
 | some sp=>rw[hs] at this;obtain⟨t,h1,h2⟩:=this;exact⟨t,h1,s _ _ h2⟩
def Li(other:List WP)(p:WP):Bool:=match IY other p.1 with
 | none=>false
 | some s=>Kg p.2.1 p.2.2 s.1 s.2
theorem UH{other:List WP}{p:WP}(h:IY other p.1=none):Li other p=false:=by unfold Li;rw[h]
theorem P6{other:List WP}{p:WP}{s:Option Int×Option Int}(h:IY other p.1=some s):Li other p=Kg p.2.1 p.2.2 s.1 s.2:=by unfold Li;rw[h]
def IK(one other:List WP):Bool:=one.all (Li other)
def SW:Sp:=λvs H Q _=>∃(a:Addr)(w:List WP),vs=[.ref a]∧WishAt H a w∧WOk w∧∀H',Same H H'→Q (.bl true) H'
def T_:Sp:=λvs H Q _=>∃(a:Addr)(w:List WP),vs=[.ref a]∧WishAt H a w∧WOk w∧∀d H',Same H H'→H d=none→DictSp H' d w→Q (.ref d) H'
def TZ:Sp:=λvs H Q _=>∃(a d:Addr)(w w':List WP),vs=[.ref a,.ref d]∧WishAt H a w∧DictSp H d w'∧∀H',Same H H'→Q (.bl (IK w w')) H'
def Vh:Option Int→Option Int→Int
 | some l,_=>l
 | none,some h=>h
 | none,none=>0
abbrev PP:=Str×Int
def M0(H:Hp)(a:Addr)(w:List PP):Prop:=∃ps:List (Addr×PP),ps.map (·.2)=w∧H a=some (.tup (ps.map λp=>V.ref p.1))∧∀p∈ps,H p.1=some (.tup [.str p.2.1,.int p.2.2])
theorem VJ{K:Ad}{a p:Addr}{xs:List V}{g:TG}{tc:TT}{tk tv:TE}{Q:VK}{js:IC}(Pv:Nat→St→List (Iq×V)→Hp→Prop)(h0:Pv 0 (Jf js σ) [] (HD H p (.dK [])))
 (hl:∀i σ kvs H,i≤xs.length→Pv i σ kvs H→SqT K H a xs∧H p=some (.dK kvs)∧kvs.length<Aw)
 (hs:∀(i:Nat)x σ kvs H(N:St→List (Iq×V)→Hp→Prop),xs[i]?=some x→Pv i σ kvs H→(∀σ' kvs' H',Pv (i+1) σ' kvs' H'→N σ' kvs' H')→g x σ H λσ2 H2=>tc σ2 H2 λb H3=> if b=true then tk σ2 H3 λk H4=>tv σ2 H4 λy H5=>∃ky,k=kV ky∧H5 p=some (.dK kvs)∧N σ2 (Jb kvs ky y) (HD H5 p (.dK (Jb kvs ky y))) else N σ2 kvs H3)
 (hd:∀σ kvs H,Pv xs.length σ kvs H→Q (.ref p) H):Ot (Lz K a) p js g tc tk tv σ H Q:=by
 refine⟨λi m σ kvs H=>m=xs.length - i∧i≤xs.length∧Pv i σ kvs H,⟨xs.length,by simp,AC _,h0⟩,?_⟩;rintro i m σ kvs H ⟨rfl,hi,pv⟩;obtain⟨q0,q1,q2⟩:=hl i σ kvs H hi pv;refine⟨q1,?_⟩;by_cases lt:i<xs.length
 · refine .inr ⟨⟨xs,xs[i],q0,by simp[lt]⟩,q2,λx H' y=>?_⟩;obtain⟨e,y⟩:=y;subst e;exact hs i x σ kvs H' (λσ2 kvs2 H2=>∃m',m'<xs.length - i∧m'=xs.length - (i+1)∧i+1≤xs.length∧Pv (i+1) σ2 kvs2 H2) (y xs q0) pv λσ' ys' H' p'=>⟨xs.length - (i+1),by omega,rfl,lt,p'⟩
 · have e:i=xs.length:=by omega
   subst e;exact .inl ⟨⟨xs,q0,Af _⟩,hd σ kvs H pv⟩
theorem Wx{y:Str}(h:x.cps.toList=y.cps.toList):x=y:=by obtain⟨a⟩:=x;obtain⟨b⟩:=y;congr;exact Array.toList_inj.mp h
theorem RO{y:Str}(h:¬Jy x y)(n:x≠y):Jy y x:=by
 unfold Jy at*;rcases Std.lt_trichotomy (α:=List Nat) x.cps.toList y.cps.toList with h1 | h1 | h1
 · exact absurd h1 h
 · exact absurd (Wx h1) n
 · exact h1
theorem Ya{y z:Str}(h:Jy x y)(h2:Jy y z):Jy x z:=List.lt_trans h h2
theorem Uq:∀(r:List Str)(p:Str),risingS p r=true→(p::r).Nodup→(p::r).Pairwise Jy
 | [],p,_,_=>List.pairwise_singleton _ _
 | x::r,p,h,n=>by
  unfold risingS at h;rw[Bk,De,ltCps_eq,decide_eq_false_iff_not] at h;rw[BC] at n;have px:Jy p x:=RO (x:=x) (y:=p) h.1 (λe=>n.1 (by rw[←e];exact Ah));have ih:=Uq r x h.2 n.2;rw[E3];refine⟨λy hy=>?_,ih⟩;rcases As.mp hy with rfl | hy
  · exact px
  · exact Ya px ((List.pairwise_cons.mp ih).1 y hy)
theorem YO{ms:List Str}(h:sortedS ms=true)(n:ms.Nodup):ms.Pairwise Jy:=by
 cases ms with
 | nil=>exact .nil
 | cons x r=>exact Uq r x h n
structure POk(p:List PP):Prop where
 len:p.length≤100
 ok:∀x∈p,FieldOk x.1
 asc:(p.map (·.1)).Pairwise Jy
def Vg(p:List PP)(f:Str):Option Int:=(p.find? (λx=>decide (x.1=f))).map (·.2)
def WU(p:List PP)(x:WP):Bool:=match Vg p x.1 with
 | none=>false
 | some n=>Od x.2.1 x.2.2 n
def Ro(w:List WP)(p:List PP):Bool:=w.all (WU p)
theorem az:("abcdefghijklmnopqrstuvwxyz":Str).cps.toList=(AI 26).map (· +97):=by decide+kernel
theorem QU{r:Int}(h0:0≤r)(h1:r<26):∃c,IL ("abcdefghijklmnopqrstuvwxyz":Str).cps.toList r=some c∧Lp c=true:=by
 rw[az];obtain⟨k,rfl⟩:∃k:Nat,r=k:=⟨r.toNat,by omega⟩;have hk:k<26:=by omega
 refine⟨k+97,?_,?_⟩
 · refine J9 ?_;rw[Aj,FV hk];rfl
 · unfold Lp;rw[Bk];exact⟨decide_eq_true (by omega),decide_eq_true (by omega)⟩
theorem Uw:∀(cs:List Nat),(Txt.join ("":Str) (cs.map λc=>(⟨#[c]⟩:Str))).cps.toList=cs
 | []=>rfl
 | [c]=>rfl
 | c::d::r=>by
  have ih:=Uw (d::r);have e:∀(ts:List Str),Txt.join ("":Str) ts=Str.join ("":Str) ts:=λts=>StrLaws.glued_eq_join _ _;rw[e] at ih ⊢;show((⟨#[c]⟩:Str)++("":Str)++Str.join ("":Str) ((d::r).map λc=>(⟨#[c]⟩:Str))).cps.toList=_;have:((⟨#[c]⟩:Str)++("":Str)++Str.join ("":Str) ((d::r).map λc=>(⟨#[c]⟩:Str))).cps.toList=c::(Str.join ("":Str) ((d::r).map λc=>(⟨#[c]⟩:Str))).cps.toList:=by show(#[c]++#[]++_:Array Nat).toList=_;simp
  rw[this,ih]
theorem WN(cs:List Nat)(h:cs.length≤1000):JoinOk ("":Str) (cs.map λc=>(⟨#[c]⟩:Str))=true:=by
 unfold JoinOk;rw[De];refine StrLaws.joinFits (B:=1) (λy hy=>?_) ?_
 · obtain⟨c,_,rfl⟩:=AG.mp hy;exact Af 1
 · rw[Ab];show cs.length*1+cs.length*0≤_;omega
theorem YA{cs:List Nat}(h1:1≤cs.length)(h8:cs.length≤8)(ok:∀c∈cs,Lp c=true):FieldOk (Txt.join ("":Str) (cs.map λc=>(⟨#[c]⟩:Str))):=by
 have e:=Uw cs;have hl:(Txt.join ("":Str) (cs.map λc=>(⟨#[c]⟩:Str))).length=cs.length:=by show Array.size _=_;rw[←A0,e]
 exact⟨by rw[hl];exact h1,by rw[hl];exact h8,by rw[e];exact ok⟩
theorem SameB.off{g p:Addr}{H':Hp}{o:HO}(s:SameB b g H H')(hp:H p=none):SameB b g H (HD H' p o):=λa x h n1 n2=>by
 have:a≠p:=λe=>by rw[e,hp] at h;cases h
 rw[HV this];exact s a x h n1 n2
open PySem PySem.Spec PyProof.Rows PySem.W
theorem Uh{α:Type}{f:α→Addr}:∀{ps:List α}{us:List Value},Vals (ps.map λp=>V.ref (f p)) us→us=ps.map λp=>Value.ref (f p)
 | [],_,h=>by cases h;rfl
 | p::ps,_,h=>by
  rw[Am] at h;cases h with
  | cons r h=> obtain rfl:_=Value.ref (f p):=r;rw[Uh h];rfl
theorem X5{α:Type}(d:α){ps:List α}{p:Array Nat}(h:KS.Ok ps.length p):(p.toList.map λi=>ps.getD i d).Perm ps:=by
 have e:(AI ps.length).map (λi=>ps.getD i d)=ps:=by
  apply List.ext_getElem
  · simp
  · intro i h1 h2;simp[h2]
 have:=h.perm.map (λi=>ps.getD i d);rw[e] at this;exact this
theorem XS{α β:Type}(f:α→β)(d:α)(e:β)(ps:List α)(h:i<ps.length):(ps.map f).getD i e=f (ps.getD i d):=by simp[h]
open PySem.AutoSeq1 (wpAny_loadPart')
open PySem.MeetsSeq PySem.MeetsSeq2 PySem.MeetsSeq3 PySem.SeqRoads2
def LtAt(A:Bn)(s:Shared)(y x:Value)(b:Bool):Prop:=
 ∀(prog:AU)(w:World)(E:Value→Shared→Prop)(Q:Value→Shared→Prop),Q (.bool b) s→wpAny (model prog w) A (richCompare .Lt y x) Q E s
structure FirstAt(A:Bn)(s:Shared)(items items2:Array Value)(b:Bool)(j:Nat):Prop where
 le1:j≤items.size
 le2:j≤items2.size
 same:∀i(h1:i<items.size)(h2:i<items2.size),i<j→DA A s items[i] items2[i] true
 fin:((items.size≤j∨items2.size≤j)∧b=decide (items.size<items2.size))∨∃(h1:j<items.size)(h2:j<items2.size),DA A s items[j] items2[j] false∧LtAt A s items[j] items2[j] b
theorem ZG(l b:Addr)(items items2:Array Value)(n n2:Nat)(dd dd2:Option Addr)(sl sl2:Array (Option Value))(c:Bool)(j k:Nat):
 ∀i:Nat,j - i=k→i≤j→∀(A:Bn)(R:Result→Shared→Prop)(s:Shared),s.heap.get? l=some {cls:= .type "list",dict:=dd,data:= .seq items n,slots:=sl}→s.heap.get? b=some {cls:= .type "list",dict:=dd2,data:= .seq items2 n2,slots:=sl2}→
  FirstAt A.in1 s items items2 c j→R (.ok (.ret (.bool c))) s→
  wpAny (model P w) A.in1 (Builtin.«list.__eq__.loop» ⟨[.ref l,.ref b,rawInt i,rawInt 0],[]⟩) (λfin s'=>match fin with | .done f=>R (.ok f) s' | .again c'=>c'.quiet=true∧codeAny (model P w) A c' R s') (λe s'=>R (.error e) s') s:=by
 induction k with
 | zero=>
  intro i hk hij A R s hl hb F h;obtain rfl:i=j:=by omega
  obtain⟨hp,g,d,tk,os⟩:=s;rcases F.fin with⟨hs,hc⟩ | ⟨h1,h2,he,hlt⟩
  · wp_walk using A1 hl,A1 hb
    by_cases c1:i<items.size
    · have o1:items[((i:Nat):Int).toNat]?=some items[i]:=by simp[c1]
      have o2:items2[((i:Nat):Int).toNat]?=none:=by simp;omega
      rw[o1,o2]
      wp_walk using A1 hl,A1 hb
      show R (.ok (.ret (.bool (decide (items.size<items2.size))))) _;rw[←hc];exact h
    · have o1:items[((i:Nat):Int).toNat]?=none:=by simp;omega
      rw[o1]
      wp_walk using A1 hl,A1 hb
      show R (.ok (.ret (.bool (decide (items.size<items2.size))))) _;rw[←hc];exact h
  · wp_walk using A1 hl,A1 hb
    have o1:items[((i:Nat):Int).toNat]?=some items[i]:=by simp[h1]
    have o2:items2[((i:Nat):Int).toNat]?=some items2[i]:=by simp[h2]
    rw[o1,o2];refine Aa (he _ _ _ _ ?_)
    wp_walk using A1 hl,A1 hb
    rw[o1,o2];refine Aa (hlt _ _ _ _ ?_)
    wp_walk
    exact h
 | succ k ih=>
  intro i hk hij A R s hl hb F h;obtain⟨hp,g,d,tk,os⟩:=s
  wp_walk using A1 hl,A1 hb
  have f1:=F.le1;have f2:=F.le2;have lt1:i<items.size:=by omega
  have JL:i<items2.size:=by omega
  have o1:items[((i:Nat):Int).toNat]?=some items[i]:=by simp[lt1]
  have o2:items2[((i:Nat):Int).toNat]?=some items2[i]:=by simp[JL]
  have hc:((i:Int)+1)=((i+1:Nat):Int):=by push_cast;rfl
  rw[o1,o2];refine Aa (F.same i lt1 JL (by omega) _ _ _ _ ?_)
  wp_walk
  rw[hc];exact⟨CJ plain_eq_loop _,BX entry_eq_loop (by rw[BD plain_eq_loop _];exact ih (i+1) (by omega) (by omega) A R _ hl hb F h)⟩
theorem Yb(l b:Addr)(items items2:Array Value)(n n2:Nat)(dd dd2:Option Addr)(sl sl2:Array (Option Value)){c:Bool}{j:Nat}(A:Bn)(R:Result→Shared→Prop)(s:Shared)
 (hl:s.heap.get? l=some {cls:= .type "list",dict:=dd,data:= .seq items n,slots:=sl}) (hb:s.heap.get? b=some {cls:= .type "list",dict:=dd2,data:= .seq items2 n2,slots:=sl2})
 (F:FirstAt A.in1 s items items2 c j) (h:R (.ok (.ret (.bool c))) s):
 wpAny (model P w) A.in1 (Builtin.«list.__lt__» ⟨[.ref l,.ref b],[]⟩) (λfin s'=>match fin with | .done f=>R (.ok f) s' | .again c'=>c'.quiet=true∧codeAny (model P w) A c' R s') (λe s'=>R (.error e) s') s:=by
 obtain⟨hp,g,d,tk,os⟩:=s;have f3:=DQ
 wp_walk using A1 hl,A1 hb
 exact⟨CJ plain_eq_loop _,BX entry_eq_loop (by rw[BD plain_eq_loop _];exact ZG l b items items2 n n2 dd dd2 sl sl2 c j _ 0 rfl (AC _) A R _ hl hb F h)⟩
theorem UF{l:Addr}{items items2:Array Value}{c:Bool}{j:Nat}{E:Value→Shared→Prop}{Q:Value→Shared→Prop}(hl:s.heap.IsList l items)(hb:s.heap.IsList b items2)(FA:FirstAt A.in1 s items items2 c j)(h:Q (.bool c) s):
 wpAny (model P w) A (call (.builtin "list.__lt__") [.ref l,.ref b]) Q E s:=by
 obtain⟨⟨c1,dd,data,sl⟩,ho,hc,n,hd⟩:=id hl;obtain⟨⟨c2,dd2,data2,sl2⟩,ho2,hc2,n2,hd2⟩:=id hb;simp only at hc hd hc2 hd2;subst hc hd hc2 hd2;refine EK (Dn F.slot_list_lt.plain F.entry_list_lt (F.slot_list_lt.check _ _ _ _ _ _ _ _ ⟨_,ho,rfl⟩ (F.args_list_lt_2 _ _) ?_));exact Yb l b items items2 n n2 dd dd2 sl sl2 A (wants Q E) s ho ho2 FA h
theorem LtAt.lists{l:Addr}{items items2:Array Value}{c:Bool}{j:Nat}(hl:s.heap.IsList l items)(hb:s.heap.IsList b items2)(hu:A.units<cLine)(FA:FirstAt A.in1 s items items2 c j):LtAt A s (.ref l) (.ref b) c:=by intro P w E Q h;obtain⟨o,ho,hc,_⟩:=id hl;obtain⟨o2,ho2,hc2,_⟩:=id hb;exact Bz (op:= .Lt) ⟨_,ho,hc⟩ ⟨_,ho2,hc2⟩ F.slot_list_lt (UF hl hb FA ⟨(λx=>nomatch x),h⟩) hu
theorem LtAt.tuples{l:Addr}{items items2:Array Value}{c:Bool}{j:Nat}(hl:s.heap.IsTuple l items)(hb:s.heap.IsTuple b items2)(hu:A.units<cLine)(FA:FirstAt A.in1 s items items2 c j):LtAt A s (.ref l) (.ref b) c:=by
 intro P w E Q h;obtain⟨⟨c1,dd,data,sl⟩,ho,hc,n,hd⟩:=id hl;obtain⟨⟨c2,dd2,data2,sl2⟩,ho2,hc2,n2,hd2⟩:=id hb;simp only at hc hd hc2 hd2;subst hc hd hc2 hd2;refine Bz (op:= .Lt) ⟨_,ho,rfl⟩ ⟨_,ho2,rfl⟩ F.slot_tuple_lt (AR F.slot_tuple_lt ⟨_,ho,rfl⟩ F.entry_tuple_lt ?_ (F.args_tuple_lt_2 _ _)) hu;obtain⟨hp,g,d,tk,os⟩:=s;have f2:=EZ;have hZ:(items.toList.zip items2.toList).length=min items.size items2.size:=by simp
 have f1:=FA.le1;have f2':=FA.le2
 wp_walk using A1 ho,A1 ho2,Bw _ (λHI b s'=>s'=⟨hp,g,d,tk,os⟩∧((b.1=none∧∃i,i≤j∧HI=(items.toList.zip items2.toList).drop i)∨(b.1=some (PySem.Fin.done (.ret (.bool c)))∧HI=[]))) _
 case turn=>
  rintro⟨y,x⟩ HI b' s' ⟨rfl,⟨hb',i,hij,hz⟩ | ⟨_,hz⟩⟩
  · have lt0:i<(items.toList.zip items2.toList).length:=by
     rcases CU i (items.toList.zip items2.toList).length with h' | h'
     · exact h'
     · rw[DR h'] at hz;cases hz
    have h1:i<items.size:=by omega
    have h2:i<items2.size:=by omega
    rw[BY lt0] at hz;injection hz with hyx hrest
    have hy:y=items[i]:=by have:=congrArg Prod.fst hyx;simpa using this
    have hx:x=items2[i]:=by have:=congrArg Prod.snd hyx;simpa using this
    subst hy hx;rcases CU i j with h3 | h3
    · refine Aa (FA.same i h1 h2 h3 _ _ _ _ ?_)
      wp_walk
      exact⟨rfl,.inl ⟨rfl,i+1,h3,hrest⟩⟩
    · obtain rfl:i=j:=by omega
      rcases FA.fin with⟨hs,hc⟩ | ⟨_,_,he,hlt⟩
      · omega
      · refine Aa (he _ _ _ _ ?_);simp only[Bool.not_false,if_true];refine Aa (Cf ?_);refine Aa (hlt _ _ _ _ ?_)
        wp_walk
        exact⟨_,rfl,(λx=>nomatch x),h⟩
  · cases hz
 case fin=>
  rintro⟨b1,b2⟩ s' ⟨rfl,⟨hb',i,hij,hz⟩ | ⟨hb',_⟩⟩
  · simp only at hb';subst hb'
    wp_walk
    refine⟨_,rfl,?_⟩;have hlen:(items.toList.zip items2.toList).length≤i:=by
     rcases CU i (items.toList.zip items2.toList).length with h' | h'
     · rw[BY h'] at hz;cases hz
     · exact h'
    rcases FA.fin with⟨hs,hc⟩ | ⟨h1,h2,_,_⟩
    · have e:Cv .Lt items.size items2.size=Value.bool c:=by rw[hc];rfl
      rw[e];exact⟨(λx=>nomatch x),h⟩
    · omega
  · simp only at hb';subst hb'
    wp_walk
    exact⟨_,rfl,(λx=>nomatch x),h⟩
 case h=>exact⟨rfl,.inl ⟨rfl,0,AC _,rfl⟩⟩
theorem LtAt.ints(a b:Int)(t u:Tok):LtAt A s (.int a t) (.int b u) (decide (a<b)):=λP w E Q h=>by exact(wpAny_lt_int (prog:=P) (w:=w) (A:=A) (E:=E) (t:=t) (u:=u) h)
theorem LtAt.bools(a b:Bool):LtAt A s (.bool a) (.bool b) (!a && b):=λP w E Q h=>by refine lt_bool (p:=a) (q:=b) (prog:=P) (w:=w) (A:=A) (E:=E) ?_;cases a<;>cases b<;>exact h
theorem LtAt.strs(a b:Str)(t u:Tok):LtAt A s (.str a t) (.str b u) (decide (a.cps.toList<b.cps.toList)):=λP w E Q h=>by exact lt_str (x:=a) (y:=b) (t:=t) (u:=u) (prog:=P) (w:=w) (A:=A) (E:=E) h
mutual
def HZ:PD→PD→Bool
 | .bl a,.bl b=>!a && b
 | .int a,.int b=>decide (a<b)
 | .str a,.str b=>decide (a.cps.toList<b.cps.toList)
 | .lst xs,.lst ys=>IH xs ys
 | .tup xs,.tup ys=>IH xs ys
 | _,_=>false
def IH:List PD→List PD→Bool
 | [],[]=>false
 | [],_::_=>true
 | _::_,[]=>false
 | x::xs,y::ys=>if HL x y=true then IH xs ys else HZ x y
end
mutual
def HR:PD→PD→Bool
 | .bl _,.bl _=>true
 | .int _,.int _=>true
 | .str _,.str _=>true
 | .lst xs,.lst ys=>IS xs ys
 | .tup xs,.tup ys=>IS xs ys
 | _,_=>false
def IS:List PD→List PD→Bool
 | x::xs,y::ys=>if HL x y=true then IS xs ys else HR x y
 | _,_=>true
end
mutual
theorem X_(I:Inv X pins σ H s):∀(A:Bn)(d e:PD)(v w:V)(u y:Value),Rep X.K H d v→Rep X.K H e w→RelV v u→RelV w y→A.units+Iw d<cLine→HR d e=true→LtAt A s u y (HZ d e)
 | A,.bl c,.bl b,v,w,u,y,h,h',r,r',z,ok=>by rw[Rep] at h h';subst h h';cases r;cases r';rw[HZ];exact LtAt.bools c b
 | A,.int c,.int b,v,w,u,y,h,h',r,r',z,ok=>by rw[Rep] at h h';subst h h';obtain⟨t,rfl⟩:=r;obtain⟨t',rfl⟩:=r';rw[HZ];exact LtAt.ints c b t t'
 | A,.str c,.str b,v,w,u,y,h,h',r,r',z,ok=>by rw[Rep] at h h';subst h h';obtain⟨t,rfl⟩:=r;obtain⟨t',rfl⟩:=r';rw[HZ];exact LtAt.strs c b t t'
 | A,.lst ds,.lst es,v,w,u,y,h,h',r,r',z,ok=>by rw[Rep] at h h';obtain⟨a,xs,rfl,q,qs⟩:=h;obtain⟨b,ys,rfl,q',qs'⟩:=h';cases r;cases r';obtain⟨its,rv,p,_⟩:=I.list q;obtain⟨its',rv',p',_⟩:=I.list q';rw[Iw] at z;rw[HZ];rw[HR] at ok;obtain⟨j,F⟩:=M7 I A.in1 ds es xs ys its its' qs qs' rv rv' (by rw[AS];omega) ok;exact LtAt.lists p.isList p'.isList (by omega) F
 | A,.tup ds,.tup es,v,w,u,y,h,h',r,r',z,ok=>by rw[Rep] at h h';obtain⟨a,xs,rfl,q,qs⟩:=h;obtain⟨b,ys,rfl,q',qs'⟩:=h';cases r;cases r';obtain⟨its,rv,p,_⟩:=I.tuple q;obtain⟨its',rv',p',_⟩:=I.tuple q';rw[Iw] at z;rw[HZ];rw[HR] at ok;obtain⟨j,F⟩:=M7 I A.in1 ds es xs ys its its' qs qs' rv rv' (by rw[AS];omega) ok;exact LtAt.tuples p p' (by omega) F
 | A,.non,e,v,w,u,y,h,h',r,r',z,ok=>by cases e<;>simp[HR] at ok
 | A,.bl _,.non,v,w,u,y,h,h',r,r',z,ok=>by simp[HR] at ok
 | A,.bl _,.int _,v,w,u,y,h,h',r,r',z,ok=>by simp[HR] at ok
 | A,.bl _,.str _,v,w,u,y,h,h',r,r',z,ok=>by simp[HR] at ok
 | A,.bl _,.lst _,v,w,u,y,h,h',r,r',z,ok=>by simp[HR] at ok
 | A,.bl _,.tup _,v,w,u,y,h,h',r,r',z,ok=>by simp[HR] at ok
 | A,.int _,.non,v,w,u,y,h,h',r,r',z,ok=>by simp[HR] at ok
 | A,.int _,.bl _,v,w,u,y,h,h',r,r',z,ok=>by simp[HR] at ok
 | A,.int _,.str _,v,w,u,y,h,h',r,r',z,ok=>by simp[HR] at ok
 | A,.int _,.lst _,v,w,u,y,h,h',r,r',z,ok=>by simp[HR] at ok
 | A,.int _,.tup _,v,w,u,y,h,h',r,r',z,ok=>by simp[HR] at ok
 | A,.str _,.non,v,w,u,y,h,h',r,r',z,ok=>by simp[HR] at ok
 | A,.str _,.bl _,v,w,u,y,h,h',r,r',z,ok=>by simp[HR] at ok
 | A,.str _,.int _,v,w,u,y,h,h',r,r',z,ok=>by simp[HR] at ok
 | A,.str _,.lst _,v,w,u,y,h,h',r,r',z,ok=>by simp[HR] at ok
 | A,.str _,.tup _,v,w,u,y,h,h',r,r',z,ok=>by simp[HR] at ok
 | A,.lst _,.non,v,w,u,y,h,h',r,r',z,ok=>by simp[HR] at ok
 | A,.lst _,.bl _,v,w,u,y,h,h',r,r',z,ok=>by simp[HR] at ok
 | A,.lst _,.int _,v,w,u,y,h,h',r,r',z,ok=>by simp[HR] at ok
 | A,.lst _,.str _,v,w,u,y,h,h',r,r',z,ok=>by simp[HR] at ok
 | A,.lst _,.tup _,v,w,u,y,h,h',r,r',z,ok=>by simp[HR] at ok
 | A,.tup _,.non,v,w,u,y,h,h',r,r',z,ok=>by simp[HR] at ok
 | A,.tup _,.bl _,v,w,u,y,h,h',r,r',z,ok=>by simp[HR] at ok
 | A,.tup _,.int _,v,w,u,y,h,h',r,r',z,ok=>by simp[HR] at ok
 | A,.tup _,.str _,v,w,u,y,h,h',r,r',z,ok=>by simp[HR] at ok
 | A,.tup _,.lst _,v,w,u,y,h,h',r,r',z,ok=>by simp[HR] at ok
theorem M7(I:Inv X pins σ H s):∀(A:Bn)(ds es:List PD)(vs ws:List V)(us ys:List Value),Reps X.K H ds vs→Reps X.K H es ws→Vals vs us→Vals ws ys→A.units+IR ds<cLine→IS ds es=true→
 ∃j,FirstAt A s us.toArray ys.toArray (IH ds es) j
 | A,[],es,vs,ws,us,ys,h,h',r,r',z,ok=>by
  rw[Reps] at h;subst h;cases r;have l1:=h'.length;have l2:=r'.length;refine⟨0,AC _,AC _,λi h1 h2 h3=>absurd h3 (CI _),.inl ⟨.inl (by simp),?_⟩⟩;cases es with
  | nil=> rw[IH];rw[Reps] at h';subst h';cases r';rfl
  | cons e es=>rw[IH];simp at l1 l2;simp;omega
 | A,d::ds,[],vs,ws,us,ys,h,h',r,r',z,ok=>by rw[Reps] at h';subst h';cases r';refine⟨0,AC _,AC _,λi h1 h2 h3=>absurd h3 (CI _),.inl ⟨.inr (by simp),?_⟩⟩;rw[IH];simp
 | A,d::ds,e::es,vs,ws,us,ys,h,h',r,r',z,ok=>by
  rw[Reps] at h h';obtain⟨x,vr,rfl,g1,g2⟩:=h;obtain⟨x',vr',rfl,g1',g2'⟩:=h';cases r with
  | @cons _ u1 _ ur ra rb=>
   cases r' with
   | @cons _ y1 _ yr ra' rb'=>
    rw[IR] at z;rw[IS] at ok;have he:=LF I A d e x x' _ _ g1 g1' ra ra' (by omega);rw[IH];by_cases hq:HL d e=true
    · rw[if_pos hq] at ok ⊢;rw[hq] at he;obtain⟨j,F⟩:=M7 I A ds es vr vr' _ _ g2 g2' rb rb' (by omega) ok;have f1:=F.le1;have f2:=F.le2;have f3:=F.same;have f4:=F.fin;simp only[Al] at f1 f2 f3 f4;refine⟨j+1,by simpa using f1,by simpa using f2,λi h1 h2 h3=>?_,?_⟩
      · cases i with
        | zero=>exact he
        | succ i=>simpa using f3 i (by simpa using h1) (by simpa using h2) (by omega)
      · rcases f4 with⟨hs,hc⟩ | ⟨h1,h2,k1,k2⟩
        · refine .inl ⟨by simpa using hs,?_⟩;rw[hc];simp
        · exact .inr ⟨by simpa using h1,by simpa using h2,by simpa using k1,by simpa using k2⟩
    · rw[if_neg hq] at ok ⊢;rw[EW] at hq;rw[hq] at he;have zz:A.units+Iw d<cLine:=by omega
      exact⟨0,AC _,AC _,λi h1 h2 h3=>absurd h3 (CI _),.inr ⟨by simp,by simp,he,X_ I A d e x x' _ _ g1 g1' ra ra' zz ok⟩⟩
end
open PySem PySem.Spec PyProof.Rows PySem.W
section
variable{o:HO}
theorem Inv.track7(I:Inv X pins σ H s)(hn:HS X pins H a)(h0:X.s₀.heap.get? a=none)(new:ObjOk X.prog X.w (HD H a o) s.heap a o):Inv X pins σ (HD H a o) s:=by
 obtain⟨hn,hl,_,_,hc,hp⟩:=hn;refine⟨I.ok,I.os,I.bare,⟨I.base.keep,I.base.slot,λb ob q n hx=>?_,I.base.there,λb xs q=>?_,λb ob u q=>?_,λb ps q=>?_⟩,I.loc,I.cell,?_,λx c e=>?_,λp hp'=>?_,λb u q=>?_,I.len⟩
 · have:b≠a:=λz=>by rw[z,h0] at q;cases q
   rw[HV this];exact I.base.free b ob q n hx
 · have:=I.base.tups b xs q;rw[HV (IT this hn)];exact this
 · have:=I.base.frzs b ob u q;rw[HV (IT this hn)];exact this
 · obtain⟨m,this⟩:=I.base.tbls b ps q;exact⟨m,by rw[HV (IT this hn)];exact this⟩
 · rw[HV hl.symm];exact I.free
 · rw[HV (hc x c e)];exact I.freeC x c e
 · obtain⟨e,n,r⟩:=I.pin p hp';exact⟨e,by rw[HV (hp p hp')];exact n,r⟩
 · by_cases hb:b=a
   · subst hb;rw[HH] at q;cases q;exact new
   · rw[HV hb] at q;exact(I.hok b u q).stay (λc v _ r=>r) (λc r=>by rw[HV (IT r hn)];exact r) λc xs r=>by rw[HV (IT r hn)];exact r
mutual
theorem Rep.same{K:Ad}{H':Hp}(h:Same H H'):∀(d:PD)(v:V),Rep K H d v→Rep K H' d v
 | .non,v,q=>by rw[Rep] at q ⊢;exact q
 | .bl _,v,q=>by rw[Rep] at q ⊢;exact q
 | .int _,v,q=>by rw[Rep] at q ⊢;exact q
 | .str _,v,q=>by rw[Rep] at q ⊢;exact q
 | .lst ds,v,q=>by rw[Rep] at q ⊢;obtain⟨a,xs,rfl,q1,q2⟩:=q;exact⟨a,xs,rfl,h.seq q1,Reps.same h ds xs q2⟩
 | .tup ds,v,q=>by rw[Rep] at q ⊢;obtain⟨a,xs,rfl,q1,q2⟩:=q;exact⟨a,xs,rfl,h.seqT q1,Reps.same h ds xs q2⟩
theorem Reps.same{K:Ad}{H':Hp}(h:Same H H'):∀(ds:List PD)(vs:List V),Reps K H ds vs→Reps K H' ds vs
 | [],vs,q=>by rw[Reps] at q ⊢;exact q
 | d::ds,vs,q=>by rw[Reps] at q ⊢;obtain⟨x,r,e,q1,q2⟩:=q;exact⟨x,r,e,Rep.same h d x q1,Reps.same h ds r q2⟩
end
theorem YI{prog:AU}{w:World}{E:Value→Shared→Prop}{l:Addr}{items items2:Array Value}{c:Bool}{j:Nat}{Q:Bool→Shared→Prop}(hl:s.heap.IsList l items)(hb:s.heap.IsList b items2)(hu:A.units<cLine)(FA:FirstAt A.in1 s items items2 c j)(h:Q c s):
 wpAny (model prog w) A (keyLt' oneType' (.ref l) (.ref b)) Q E s:=by
 obtain⟨o,ho,hc,_⟩:=id hl;rw[keyLt'_oneType,oneLt'_eq];simp only[if_true];refine Aa (wpAny_cRoomFor hu ?_);refine Aa (wpAny_callSpecialIfBound?_slot ⟨o,ho,hc⟩ F.slot_list_lt (UF hl hb FA ?_));exact Bf h
theorem YB{M:Model}{l:Addr}{items:Array Value}(hl:h.IsList l items):Looks M h (typeOf (.ref l)) (.type "list"):=by obtain⟨o,ho,hc,_⟩:=hl;rw[←hc];exact(Looks.ld ho).andThen .now
end
open PySem PySem.Spec PyProof.Rows PySem.W
abbrev Cx.in2(X:Cx):Cx:={X with A:=X.A.in1.in1,xe:=λ_ _=>False}
theorem Cx.Ok.in2(ok:X.Ok):X.in2.Ok:=⟨ok.mod,ok.kind,ok.glob,ok.blt,ok.above,ok.inj,ok.has,ok.cab,ok.hd,ok.frames,ok.stk,ok.exf,ok.bs,ok.bsz,ok.noex,ok.exfs,ok.funs,ok.frf⟩
theorem Inv.in2(I:Inv X pins σ H s):Inv X.in2 pins σ H s:=⟨I.ok.in2,I.os,I.bare,I.base,I.loc,I.cell,I.free,I.freeC,I.pin,I.hok,I.len⟩
theorem Inv.out2(ok:X.Ok)(I:Inv X.in2 pins σ H s):Inv X pins σ H s:=⟨ok,I.os,I.bare,I.base,I.loc,I.cell,I.free,I.freeC,I.pin,I.hok,I.len⟩
def Oe(ps:List (Addr×PD))(d:PD):Value→Bool
 | .ref a=>(ps.find? λp=>decide (p.1=a)).any λp=>HL p.2 d
 | _=>false
section
variable{o:Obj}{kvs:List (Iq×V)}
end
section
variable{tg:Expr}
end
section
variable{p:Addr}{g:TG}{tc:TT}{te:TE}{Q:VK}{o:Obj}{kvs:List (Iq×V)}{fs:List Str}
end
end L2
set_option maxHeartbeats 2000000
namespace L2
open PySem PySem.Spec PyProof.Rows PySem.W
section
variable{κ:Type}[DecidableEq κ]{knd:PySem.KeyKind prog w κ}
end
theorem Tq{tg:Expr}(K:Ad)(h:X.K=K){l:Expr}{tl:TE}(hl:PE X l tl)(hc:X.calm=true:=by rfl):PI X tg l (QX K tl):=by subst h;exact Jm hl
theorem Xa(o:Option Int):Iw (dE o)=0:=by cases o<;>rfl
abbrev Ld:=Option Int×Option Int
def Q5:Option Ld→Option Ld→Option Ld
 | none,o=>o
 | some s,none=>some s
 | some s,some t=>some (UP s.1 t.1,UQ s.2 t.2)
structure IsMet(w1 w2 m:List WP):Prop where
 len:m.length≤w1.length+w2.length
 asc:(m.map (·.1)).Pairwise Jy
 sp:∀f,IY m f=Q5 (IY w1 f) (IY w2 f)
def VB(w1:List WP)(p:WP):Bool:=match IY w1 p.1 with
 | none=>false
 | some s=>Ng (UP s.1 p.2.1) (UQ s.2 p.2.2)
def VC(w1 w2:List WP):Bool:=w2.any (VB w1)
def Ke(p:WP):PD:= .tup [.str p.1,dE p.2.1,dE p.2.2]
def dW(w:List WP):PD:= .tup (w.map Ke)
theorem R6{K:Ad}:∀ps:List (Addr×WP),(∀p∈ps,H p.1=some (.tup [.str p.2.1,eV p.2.2.1,eV p.2.2.2]))→Reps K H ((ps.map (·.2)).map Ke) (ps.map λp=>V.ref p.1)
 | [],_=>by show Reps K H [] [];rw[Reps]
 | p::ps,h=>by show Reps K H (Ke p.2::_) (V.ref p.1::_);rw[Reps];refine⟨_,_,rfl,?_,R6 ps λq hq=>h q (Ai _ hq)⟩;unfold Ke;rw[Rep];refine⟨p.1,_,rfl,SqT.of (h p Ah),?_⟩;rw[Reps];refine⟨_,_,rfl,by rw[Rep],?_⟩;rw[Reps];refine⟨_,_,rfl,R5 _,?_⟩;rw[Reps];exact⟨_,_,rfl,R5 _,by rw[Reps]⟩
theorem Lg{K:Ad}{w:List WP}(h:WishAt H a w):Rep K H (dW w) (.ref a):=by obtain⟨ps,rfl,h1,h2⟩:=h;unfold dW;rw[Rep];exact⟨a,_,rfl,SqT.of h1,R6 ps h2⟩
theorem W_(p:WP):Iw (Ke p)=1:=by unfold Ke;simp[Iw,IR,Xa]
theorem Th:∀w:List WP,IR (w.map Ke)≤1
 | []=>by show IR []≤1;rw[IR];omega
 | p::w=>by rw[Am,IR,W_];have:=Th w;omega
theorem Ny(w:List WP):Iw (dW w)≤2:=by unfold dW;rw[Iw];have:=Th w;omega
theorem RU(a b:Option Int):HL (dE a) (dE b)=decide (a=b):=by cases a<;>cases b<;>simp only[dE,HL]<;>rw[Bb]<;>simp
theorem Wk(p q:WP):HL (Ke p) (Ke q)=decide (p=q):=by obtain⟨f,a,b⟩:=p;obtain⟨g,c,d⟩:=q;unfold Ke;rw[HL,Ix,Ix,Ix,Ix,RU,RU,HL,Bb];simp
theorem RV:∀w w':List WP,Ix (w.map Ke) (w'.map Ke)=decide (w=w')
 | [],[]=>by rw[Bq,Ix];rfl
 | [],y::r=>by rw[Bq,Am,Ix];rfl;all_goals simp
 | x::r,[]=>by rw[Bq,Am,Ix];rfl;all_goals simp
 | x::r,y::r'=>by rw[Am,Am,Ix,Wk,RV r r',Bb];simp
theorem Nw(w w':List WP):HL (dW w) (dW w')=decide (w=w'):=by unfold dW;rw[HL,RV]
structure STo{α:Type}(l:α→α→Bool):Prop where
 ir:∀a,l a a=false
 tr:∀a b c,l a b=true→l b c=true→l a c=true
 tot:∀a b,a≠b→l a b=true∨l b a=true
theorem STo.as{α:Type}{l:α→α→Bool}(h:STo l){a b:α}(q:l a b=true):l b a=false:=by
 cases e:l b a with
 | false=>rfl
 | true=>have:=h.tr a b a q e;rw[h.ir] at this;cases this
theorem STo.ntr{α:Type}[DecidableEq α]{l:α→α→Bool}(h:STo l){a b c:α}(h1:l b a=false)(h2:l c b=false):l c a=false:=by
 cases e:l c a with
 | false=>rfl
 | true=>
  by_cases hab:a=b
  · subst hab;rw[e] at h2;cases h2
  · rcases h.tot a b hab with z | z
    · have:=h.tr c a b e z;rw[h2] at this;cases this
    · rw[h1] at z;cases z
theorem STo.ord{α:Type}[DecidableEq α]{l:α→α→Bool}(h:STo l)(k:Nat→α):KS.Ord λi j=>l (k i) (k j):=
 ⟨λa b q=>h.as q,λa b c h1 h2=>h.ntr h1 h2⟩
def Lv(a b:Int):Bool:=decide (a<b)
theorem sto_int:STo Lv:=⟨λa=>by simp[Lv],λa b c h1 h2=>by simp[Lv] at*;omega,λa b h=>by simp[Lv];omega⟩
def Oc(a b:Str):Bool:=decide (a.cps.toList<b.cps.toList)
theorem sto_str:STo Oc:=⟨λa=>decide_eq_false (List.lt_irrefl _),λa b c h1 h2=>decide_eq_true (List.lt_trans (of_decide_eq_true h1) (of_decide_eq_true h2)),λa b h=>by
 by_cases q:Jy a b
 · exact .inl (decide_eq_true q)
 · exact .inr (decide_eq_true (RO q h))⟩
def Jc{α β:Type}[DecidableEq α](l:α→α→Bool)(m:β→β→Bool)(x y:α×β):Bool:=if x.1=y.1 then m x.2 y.2 else l x.1 y.1
theorem STo.pair{α β:Type}[DecidableEq α]{l:α→α→Bool}{m:β→β→Bool}(h:STo l)(k:STo m):STo (Jc l m) where
 ir:=λa=>by simp[Jc,k.ir]
 tr:=λ⟨a,a'⟩ ⟨b,b'⟩ ⟨c,c'⟩ h1 h2=>by
  simp only[Jc] at*;by_cases e1:a=b
  · subst e1;rw[if_pos rfl] at h1;by_cases e2:a=c
    · subst e2;rw[if_pos rfl] at h2 ⊢;exact k.tr _ _ _ h1 h2
    · rw[if_neg e2] at h2 ⊢;exact h2
  · rw[if_neg e1] at h1;by_cases e2:b=c
    · subst e2;rw[if_neg e1];exact h1
    · rw[if_neg e2] at h2;have:=h.tr _ _ _ h1 h2;by_cases e3:a=c
      · subst e3;rw[h.ir] at this;cases this
      · rw[if_neg e3];exact this
 tot:=λ⟨a,a'⟩ ⟨b,b'⟩ hn=>by
  simp only[Jc];by_cases e:a=b
  · subst e;rw[if_pos rfl,if_pos rfl];exact k.tot _ _ λz=>hn (by rw[z])
  · rw[if_neg e,if_neg (CF e)];exact h.tot _ _ e
def IF{α:Type}[DecidableEq α](l:α→α→Bool):List α→List α→Bool
 | [],[]=>false
 | [],_::_=>true
 | _::_,[]=>false
 | x::xs,y::ys=>if x=y then IF l xs ys else l x y
theorem STo.list{α:Type}[DecidableEq α]{l:α→α→Bool}(h:STo l):STo (IF l) where
 ir:=λa=>by
  induction a with
  | nil=>rfl
  | cons x xs ih=>simp[IF,ih]
 tr:=λa=>by
  induction a with
  | nil=>
   intro b c h1 h2;cases b with
   | nil=>simp[IF] at h1
   | cons y ys=>
    cases c with
    | nil=>simp[IF] at h2
    | cons z zs=>rfl
  | cons x xs ih=>
   intro b c h1 h2;cases b with
   | nil=>simp[IF] at h1
   | cons y ys=>
    cases c with
    | nil=>simp[IF] at h2
    | cons z zs=>
     simp only[IF] at*;by_cases e1:x=y
     · subst e1;rw[if_pos rfl] at h1;by_cases e2:x=z
       · subst e2;rw[if_pos rfl] at h2 ⊢;exact ih _ _ h1 h2
       · rw[if_neg e2] at h2 ⊢;exact h2
     · rw[if_neg e1] at h1;by_cases e2:y=z
       · subst e2;rw[if_neg e1];exact h1
       · rw[if_neg e2] at h2;have:=h.tr _ _ _ h1 h2;by_cases e3:x=z
         · subst e3;rw[h.ir] at this;cases this
         · rw[if_neg e3];exact this
 tot:=λa=>by
  induction a with
  | nil=>
   intro b hn;cases b with
   | nil=>exact absurd rfl hn
   | cons y ys=>exact .inl rfl
  | cons x xs ih=>
   intro b hn;cases b with
   | nil=>exact .inr rfl
   | cons y ys=>
    simp only[IF];by_cases e:x=y
    · subst e;rw[if_pos rfl,if_pos rfl];exact ih _ λz=>hn (by rw[z])
    · rw[if_neg e,if_neg (CF e)];exact h.tot _ _ e
def JP:Option Int→Int×Int
 | none=>(0,0)
 | some l=>(1,l)
def JQ:Option Int→Int×Int
 | none=>(1,0)
 | some h=>(0,h)
def d2(p:Int×Int):PD:= .tup [.int p.1,.int p.2]
def Jn(p:WP):PD:= .tup [.str p.1,d2 (JP p.2.1),d2 (JQ p.2.2)]
def Kd(w:List WP):PD:= .lst (w.map Jn)
abbrev QI:=Str×(Int×Int)×(Int×Int)
def ky(p:WP):QI:=(p.1,JP p.2.1,JQ p.2.2)
def JL:Int×Int→Int×Int→Bool:=Jc Lv Lv
def Jt:QI→QI→Bool:=Jc Oc (Jc JL JL)
theorem sto_ky:STo (IF Jt):=(sto_str.pair ((sto_int.pair sto_int).pair (sto_int.pair sto_int))).list
theorem NB(p q:Int×Int):HL (d2 p) (d2 q)=decide (p=q):=by obtain⟨a,b⟩:=p;obtain⟨c,d⟩:=q;unfold d2;rw[HL,Ix,Ix,Ix,HL,HL,Bb];simp
theorem RW(p q:Int×Int):HZ (d2 p) (d2 q)=JL p q:=by
 obtain⟨a,b⟩:=p;obtain⟨c,d⟩:=q;unfold d2 JL Jc Lv;rw[HZ,IH,HL,IH,HL,IH,HZ,HZ];by_cases h:a=c
 · subst h;simp;intro z;omega
 · simp[h]
theorem RP(p q:Int×Int):HR (d2 p) (d2 q)=true:=by
 obtain⟨a,b⟩:=p;obtain⟨c,d⟩:=q;unfold d2;rw[HR,IS,IS,IS,HR,HR]
 all_goals simp
theorem XA(p q:WP):HL (Jn p) (Jn q)=decide (ky p=ky q):=by unfold Jn ky;rw[HL,Ix,Ix,Ix,Ix,NB,NB,HL,Bb];simp
theorem XC(p q:WP)(hn:ky p≠ky q):HZ (Jn p) (Jn q)=Jt (ky p) (ky q):=by
 have hn':=hn;unfold Jn Jt Jc;unfold ky at*;rw[HZ,IH,IH,IH,IH,NB,NB,RW,RW,HL,HZ];by_cases h:p.1=q.1
 · simp only[h,beq_self_eq_true,if_true];by_cases h2:JP p.2.1=JP q.2.1
   · simp only[h2,decide_true,if_true];by_cases h3:JQ p.2.2=JQ q.2.2
     · exact absurd (by rw[h,h2,h3]) hn'
     · simp[h3]
   · simp[h2]
 · simp[h,Oc]
theorem X0(p q:WP):HR (Jn p) (Jn q)=true:=by
 unfold Jn;rw[HR,IS,IS,IS,IS,RP,RP,HR]
 all_goals simp
theorem Tk:∀w w':List WP,IS (w.map Jn) (w'.map Jn)=true
 | [],w'=>by rw[Bq,IS];all_goals simp
 | x::r,[]=>by rw[Bq,IS];all_goals simp
 | x::r,y::r'=>by rw[Am,Am,IS,X0,Tk r r'];simp
theorem Wb(w w':List WP):HR (Kd w) (Kd w')=true:=by unfold Kd;rw[HR,Tk]
theorem Tu:∀w w':List WP,IH (w.map Jn) (w'.map Jn)=IF Jt (w.map ky) (w'.map ky)
 | [],[]=>by rw[Bq,IH];rfl
 | [],y::r=>by rw[Bq,Am,IH];rfl
 | x::r,[]=>by rw[Bq,Am,IH];rfl
 | x::r,y::r'=>by
  rw[Am,Am,IH,XA,Tu r r',Am,Am,IF];by_cases h:ky x=ky y
  · rw[if_pos (decide_eq_true h),if_pos h]
  · rw[if_neg (by simpa using h),if_neg h,XC x y h]
theorem Wm(w w':List WP):HZ (Kd w) (Kd w')=IF Jt (w.map ky) (w'.map ky):=by unfold Kd;rw[HZ,Tu]
theorem Yn(p:WP):Iw (Jn p)=2:=by unfold Jn d2;simp[Iw,IR]
theorem TF:∀w:List WP,IR (w.map Jn)≤2
 | []=>by show IR []≤2;rw[IR];omega
 | p::w=>by rw[Am,IR,Yn];have:=TF w;omega
theorem Xf(w:List WP):Iw (Kd w)≤3:=by unfold Kd;rw[Iw];have:=TF w;omega
def Rf:Sp:=λvs H Q _=>∃o:Option Int,vs=[eV o]∧∀t H',Same H H'→H' t=some (.tup [.int (JP o).1,.int (JP o).2])→Q (.ref t) H'
def Sy:Sp:=λvs H Q _=>∃o:Option Int,vs=[eV o]∧∀t H',Same H H'→H' t=some (.tup [.int (JQ o).1,.int (JQ o).2])→Q (.ref t) H'
def Rg(K:Ad):Sp:=λvs H Q _=>∃(a:Addr)(w:List WP),vs=[.ref a]∧WishAt H a w∧WOk w∧∀v H',Same H H'→Rep K H' (Kd w) v→Q v H'
def RkAt(H:Hp)(q:Addr×Addr×Addr×WP):Prop:=H q.1=some (.tup [.str q.2.2.2.1,.ref q.2.1,.ref q.2.2.1])∧H q.2.1=some (.tup [.int (JP q.2.2.2.2.1).1,.int (JP q.2.2.2.2.1).2])∧H q.2.2.1=some (.tup [.int (JQ q.2.2.2.2.2).1,.int (JQ q.2.2.2.2.2).2])
theorem RkAt.keep{H':Hp}{q:Addr×Addr×Addr×WP}(h:RkAt H q)(s:Tups H H'):RkAt H' q:=⟨s _ _ h.1,s _ _ h.2.1,s _ _ h.2.2⟩
theorem R4{K:Ad}{t:Addr}{p:Int×Int}(h:H t=some (.tup [.int p.1,.int p.2])):Rep K H (d2 p) (.ref t):=by unfold d2;rw[Rep];refine⟨t,_,rfl,SqT.of h,?_⟩;rw[Reps];refine⟨_,_,rfl,by rw[Rep],?_⟩;rw[Reps];exact⟨_,_,rfl,by rw[Rep],by rw[Reps]⟩
theorem SN{K:Ad}:∀qs:List (Addr×Addr×Addr×WP),(∀q∈qs,RkAt H q)→Reps K H ((qs.map (·.2.2.2)).map Jn) (qs.map λq=>V.ref q.1)
 | [],_=>by show Reps K H [] [];rw[Reps]
 | q::qs,h=>by show Reps K H (Jn q.2.2.2::_) (V.ref q.1::_);rw[Reps];refine⟨_,_,rfl,?_,SN qs λr hr=>h r (Ai _ hr)⟩;obtain⟨h1,h2,h3⟩:=h q Ah;unfold Jn;rw[Rep];refine⟨q.1,_,rfl,SqT.of h1,?_⟩;rw[Reps];refine⟨_,_,rfl,by rw[Rep],?_⟩;rw[Reps];refine⟨_,_,rfl,R4 h2,?_⟩;rw[Reps];exact⟨_,_,rfl,R4 h3,by rw[Reps]⟩
theorem V6{K:Ad}{r:Addr}{qs:List (Addr×Addr×Addr×WP)}(e:H r=some (.lst (qs.map λq=>V.ref q.1)))(h:∀q∈qs,RkAt H q):Rep K H (Kd (qs.map (·.2.2.2))) (.ref r):=by unfold Kd;rw[Rep];exact⟨r,_,rfl,SqL.of e,SN qs h⟩
end L2
set_option maxHeartbeats 1000000
namespace L2
open PySem PySem.Spec PyProof.Rows PySem.W
def Vl:R2:=λx y H Q=>∃a b xs ys,x= .ref a∧y= .ref b∧H a=some (.tup xs)∧H b=some (.tup ys)∧xs.length+ys.length≤Aw∧∀p H',Same H H'→H' p=some (.tup (xs++ys))→Q (.ref p) H'
theorem Wf:Iv X (binaryOp .Add) Vl:=by
 intro pins s σ H x y v u Q I rx ry h;obtain⟨a,b,xs,ys,rfl,rfl,ha,hb,hz,q⟩:=h;cases rx;cases ry;obtain⟨its,r1,p1,_⟩:=I.tuple (SqT.of ha);obtain⟨its2,r2,p2,_⟩:=I.tuple (SqT.of hb);by_cases hx:xs=[]
 · subst hx;cases r1;obtain⟨⟨cls,dd,data,sl⟩,ho,hc,n,hd⟩:=id p1;obtain⟨⟨cls2,dd2,data2,sl2⟩,ho2,hc2,n2,hd2⟩:=id p2;simp only at hc hd hc2 hd2;subst hc hd hc2 hd2;exact concat_meets ⟨_,ho,rfl⟩ ⟨_,ho2,rfl⟩ noFill_tuple_add seq_tuple_add DO DF (D2 _ _)
    (tuple_addW0 a b _ _ n n2 dd dd2 sl sl2 rfl) ⟨ho,ho2,⟨.ref b,H,I,rfl,q b H (Same.refl _) hb⟩⟩
 · refine HT.cat_tup p1 p2 (λz=>hx (r1.nil_iff.mp z)) (λz=>⟨.ref a,H,I,rfl,q a H (Same.refl _) (by rw[r2.nil_iff.mp z,Cz];exact ha)⟩) (λz=>?_) (by rw[←r1.length,←r2.length];exact hz);have hn:=I.hok.fresh (Af _);refine⟨.ref s.heap.objs.size,_,I.laid (t':=s.toks) (o:= .tup (xs++ys)) (λb ob q=>Ae _ q) (Af _) ?_,rfl,q _ _ (HN hn _) HH⟩;exact⟨by rw[Az];exact hz,_,r1.append r2,IsTupP.new _ _⟩
def Qr:V→Option Int→Option Int→Hp→VK→Prop:=λx lo hi H Q=>∃a xs,x= .ref a∧H a=some (.tup xs)∧∀p H',Same H H'→H' p=some (.tup (Iz xs lo hi))→Q (.ref p) H'
theorem Y8{lo hi:Option Int}(h:HT.sIx xs.length 0 lo=0∧HT.sIx xs.length xs.length hi=xs.length):Iz xs lo hi=xs:=by unfold Iz;rw[h.1,h.2,FC,EX];exact AO (Af _)
theorem Sr:Mr X Qr:=by intro pins s σ H x v vl vu lo hi sl Q I rx hs pl pu h;obtain⟨a,xs,rfl,ha,q⟩:=h;exact Ss pins s σ H (.ref a) v vl vu lo hi sl Q I rx hs pl pu ⟨a,xs,rfl,SqT.of ha,λhw=>q a H (Same.refl _) (by rw[Y8 hw];exact ha),λ_ p hp=>q p _ (HN hp _) HH⟩
theorem TD{k:Int}(e:k=(n:Int)):Iz xs none (some k)=xs.take n:=by
 subst e;unfold Iz;rw[HT.sIx_none,HT.sIx_nat,FC,EX];by_cases h:n≤xs.length
 · rw[Nat.min_eq_left h]
 · rw[Nat.min_eq_right (by omega),AO (Af _),AO (by omega)]
theorem Yy{k:Int}(e:k=(n:Int)):Iz xs (some k) none=xs.drop n:=by
 subst e;unfold Iz;rw[HT.sIx_none,HT.sIx_nat];by_cases h:n≤xs.length
 · rw[Nat.min_eq_left h];exact AO (by simp)
 · rw[Nat.min_eq_right (by omega),Nat.sub_self,List.take_zero,List.drop_eq_nil_of_le (by omega)]
open PySem PySem.Spec PyProof.Rows PySem.W
theorem Yw{xs ys:Array Value}{b:Bool}{j:Nat}{Q:Bool→Shared→Prop}(F:FirstAt A s xs ys b j)(h:Q b s):∀k i,j - i=k→i≤j→KatLex prog w A false (decide (xs.size<ys.size)) Q ((xs.toList.zip ys.toList).drop i) i s:=by
 intro k
 induction k with
 | zero=>
  intro i hk hij;obtain rfl:i=j:=by omega
  rcases F.fin with⟨hs,hc⟩ | ⟨h1,h2,he,hlt⟩
  · rw[DR (by simp;omega)];exact kat_nil (hc ▸ h)
  · rw[BY (by simp;omega)];simp only[List.getElem_zip,Do];refine kat_cons (he _ _ _ _ (kat_no ?_));rw[Bool.false_and];exact kat_one _ _ (hlt _ _ _ _ h)
 | succ k ih=> intro i hk hij;have f1:=F.le1;have f2:=F.le2;rw[BY (by simp;omega)];simp only[List.getElem_zip,Do];exact kat_cons (F.same i (by omega) (by omega) (by omega) _ _ _ _ (kat_yes (ih (i+1) (by omega) (by omega))))
theorem SJ{M:Model}:∀ks:List Value,(∀k∈ks,∃a o xs n f,k= .ref a∧h.get? a=some o∧o.cls= .type "tuple"∧o.data= .seq xs n∧xs[0]?=some f∧Looks M h (typeOf f) (.type "tuple"))→∃fs,KatTups h ks fs∧fs.length=ks.length∧∀v∈fs,Looks M h (typeOf v) (.type "tuple")
 | [],_=>⟨[],.nil,rfl,λv hv=>by simp at hv⟩
 | k::ks,hp=>by
  obtain⟨fs,h1,h2,h3⟩:=SJ ks λq hq=>hp q (Ai _ hq);obtain⟨a,o,xs,n,f,rfl,e,c,d,g,l⟩:=hp k Ah;refine⟨f::fs,.cons e c d g h1,by rw[A8,h2,A8],λv hv=>?_⟩;rcases As.mp hv with z | z
  · rw[z];exact l
  · exact h3 v z
def Nu(n:Nat):Prop:=∀(prog:AU)(w:World)(A:Bn)(E:Value→Shared→Prop)(s:Shared)(κ:SortKind)(lt:Nat→Nat→Bool)(ks us:List Value),ks.length=n→us.length=n→2≤n→KS.Ord lt→
 (∀i j i' j',i<n→j<n→i'<n→j'<n→us[i]?=us[i']?→us[j]?=us[j']?→lt i j=lt i' j')→
 (∀i j,i<n→j<n→∀C:Bool→Shared→Prop,C (lt i j) s→wpAny (model prog w) A (keyLt' κ (ks.getD i Value.none) (ks.getD j Value.none)) C (λ_ _=>False) s)→
 wpAny (model prog w) A (sortRuns'.run (SortSt.mk' κ (ks.toArray.zip us.toArray) #[] 7 none)) (λr s'=>s'=s∧∃p:Array Nat,arrOf r.2=p.map (kas_item (ks.toArray.zip us.toArray))∧failedOf r.2=none∧KS.Ok n p∧KS.Srt lt p n) E s
theorem Wv(h:n<64):Nu n:=by
 intro prog w A E s κ lt ks us hk hu h2 O _ hc;subst hu;have tree:(kas_sort us.length).kasWp (kas_ask prog w A κ ks) (λp s2=>s2=s∧KS.Ok us.length p∧KS.Srt lt p us.length) s:=
  KS.sat_wp (λi j C hi hj hC=>hc i j hi hj C hC) (λp hp=>⟨rfl,hp⟩) _ (KS.sort_ok O (by omega))
 exact Av (kat_run (Q:=λst' s2=>∃p:Array Nat,p.size=us.length∧arrOf st'=p.map (kas_item (ks.toArray.zip us.toArray))∧failedOf st'=none∧s2=s∧KS.Ok us.length p∧KS.Srt lt p us.length)
  hk h2 h (λp' st' s2 a1 a2 a3 a4=>⟨p',a1,a2,a3,a4⟩) tree) (λr s2 ⟨p,_,a2,a3,a4,a5,a6⟩=>⟨a4,p,a2,a3,a5,a6⟩) λ_ _ e=>e
def O8(n:Nat)(kd:Nat→PD):Prop:=n<2∨(∀i,∃ds,kd i= .lst ds)∨(∀i,i<n→∃d ds,kd i= .tup (.tup d::ds))∨∀i,i<n→∃x,kd i= .str x
section
variable{o:HO}
theorem Yu{kS:Addr}{f:Value}{vs:List V}{us:List Value}{kd:Nat→PD}{e1:Nat}{P:PySem.Fin→Shared→Prop}{E:Value→Shared→Prop}
 (I:Inv X ((a,Be "list" #[] e1)::(kS,Be "list" #[] 0)::pins) σ H s) (Fa:HS X pins H a) (Fk:HS X pins H kS) (ha0:X.s₀.heap.get? a=none) (hak:kS≠a) (rv:Vals vs us) (h64:us.length≤1000) (S:Nu us.length) (hcons:∀i j:Nat,i<us.length→j<us.length→us[i]?=us[j]?→kd i=kd j)
 (turn:∀i v u,vs[i]?=some v→us[i]?=some u→∀pins' s' H',Inv X pins' σ H' s'→Same H H'→wpAny (model X.prog X.w) X.A (call f [u]) (EP X pins' σ λkv H''=>Same H' H''∧Rep X.K H'' (kd i) kv) (λ_ _=>False) s')
 (hl:O8 us.length kd) (hd:∀i,X.A.units+2+Iw (kd i)<cLine)
 (hok:∀i j,i<us.length→j<us.length→HR (kd i) (kd j)=true) (O:KS.Ord λi j=>HZ (kd i) (kd j))
 (h:∀(p:Array Nat)s' H',KS.Ok us.length p→KS.Srt (λi j=>HZ (kd i) (kd j)) p us.length→Same H H'→H' a=none→Inv X pins σ (HD H' a (.lst (p.toList.map λi=>vs.getD i .non))) s'→P (.done (.ret .none)) s'):
 wpAny (model X.prog X.w) X.A (ksk_rest a f false us.toArray e1 (.ref kS)) P E s:=by
 have lv:=rv.length;unfold ksk_rest;refine Aa (Cf ?_);rw[List.forIn_toArray];refine Aa (ksk_fold (λi s'=>∃H' kvs kA e,Inv X ((a,Be "list" #[] e1)::(kS,Be "list" kA e)::pins) σ H' s'∧Same H H'∧Vals kvs kA.toList∧kvs.length=i∧∀j kv,kvs[j]?=some kv→Rep X.K H' (kd j) kv) us 0 s
  ⟨H,[],#[],0,I,Same.refl _,.nil,rfl,λj kv e=>by simp at e⟩ ?step ?done)
 case step=>
  rintro j x s' hx ⟨H1,kvs,kA,e,I1,S1,rk,lk,rp⟩;simp only[Eh] at lk ⊢;have hj:j<us.length:=(Aq.mp hx).1;obtain⟨v,hv⟩:∃v,vs[j]?=some v:=⟨_,Ay (by omega)⟩;refine Aa (DU (Av (turn j v x hv hx _ s' H1 I1 S1) (λu s2 he=>?_) λ_ _ hF=>hF.elim));obtain⟨kv,H2,I2,r2,S2,R2⟩:=he;dsimp only;obtain⟨nk,nk1,nk2,nk3,nk4⟩:=I2.pin (kS,Be "list" kA e) (Ag _ (.tail _ (.head _)));obtain⟨na,na1,na2,na3,na4⟩:=I2.pin (a,Be "list" #[] e1) (Ag _ (.head _));have hz:kA.size=j:=by
   have h1:kvs.length=kA.size:=by have:=rk.length;simpa using this
   rw[←h1,lk]
  have s1:=BG s2.heap kS (AJ (·.push u));obtain⟨c2,hc2⟩:∃c2,(s2.heap.update kS (AJ (·.push u))).get? kS=some (Be "list" (kA.push u) c2):=⟨_,get?_update_seq nk (·.push u)⟩;refine Aa (listUpdate_at nk rfl ?_ (by rw[sizeLine_eq];omega) (A2 (Nat.le_of_eq (Fm ..)) (by rw[sizeLine_eq];omega)));have I3:Inv X pins σ H2 s2:=I2.pins_of λp hp=>I2.pin p (Ag _ (.tail _ (.tail _ hp)));have I4:Inv X pins σ H2 {s2 with heap:=s2.heap.update kS (AJ (·.push u)),toks:=s2.toks}:=I3.turned (it:=kS) (λb o hb q=>(s1.2 b hb).trans q) nk1 nk2 Fk.2.2.2.1 Fk.2.2.2.2.1 Fk.2.2.2.2.2
  refine Ac ⟨rfl,H2,kvs++[kv],kA.push u,c2,I4.pins_of λp hp=>?_,S1.trans S2,?_,by rw[Az];simp[lk],λi kv' e'=>?_⟩
  · rcases As.mp hp with rfl | hp
    · exact⟨(s1.2 a hak.symm).trans na,na1,na2,na3,na4⟩
    · rcases As.mp hp with rfl | hp
      · exact⟨hc2,nk1,nk2,nk3,λv z=>by cases z⟩
      · exact I4.pin p (Ag _ hp)
  · rw[EH];exact rk.append (.cons r2 .nil)
  · rcases CU i kvs.length with h1 | h1
    · rw[Ct h1] at e';exact Rep.same S2 _ _ (rp i kv' e')
    · rw[Cn h1] at e';have:i=kvs.length:=by
       rcases CU (i - kvs.length) 1 with h2 | h2
       · omega
       · rw[Dk (by simpa using h2)] at e';cases e'
      subst this;simp at e';subst e';rw[lk];exact R2
 case done=>
  rintro s' ⟨H1,kvs,kA,e,I1,S1,rk,lk,rp⟩;rw[Eh] at lk;obtain⟨nk,nk1,nk2,nk3,nk4⟩:=I1.pin (kS,Be "list" kA e) (Ag _ (.tail _ (.head _)));obtain⟨na,na1,na2,na3,na4⟩:=I1.pin (a,Be "list" #[] e1) (Ag _ (.head _));refine Aa (listItems_at nk rfl ?_);obtain⟨ks,rfl⟩:∃ks:List Value,kA=ks.toArray:=⟨kA.toList,by simp⟩;simp only[C8] at rk;have lks:ks.length=us.length:=by have:=rk.length;omega
  have key:(∀i,i<us.length→∀kv,Rep X.K H1 (kd i) kv→∃l,kv=V.ref l)→∀i,i<us.length→∃(l:Addr)(kv:V),ks.getD i Value.none= .ref l∧kvs[i]?=some kv∧RelV kv (.ref l)∧Rep X.K H1 (kd i) kv:=λhrf i hi=>by obtain⟨kv,hkv⟩:∃kv,kvs[i]?=some kv:=⟨_,Ay (by omega)⟩;obtain⟨u,h1,h2⟩:=Vals.get rk hkv;have h3:=rp i kv hkv;obtain⟨l,rfl⟩:=hrf i hi kv h3;cases h2;exact⟨l,_,by rw[A7,h1];rfl,hkv,rfl,h3⟩
  have tail:∀(st':SortSt)(p:Array Nat),arrOf st'=p.map (kas_item (ks.toArray.zip us.toArray))→failedOf st'=none→KS.Ok us.length p→KS.Srt (λi j=>HZ (kd i) (kd j)) p us.length→wpAny (model X.prog X.w) X.A (ksk_tail a false e1 (.ref kS) st') P E s':=by
   intro st' p har hf ok srt;have hout:=kat_snds lks har;have hp:=ok.size;have s1:=BG s'.heap kS (AJ λ_=>(#[]:Array Value));have na':(s'.heap.update kS (AJ λ_=>(#[]:Array Value))).get? a=some (Be "list" #[] e1):=(s1.2 a hak.symm).trans na;have s2:=BG (s'.heap.update kS (AJ λ_=>(#[]:Array Value))) a (AJ λ_=>(arrOf st').map (·.2));obtain⟨c2,hc2⟩:∃c2,((s'.heap.update kS (AJ λ_=>(#[]:Array Value))).update a (AJ λ_=>(arrOf st').map (·.2))).get? a=some (Be "list" ((arrOf st').map (·.2)) c2):=
    ⟨_,get?_update_seq na' λ_=>(arrOf st').map (·.2)⟩
   unfold ksk_tail;dsimp only;refine Aa (listUpdate_at nk rfl ?_ (by rw[Al,sizeLine_eq];omega) (AC _));refine Aa (Ex ?_);refine Aa (seqEpoch_at na' rfl ?_);refine Aa (listUpdate_at na' rfl ?_ (AC _) (by simp only[A3,if_false];rw[hout];show(p.toList.map λi=>us.getD i Value.none).length≤_;rw[Ab,A0,hp,sizeLine_eq];omega));rw[hf];simp only[bne_self_eq_false,A3,if_false];have I3:Inv X pins σ H1 s':=I1.pins_of λp hp=>I1.pin p (Ag _ (.tail _ (.tail _ hp)));have I4:Inv X pins σ H1 {s' with heap:=s'.heap.update kS (AJ λ_=>(#[]:Array Value)),toks:=s'.toks}:=I3.turned (it:=kS) (λb o hb q=>(s1.2 b hb).trans q) nk1 nk2 Fk.2.2.2.1 Fk.2.2.2.2.1 Fk.2.2.2.2.2
   have I5:Inv X pins σ H1 {s' with heap:=(s'.heap.update kS (AJ λ_=>(#[]:Array Value))).update a (AJ λ_=>(arrOf st').map (·.2)),toks:=s'.toks}:=Inv.turned (s:={s' with heap:=s'.heap.update kS (AJ λ_=>(#[]:Array Value)),toks:=s'.toks}) (t':=s'.toks) (it:=a) I4 (λb o hb q=>(s2.2 b hb).trans q) na1 na2 Fa.2.2.2.1 Fa.2.2.2.2.1 Fa.2.2.2.2.2
   refine Ac (h p _ H1 ok srt S1 na1 (I5.track7 ⟨na1,Fa.2⟩ ha0 ?_));refine⟨by rw[Ab,A0,hp,sizeLine_eq];omega,p.toList.map λi=>us.getD i Value.none,c2,?_,?_⟩
   · have:∀l:List Nat,Vals (l.map λi=>vs.getD i .non) (l.map λi=>us.getD i Value.none):=λl=>by
      induction l with
      | nil=>exact .nil
      | cons i l ih=>
       refine .cons ?_ ih;show RelV (vs.getD i .non) (us.getD i Value.none);rcases CU i vs.length with h1 | h1
       · obtain⟨u,g1,g2⟩:=Vals.get rv (Ay h1);rw[A7,A7,g1,Ay h1];exact g2
       · rw[A7,A7,Dk h1,Dk (by omega)];rfl
     exact this _
   · rw[hout] at hc2 ⊢;exact hc2
  unfold ksk_end;dsimp only;simp only[A3,if_false];have hsz:us.toArray.size=us.length:=by simp
  by_cases h2:us.toArray.size<2
  · rw[if_pos h2,if_pos h2];refine Aa (Ac ?_);rw[StateT.run_pure];refine Aa (Ac ?_);have e1:=kas_range (ks.toArray.zip us.toArray);have e2:(ks.toArray.zip us.toArray).size=us.length:=by simp[lks]
    rw[e2] at e1;exact tail _ (AI us.length).toArray e1.symm rfl ⟨by simp⟩ (λi j hij hj=>absurd hj (by rw[hsz] at h2;omega))
  · rw[if_neg h2,if_neg h2];rw[hsz] at h2;obtain⟨κ,hkind,hgo⟩:∃κ,(∀Q:SortKind→Shared→Prop,Q κ s'→wpAny (model X.prog X.w) X.A (keyKind' ks.toArray) Q E s')∧∀i j,i<us.length→j<us.length→∀C:Bool→Shared→Prop,C (HZ (kd i) (kd j)) s'→wpAny (model X.prog X.w) X.A (keyLt' κ (ks.getD i Value.none) (ks.getD j Value.none)) C (λ_ _=>False) s':=by
     rcases hl with z | hl | hl | hl
     · omega
     · have key:=key λi _ kv r=>by
        obtain⟨ds,e⟩:=hl i;rw[e,Rep] at r;obtain⟨l,xs,z,_⟩:=r;exact⟨l,z⟩
       refine⟨oneType',λQ q=>kas_kind (T:= .type "list") (by omega) (λv hv=>?_) (by rfl) (by rfl) q,λi j hi hj C hC=>?_⟩
       · obtain⟨i,hi,rfl⟩:=Er hv;obtain⟨l,kv,g1,g2,g3,g4⟩:=key i (by omega);rw[A7,Ay hi] at g1;obtain⟨ds,hds⟩:=hl i;rw[hds,Rep] at g4;obtain⟨l',xs,rfl,g5,_⟩:=g4;cases g3;obtain⟨its,_,pl,_⟩:=I1.list g5;rw[show ks[i]= .ref _ from g1];exact YB pl.isList
       · obtain⟨l1,kv1,a1,a2,a3,a4⟩:=key i hi;obtain⟨l2,kv2,b1,b2,b3,b4⟩:=key j hj;rw[a1,b1];have k1:=hok i j hi hj;have hdi:=hd i;obtain⟨ds,hds⟩:=hl i;obtain⟨es,hes⟩:=hl j;rw[hds,hes] at k1 hC;rw[hds] at a4 hdi;rw[hes] at b4;rw[Rep] at a4 b4;obtain⟨m1,xs,rfl,q1,q2⟩:=a4;obtain⟨m2,ys,rfl,q3,q4⟩:=b4;cases a3;cases b3;obtain⟨its,r1,p1,_⟩:=I1.list q1;obtain⟨its',r2,p2,_⟩:=I1.list q3;rw[Iw] at hdi;rw[HR] at k1;rw[HZ] at hC;obtain⟨n,FA⟩:=M7 I1 X.A.in1 ds es xs ys its its' q2 q4 r1 r2 (by rw[AS];omega) k1;exact YI p1.isList p2.isList (by omega) FA hC
     · have key:=key λi hi kv r=>by
        obtain⟨d,ds,e⟩:=hl i hi;rw[e,Rep] at r;obtain⟨l,xs,z,_⟩:=r;exact⟨l,z⟩
       refine⟨tuples' false,λQ q=>?_,λi j hi hj C hC=>?_⟩
       · obtain⟨fs,f1,f2,f3⟩:=SJ (M:=model X.prog X.w) (h:=s'.heap) ks λv hv=>by
          obtain⟨i,hi,rfl⟩:=Er hv;obtain⟨l,kv,g1,g2,g3,g4⟩:=key i (by omega);rw[A7,Ay hi] at g1;obtain⟨d,ds,hds⟩:=hl i (by omega);rw[hds,Rep] at g4;obtain⟨l',xs,rfl,g5,g6⟩:=g4;cases g3;obtain⟨its,rv,⟨o,e,c,n,hd⟩,_⟩:=I1.tuple g5;rw[Reps] at g6;obtain⟨x,vr,rfl,g7,_⟩:=g6;rw[Rep] at g7;obtain⟨l2,xs2,rfl,g8,_⟩:=g7;cases rv with
          | cons ra rb=> cases ra;obtain⟨its2,_,⟨o2,e2,c2,_⟩,_⟩:=I1.tuple g8;refine⟨_,o,_,n,_,g1,e,c,hd,rfl,?_⟩;rw[←c2];exact(Looks.ld e2).andThen .now
         exact kat_kind (T:= .type "tuple") f1 (by omega) f3 (by rfl) q
       · obtain⟨l1,kv1,a1,a2,a3,a4⟩:=key i hi;obtain⟨l2,kv2,b1,b2,b3,b4⟩:=key j hj;rw[a1,b1];have k1:=hok i j hi hj;have hdi:=hd i;obtain⟨d,ds,hds⟩:=hl i hi;obtain⟨e,es,hes⟩:=hl j hj;rw[hds,hes] at k1 hC;rw[hds] at a4 hdi;rw[hes] at b4;rw[Rep] at a4 b4;obtain⟨m1,xs,rfl,q1,q2⟩:=a4;obtain⟨m2,ys,rfl,q3,q4⟩:=b4;cases a3;cases b3;obtain⟨its,r1,⟨o1,e1,_,n1,d1⟩,_⟩:=I1.tuple q1;obtain⟨its',r2,⟨o2,e2,_,n2,d2⟩,_⟩:=I1.tuple q3;rw[Iw] at hdi;rw[HR] at k1;rw[HZ] at hC;obtain⟨n,FA⟩:=M7 I1 X.A _ _ xs ys its its' q2 q4 r1 r2 (by omega) k1;exact kat_lt e1 d1 e2 d2 (Yw FA hC _ 0 rfl (AC _))
     · have hs:∀i,i<us.length→∃x t,ks.getD i Value.none= .str x t∧kd i= .str x:=λi hi=>by
        obtain⟨kv,hkv⟩:∃kv,kvs[i]?=some kv:=⟨_,Ay (by omega)⟩;obtain⟨u,h1,h2⟩:=Vals.get rk hkv;have h3:=rp i kv hkv;obtain⟨x,ex⟩:=hl i hi;rw[ex,Rep] at h3;subst h3;obtain⟨t,rfl⟩:=h2;exact⟨x,t,by rw[A7,h1];rfl,ex⟩
       refine⟨oneType',λQ q=>kas_kind (T:= .type "str") (by omega) (λv hv=>?_) (by rfl) (by rfl) q,λi j hi hj C hC=>?_⟩
       · obtain⟨i,hi,rfl⟩:=Er hv;obtain⟨x,t,g1,_⟩:=hs i (by omega);rw[A7,Ay hi] at g1;rw[show ks[i]= .str x t from g1];exact .now
       · obtain⟨x,t,a1,a2⟩:=hs i hi;obtain⟨y,t',b1,b2⟩:=hs j hj;rw[a1,b1];rw[a2,b2,HZ] at hC;rw[keyLt'_oneType];exact oneLt_str hC
    refine Aa (hkind _ ?_);refine Aa (Av (S _ _ _ E s' κ (λi j=>HZ (kd i) (kd j)) ks us lks rfl (by omega) O (λi j i' j' h1 h2 h3 h4 e1 e2=>?_) hgo) ?_ λ_ _ e=>e)
    · show HZ (kd i) (kd j)=HZ (kd i') (kd j');rw[hcons i i' h1 h3 e1,hcons j j' h2 h4 e2]
    · rintro⟨⟨⟩,st'⟩ s2 ⟨rfl,p,har,hf,ok,srt⟩;exact tail st' p har hf ok srt
end
open PySem PySem.Spec PyProof.Rows PySem.W
def Mg(M:Nat)(K:Ad)(sp:Sp):List V→Hp→VK→Prop:=λxs H Q=>∃(l:Addr)(vs:List V)(kd:Nat→PD),xs=[.ref l]∧SqL K H l vs∧vs.length≤M∧(∀v∈vs,∃a,v= .ref a)∧(∀i j:Nat,i<vs.length→j<vs.length→vs[i]?=vs[j]?→kd i=kd j)∧
 (∀i v,vs[i]?=some v→∀H1,Same H H1→∀Q1:VK,(∀kv H2,Same H1 H2→Rep K H2 (kd i) kv→Q1 kv H2)→sp [v] H1 Q1 E0)∧
 O8 vs.length kd∧(∀i,Iw (kd i)≤20)∧(∀i j,i<vs.length→j<vs.length→HR (kd i) (kd j)=true)∧KS.Ord (λi j=>HZ (kd i) (kd j))∧
 ∀(r:Addr)(p:Array Nat)(H':Hp),KS.Ok vs.length p→KS.Srt (λi j=>HZ (kd i) (kd j)) p vs.length→Same H H'→H r=none→H' r=some (.lst (p.toList.map λi=>vs.getD i .non))→Q (.ref r) H'
def SH(M:Nat)(K:Ad)(sp:Sp)(t:TA):TE:=λσ H Q=>t σ H λvs H1=>Mg M K sp vs H1 Q
theorem ZM{k M:Nat}(hM:M≤1000)(S:∀n,n≤M→Nu n){f:Addr}{fd:Bv}{sp:Sp}(F:FnOk X.prog X.w X.K X.mg X.base H_ k f fd [x] sp)(hb:Binds X.K fd [x] [])(hr:Room (k+2) X.A):RG X (.builtin "sorted") [Ca "key"] (λxs zs H Q=>zs=[.ref f]∧Mg M X.K sp xs H Q):=by
 intro pins s σ H xs zs us ws Q I r1 r2 h;obtain⟨rfl,l,vs,kd,rfl,hq,h64,hrf,hco,turn,hl,hd,hok,O,q⟩:=h;obtain⟨u,rfl,ru⟩:=JT r1;obtain⟨z,rfl,rz⟩:=JT r2;cases ru;cases rz;obtain⟨its,rv,pl,hz⟩:=I.list hq;have lv:=rv.length;show wpAny _ _ (call (.builtin "sorted") [.ref l] [(Ca "key",.ref f)]) _ _ _;refine call_function_entry_kw kind_sorted plain_sorted entry_sorted (ksk_s1 _ _) ?_;unfold Builtin.«sorted»;refine Aa (m:=checkCount "sorted" 1 1 _) (Ac ?_);refine Aa (collect_list pl.isList ?_ (by omega));refine Aa (wpAny_newList ?_ (by omega));have hsz:((s.heap.push (Be "list" #[] 0)).update s.heap.objs.size (AJ (· ++its.toArray))).objs.size=s.heap.objs.size+1:=by rw[Heap.size_update,size_push']
 have hoL:(((s.heap.push (Be "list" #[] 0)).update s.heap.objs.size (AJ (· ++its.toArray))).push (Be "list" its.toArray 0)).get? (s.heap.objs.size+1)=some (Be "list" its.toArray 0):=by rw[←hsz];exact Au _ rfl
 have keep:∀b o,s.heap.get? b=some o→(((s.heap.push (Be "list" #[] 0)).update s.heap.objs.size (AJ (· ++its.toArray))).push (Be "list" its.toArray 0)).get? b=some o:=λb o q=>by have hlt:b<s.heap.objs.size:=Ao q;rw[Heap.get?_push_ne _ _ _ (by rw[hsz];exact A5 (DN hlt)),FW _ _ _ _ (A5 hlt),Heap.get?_push_ne _ _ _ (A5 hlt)];exact q
 show wpAny _ _ _ _ _ {s with heap:=((s.heap.push (Be "list" #[] 0)).update s.heap.objs.size (AJ (· ++its.toArray))).push (Be "list" its.toArray 0)}
 rw[hsz];generalize hg:((s.heap.push (Be "list" #[] 0)).update s.heap.objs.size (AJ (· ++its.toArray))).push (Be "list" its.toArray 0)=g at hoL keep ⊢;refine Aa (AN (wpAny_call_entry_kw slot_list_sort ⟨_,hoL,rfl⟩ entry_list_sort ?body (ksk_l1 _ _)))
 case body=>
  show wpAny (model X.prog X.w) X.A.in1.in1 (Builtin.«list.sort» ⟨[.ref (s.heap.objs.size+1)],[(Ca "key",.ref f)]⟩) _ _ _;rw[ksk_t1];unfold ksk_tree;have ha:s.heap.objs.size+1<g.objs.size:=Ao hoL;refine Aa (listItems_at hoL rfl ?_);refine Aa (listUpdate_at hoL rfl ?_ (by rw[Al,sizeLine_eq];omega) (AC _));obtain⟨e1,ho1⟩:∃e1,(g.update (s.heap.objs.size+1) (AJ λ_=>#[])).get? (s.heap.objs.size+1)=some (Be "list" #[] e1):=⟨_,get?_update_seq hoL (λ_=>#[])⟩;refine Aa (seqEpoch_at ho1 rfl ?_);refine Aa (wpAny_newTuple ?_ (by show its.length≤_;rw[sizeLine_eq];omega));refine Aa (wpAny_newList ?_ (AC _));refine AN ?_;have ho6:(((g.update (s.heap.objs.size+1) (AJ λ_=>#[])).push (Be "tuple" its.toArray 0)).push (Be "list" #[] 0)).get? (s.heap.objs.size+1)=some (Be "list" #[] e1):=
   Ae _ (Ae _ ho1)
  have hkS:((g.update (s.heap.objs.size+1) (AJ λ_=>#[])).push (Be "tuple" its.toArray 0)).objs.size=g.objs.size+1:=by rw[size_push',Heap.size_update]
  have hok6:(((g.update (s.heap.objs.size+1) (AJ λ_=>#[])).push (Be "tuple" its.toArray 0)).push (Be "list" #[] 0)).get? (g.objs.size+1)=some (Be "list" #[] 0):=by rw[←hkS];exact Au _ rfl
  have kept:∀b o,s.heap.get? b=some o→(((g.update (s.heap.objs.size+1) (AJ λ_=>#[])).push (Be "tuple" its.toArray 0)).push (Be "list" #[] 0)).get? b=some o:=λb o q=>by refine Ae _ (Ae _ ?_);rw[FW _ _ _ _ (A5 (DN (Ao q)))];exact keep b o q
  show wpAny _ _ (ksk_rest _ _ _ _ _ (.ref ((g.update (s.heap.objs.size+1) (AJ λ_=>#[])).push (Be "tuple" its.toArray 0)).objs.size)) _ _ {s with heap:=((g.update (s.heap.objs.size+1) (AJ λ_=>#[])).push (Be "tuple" its.toArray 0)).push (Be "list" #[] 0)}
  rw[hkS];generalize((g.update (s.heap.objs.size+1) (AJ λ_=>#[])).push (Be "tuple" its.toArray 0)).push (Be "list" #[] 0)=g6 at ho6 hok6 kept ⊢;have Fa:HS X.in2 pins H (s.heap.objs.size+1):=I.in2.fpOk (Dr _) (I.hok.fresh (Dr _));have hle:s.heap.objs.size≤g.objs.size+1:=by omega
  have hne:g.objs.size+1≠s.heap.objs.size+1:=by omega
  have h64':its.length≤1000:=by omega
  have hcons:∀i j:Nat,i<its.length→j<its.length→its[i]?=its[j]?→kd i=kd j:=λi j hi hj e=>by refine hco i j (by omega) (by omega) ?_;obtain⟨v1,hv1⟩:∃v,vs[i]?=some v:=⟨_,Ay (by omega)⟩;obtain⟨v2,hv2⟩:∃v,vs[j]?=some v:=⟨_,Ay (by omega)⟩;obtain⟨u1,g1,g2⟩:=Vals.get rv hv1;obtain⟨u2,g3,g4⟩:=Vals.get rv hv2;obtain⟨a1,rfl⟩:=hrf v1 (Ak hv1);obtain⟨a2,rfl⟩:=hrf v2 (Ak hv2);rw[g1,g3] at e;cases g2;cases g4;cases e;rw[hv1,hv2]
  have Fk:HS X.in2 pins H (g.objs.size+1):=I.in2.fpOk hle (I.hok.fresh hle);have I6:Inv X.in2 pins σ H {s with heap:=g6}:=Inv.kept (t':=s.toks) I.in2 kept
  refine Yu (X:=X.in2) (pins:=pins) (σ:=σ) (H:=H) (vs:=vs) (kd:=kd) (I6.pins_of λp hp=>?_) Fa Fk (FG (Nat.le_succ_of_le I.sz)) hne rv h64' (S _ (by omega)) hcons (λi v u hv hu pins' s' H' I' S'=>?_) (by rw[←lv];exact hl) (λi=>?_) (by rw[←lv];exact hok) O λp s' H' ok srt S' hn I'=>?_
  · rcases As.mp hp with rfl | hp
    · exact⟨ho6,Fa.1,Fa.2.1,Fa.2.2.1,λv z=>by cases z⟩
    · rcases As.mp hp with rfl | hp
      · exact⟨hok6,Fk.1,Fk.2.1,Fk.2.2.1,λv z=>by cases z⟩
      · exact I6.pin p (Ag _ hp)
  · obtain⟨u',h1,h2⟩:=Vals.get rv hv;rw[hu] at h1;cases h1;exact R7 (X:=X.in2) F (Room.in1 (Room.in1 hr)) hb .nil QP I' (.cons h2 .nil) (turn i v hv H' S' _ λkv H2 s2 r2=>⟨s2,r2⟩)
  · have:=hd i;have:=hr.un;show X.A.units+1+1+2+Iw (kd i)<cLine;omega
  · refine⟨_,rfl,?_⟩;refine Ac ⟨_,rfl,?_⟩;rw[←lv] at ok srt;exact⟨.ref _,_,I'.out2 I.ok,rfl,q _ p _ ok srt (Jh S' Fa.1) Fa.1 HH⟩
theorem Yi{k M:Nat}(hM:M≤1000)(S:∀n,n≤M→Nu n){px:Str}{sp:Sp}{t:TA}{p1 p2 p3 pos:Pos}(G:Ib X.prog X.w X.K X.mg X.base k x [px] sp)(hr:Room (k+2) X.A)(hg:Gl X "sorted")(hm:X.mg "sorted"=none)(hx:Gl X x)(ha:PA X [e] t)(hks:(x==("__debug__":Str))=false:=by decide)
 (he:backTo pos (A6 [e] X.env)=(false,eval e X.env)::backTo pos (A6 [] X.env):=by rfl) (hpl:(backTo pos (A6 [e] X.env)).any (·.1)=false:=by rfl):
 PE X (.Call (.Name "sorted" p1) [e] [⟨some "key",.Name x p2,p3⟩] pos) (SH M X.K sp t):=by
 obtain⟨f,fd,h1,h2,h3,h4⟩:=G;have:=Yh (p:=p1) (pos:=pos) (ZM hM S h1 h2 hr) hg hm TB ha (Wj (nm:=some "key") (kpos:=p3) (M4 (v:= .ref f) (pos:=p2) hx h4 rfl hks) V3) rfl (by decide) (by decide) he hpl rfl rfl;intro pins s σ H Q I h;refine this pins s σ H Q I ?_;have e0:(λ(vs:List V)(H1:Hp)=>Mg M X.K sp vs H1 Q)=(λvs H1=>[V.ref f]=[V.ref f]∧Mg M X.K sp vs H1 Q):=by funext vs H1;simp
 have h':t σ H (λvs H1=>Mg M X.K sp vs H1 Q):=h;rw[e0] at h';exact h'
theorem Uy{k:Nat}{px:Str}{sp:Sp}{t:TA}{p1 p2 p3 pos:Pos}(G:Ib X.prog X.w X.K X.mg X.base k x [px] sp)(hr:Room (k+2) X.A)(hg:Gl X "sorted")(hm:X.mg "sorted"=none)(hx:Gl X x)(ha:PA X [e] t)(hks:(x==("__debug__":Str))=false:=by decide)
 (he:backTo pos (A6 [e] X.env)=(false,eval e X.env)::backTo pos (A6 [] X.env):=by rfl) (hpl:(backTo pos (A6 [e] X.env)).any (·.1)=false:=by rfl):
 PE X (.Call (.Name "sorted" p1) [e] [⟨some "key",.Name x p2,p3⟩] pos) (SH 63 X.K sp t):=Yi (by decide) (λn h=>Wv (by omega)) G hr hg hm hx ha hks he hpl
section
variable{base:Heap}{l:List Env}{H':Hp}{s0 s':Shared}{C t:Addr}{B h':Heap}
end
section
variable{H':Hp}{s':Shared}{C:Addr}
end
def del(H:Hp)(a:Addr):Hp:=λb=>if b=a then none else H b
section
variable{e C:Addr}
end
section
variable{g:Array GenState}{d:Drawn}{t:Nat}{os:OsState}{nm q:Str}{C N:Addr}{bs bm bmB:List Value}{hdct:Bool}{sn:List Str}{sub:List Value}
variable{ab:Bool}{col:Option Bool}{dd:Option Addr}{k0 k1 k2 k3 k5:Option Value}{B newId initId:String}{HI:List Value}
end
section
variable{g:Array GenState}{d:Drawn}{t:Nat}{os:OsState}{nm q:Str}{C N:Addr}{bs bm bmB:List Value}{hdct:Bool}{sn:List Str}{sub:List Value}
variable{ab:Bool}{col:Option Bool}{dd:Option Addr}{k0 k1 k2 k3 k5:Option Value}{B newId initId:String}{HI:List Value}
end
section
variable{K:Ad}{mg:Str→Option Value}{base:Heap}{N:List Str}{qual:Str}{f:Addr}{cd:Value}{outer:List Env}{E:XK}
end
section
variable{K:Ad}{mg:Str→Option Value}{base:Heap}{N:List Str}{qual:Str}{f:Addr}{cd:Value}{outer:List Env}{E:XK}
end
section
variable{E:XK}{C fI:Addr}{fd:Bv}{k:Nat}{e1:Expr}{t:TA}{np cpos:Pos}
end
section
variable{o:HO}
end
section
variable{pins':List (Addr×Obj)}{RR:St→Value→Hp→Prop}
end
section
variable{base:Heap}{l:List Env}{H':Hp}{s0 s':Shared}{C t:Addr}{B:Heap}
end
section
variable{M:Model}{g:Array GenState}{d:Drawn}{t:Nat}{os:OsState}{nm q nm0 q0:Str}{C N C0 N0 e:Addr}{bs bm bs0 bm0:List Value}{hdct hdct0:Bool}{sn sn0:List Str}{sub sub0:List Value}
variable{ab ab0:Bool}{col col0:Option Bool}{dd dd0:Option Addr}{k0 k1 k2 k3 k5 j0 j1 j2 j3 j5:Option Value}{newId newId0:String}{oe:Obj}
end
section
variable{C0:Addr}{n:Str}{body suite:List Stmt}{b₀:Stmt}{np hpos:Pos}{tb:(St→Value→Hp→Prop)→TS}{ts:TS}
end
open PySem.W (Looks looks_findIn looks_mroIn looks_typeIn)
section
variable{K:Ad}{g:Array GenState}{d:Drawn}{t:Nat}{os:OsState}{C:Addr}
end
def Lc:V→Value
 | .ref D=> .ref D
 | .ty n=> .type n
 | _=> .none
def O4:V→Bool
 | .ref _=>true
 | .ty _=>true
 | _=>false
theorem WW{c:V}(h:O4 c=true)(r:RelV c u):u=Lc c:=by
 cases c with
 | ref D=>exact r
 | ty n=>exact r
 | _=>cases h
theorem TC:∀{cs:List V}{us:List Value},cs.all O4=true→Vals cs us→us=cs.map Lc
 | [],_,_,.nil=>rfl
 | c::cs,_,h,.cons r rs=>by rw[C6,Bk] at h;rw[WW h.1 r,TC h.2 rs];rfl
end L2
namespace WB
structure Path(W:List Int)(l:List Int)(p q:Int):Prop where
 first:l.head?=some p
 last:l.getLast?=some q
 nd:l.Nodup
 posts:∀x∈l,Post W x
 adj:Adjs W l
theorem Pb{W:List Int}(w:Web W){p q:Int}(hp:Post W p)(hq:Post W q):Path W (wayB W p q) p q:=by have h:=W0 w hp hq;exact⟨by rw[List.head?_eq_getElem?];exact h.first,by rw[List.getLast?_eq_getElem?];exact h.last,h.nd,h.posts,h.adj⟩
theorem OU{W:List Int}(w:Web W){p x:Int}(hp:Post W p)(hx:Post W x)(h:Adj W p x):(x=par W p∧0<p)∨(p=par W x∧0<x):=by
 obtain⟨h0,h1⟩:=h;by_cases hle:x≤p
 · left
   rw[Fl hle,Int.min_eq_right hle] at h1;rw[Fl hle] at h0;rw[par_at hp h0] at h1;exact⟨(A4 h1).symm,h0⟩
 · right
   rw[Int.max_eq_right (by omega),Int.min_eq_left (by omega)] at h1;rw[Int.max_eq_right (by omega)] at h0;rw[par_at hx h0] at h1;exact⟨(A4 h1).symm,h0⟩
theorem Ux{W:List Int}(w:Web W){q:Int}:∀(HI:List Int)(p:Int),Adjs W (p::HI)→(p::HI).Nodup→(∀x∈p::HI,Post W x)→(p::HI).getLast?=some q→
 ∃c a b,Split W p q c a b∧p::HI=a++c::b.reverse
 | [],p,_,_,hx,hl=>by
  have:p=q:=by simpa using hl
  subst this;exact⟨p,[],[],⟨hx p (Ah ..),rfl,rfl,λx h=>by simp at h,λx h=>by simp at h⟩,rfl⟩
 | p2::HI,p,ha,hn,hx,hl=>by
  have hn2:=BC.mp hn;have hp:=hx p (Ah ..);have hp2:=hx p2 (Ai _ (Ah ..));obtain⟨c,a,b,s,e⟩:=Ux w HI p2 ha.2 hn2.2 (λx h=>hx x (Ai _ h)) (by simpa using hl);have hq:q∈p::p2::HI:=FL hl;have nq:=NF w (hx q hq);rcases OU w hp hp2 ha.1 with⟨e1,h0⟩ | ⟨e1,h0⟩
  · have eb:=bk_pos w hp h0;rw[←e1] at eb;have hlt:=par_lt w hp h0;rw[←e1] at hlt;refine⟨c,p::a,b,⟨s.pc,by rw[eb,s.ea];rfl,s.eb,λx hxm=>?_,λx hxm hx2=>?_⟩,by rw[e];rfl⟩
    · rcases As.mp hxm with rfl | hxm
      · intro z;rw[s.eb] at z;rcases AD.mp z with z | z
        · exact hn2.1 (by rw[e];exact Ag _ (Ai _ (by simpa using z)))
        · have z2:x∈bk W p2:=by rw[s.ea];exact Ag _ z
          have:=(L8 w p2 hp2 x z2).2.1;omega
      · exact s.na x hxm
    · rw[eb] at hx2;rcases As.mp hx2 with rfl | hx2
      · exact hn2.1 (by rw[e];exact Ag _ (Ai _ (by simpa using hxm)))
      · exact s.nb x hxm hx2
  · have eb:=bk_pos w hp2 h0;rw[←e1] at eb;have ea:=s.ea;obtain⟨tc,ec⟩:=bk_cons w s.pc;cases a with
    | nil=>
     have hc:p2=c:=by rw[ec,eb] at ea;injection ea
     subst hc;have eq:=s.eb;rw[eb] at eq;have eq':bk W q=(b++[p2])++bk W p:=by rw[eq];simp
     refine⟨p,[],b++[p2],⟨hp,rfl,eq',λx h=>by simp at h,λx h h2=>?_⟩,by rw[e];simp⟩;rw[eq',Ck] at nq;exact nq.2.2 x h x h2 rfl
    | cons y a=>
     exfalso;rw[eb,EU] at ea;injection ea with ey er
     have:p∈p2::HI:=by
      rw[e,EU];refine Ai _ ?_;have hm:p∈a++bk W c:=by rw[←er];obtain⟨t,et⟩:=bk_cons w hp;rw[et];exact Ah ..
      rw[ec] at er;obtain⟨t,et⟩:=bk_cons w hp;rw[et] at er;cases a with
      | nil=>injection er with er _;rw[er];exact Ag _ (Ah ..)
      | cons z a=>injection er with er _;rw[er];exact AF _ (Ah ..)
     exact hn2.1 this
theorem Md{W l:List Int}{p q:Int}(w:Web W)(h:Path W l p q):l=wayB W p q:=by
 cases l with
 | nil=>have:=h.first;simp at this
 | cons x HI=>
  have:x=p:=by have:=h.first;simpa using this
  subst this;obtain⟨c,a,b,s,e⟩:=Ux w HI x h.adj h.nd h.posts h.last;rw[s.way w];exact e
theorem Path.pre{W l a b:List Int}{p q x:Int}(h:Path W l p q)(e:l=a++x::b):Path W (a++[x]) p x:=by
 subst e;have nd:=h.nd;have f:=h.first
 refine⟨?_,by simp,?_,λy hy=>h.posts y ?_,h.adj.left a⟩
 · cases a with
   | nil=>simpa using f
   | cons y a=>simpa using f
 · rw[Ck] at nd ⊢;refine⟨nd.1,by simp,λy hy z hz=>?_⟩;rw[Ax] at hz;subst hz;exact nd.2.2 y hy z (Ah ..)
 · rcases AD.mp hy with z | z
   · exact AF _ z
   · rw[Ax.mp z];exact Ag _ (Ah ..)
def has(l:List Int)(x:Int):Bool:=l.any (λy=>y==x)
theorem has_iff{l:List Int}{x:Int}:has l x=true↔x∈l:=by
 unfold has;rw[Cq];constructor
 · rintro⟨y,hy,e⟩;rw[←eq_of_beq e];exact hy
 · intro h;exact⟨x,h,by simp⟩
theorem Zp{W:List Int}(w:Web W){p q x:Int}(hp:Post W p)(hq:Post W q):x∈wayB W q p↔x∈wayB W p q:=by rw[Sq w hp hq];simp
theorem Xt{W:List Int}(w:Web W){p:Int}(hp:Post W p):wayB W p p=[p]:=
 (Md w (l:=[p]) ⟨rfl,rfl,by simp,λx hx=>by rw[Ax.mp hx];exact hp,trivial⟩).symm
theorem Ow{W:List Int}(w:Web W){p x:Int}(hp:Post W p)(hx:Post W x)(h:Adj W p x):x≠p:=by
 rcases OU w hp hx h with⟨e,h0⟩ | ⟨e,h0⟩
 · have:=par_lt w hp h0;omega
 · have:=par_lt w hx h0;omega
theorem OF{W:List Int}(w:Web W){p x:Int}(hp:Post W p)(hx:Post W x)(h:Adj W p x):wayB W p x=[p,x]:=by
 refine(Md w (l:=[p,x]) ⟨rfl,rfl,?_,λy hy=>?_,⟨h,trivial⟩⟩).symm
 · have:=Ow w hp hx h;simp;exact λz=>this z.symm
 · simp at hy;rcases hy with rfl | rfl
   · exact hp
   · exact hx
theorem XQ{W:List Int}(w:Web W){p q x:Int}(hp:Post W p)(hq:Post W q)(hx:Post W x)(h:Adj W p x):x∈wayB W q p↔(p≠q∧(wayB W p q).take 2=[p,x]):=by
 rw[Zp w hp hq];have ne:=Ow w hp hx h;constructor
 · intro hm;refine⟨λz=>?_,?_⟩
   · subst z;rw[Xt w hp] at hm;exact ne (Ax.mp hm)
   · obtain⟨a,b,e⟩:=E4 hm;have:=Md w ((Pb w hp hq).pre e);rw[OF w hp hx h] at this;have e2:wayB W p q=[p,x]++b:=by rw[e,←this];simp
     rw[e2];rfl
 · rintro⟨_,hm⟩;have:x∈(wayB W p q).take 2:=by rw[hm];simp
   exact CP this
def kids(W:List Int)(p:Int):List Int:=((AI W.length).filter (λi=>W.getD i 0==p)).map (λ(i:Nat)=>(i:Int)+1)
def roads(W:List Int)(p:Int):List Int:=(if 0<p then [par W p] else [])++kids W p
theorem roads_adj{W:List Int}(w:Web W){p x:Int}(hp:Post W p)(hx:x∈roads W p):Post W x∧Adj W p x:=by
 unfold roads at hx;rcases AD.mp hx with z | z
 · by_cases h0:0<p
   · rw[if_pos h0,Ax] at z;subst z;exact⟨par_post w hp h0,OA w hp h0⟩
   · rw[if_neg h0] at z;simp at z
 · unfold kids at z;rw[AG] at z;obtain⟨i,hi,rfl⟩:=z;rw[BB,BJ] at hi;obtain⟨i1,i2⟩:=hi;have e:W.getD i 0=p:=eq_of_beq i2;have hx:Post W ((i:Int)+1):=⟨by omega,by omega⟩;have hpar:par W ((i:Int)+1)=p:=by
    unfold par;rw[show((i:Int)+1 - 1).toNat=i by omega];exact e
   have:=OA w hx (by omega);rw[hpar] at this;exact⟨hx,this.symm⟩
theorem Xw{W:List Int}(w:Web W){p x:Int}(hp:Post W p)(hx:Post W x)(h:Adj W p x):x∈roads W p:=by
 unfold roads;rcases OU w hp hx h with⟨e,h0⟩ | ⟨e,h0⟩
 · rw[if_pos h0];exact AF _ (by rw[e];simp)
 · refine Ag _ ?_;unfold kids;rw[AG];obtain⟨k,hk⟩:=Ci (show 0≤x - 1 by omega);refine⟨k,?_,by omega⟩;rw[BB,BJ];refine⟨by have:=hx.2;omega,?_⟩;rw[e];unfold par;rw[hk];simp
theorem kids_len(W:List Int)(p:Int):(kids W p).length≤W.length:=by unfold kids;rw[Ab];exact A2 (AE _ _) (by simp)
def sideL(W:List Int)(p q:Int):List Int:=((AI (W.length+1)).map (λ(i:Nat)=>(i:Int))).filter (λx=>has (wayB W x p) q)
theorem side_mem{W:List Int}{p q x:Int}:x∈sideL W p q↔Post W x∧q∈wayB W x p:=by
 unfold sideL;rw[BB,has_iff,AG];constructor
 · rintro⟨⟨i,hi,rfl⟩,h⟩;rw[BJ] at hi;exact⟨⟨by omega,by omega⟩,h⟩
 · rintro⟨hx,h⟩;exact⟨⟨x.toNat,BJ.mpr (by have:=hx.1;have:=hx.2;omega),by have:=hx.1;omega⟩,h⟩
end WB
namespace WB
theorem roads_len{W:List Int}(w:Web W)(p:Int):(roads W p).length≤24:=by
 have:=kids_len W p;have:=w.1;unfold roads;rw[Az]
 split<;>simp<;>omega
end WB
namespace L2
def NA:Sp:=λvs H Q _=>∃(a:Addr)(W:List Int)(p:Int),vs=[.ref a,.int p]∧WebAt H a W∧WB.Post W p∧∀l H',Same H H'→H l=none→H' l=some (.lst ((WB.roads W p).map V.int))→Q (.ref l) H'
def TW:Sp:=λvs H Q _=>∃(a:Addr)(W:List Int)(p q:Int),vs=[.ref a,.int p,.int q]∧WebAt H a W∧WB.Post W p∧WB.Post W q∧q∈WB.roads W p∧∀H',Same H H'→Q .non H'
section
variable{te:TE}{p2 p3 p4:Pos}
def Zl(te:TE):TE:=λσ H Q=>te σ H λx H1=>∃j:Nat,[x]=[V.int j]∧j≤10000∧∀l,H1 l=none→Q (.ref l) (HD H1 l (.lst (((AI j).map (λ(i:Nat)=>(i:Int))).map V.int)))
theorem zf6(hc:X.calm=true)(he:PE X e te)(hg:Gl X "list")(hm:X.mg "list"=none)(hg2:Gl X "range")(hm2:X.mg "range"=none)
 (h1:A6 [e] X.env=(false,eval e X.env)::A6 [] X.env:=by rfl)
 (h2:A6 [.Call (.Name "range" p2) [e] [] p3] X.env=(false,eval (.Call (.Name "range" p2) [e] [] p3) X.env)::A6 [] X.env:=by rfl)
 (h3:(backTo p3 (A6 [] X.env)).any (·.1)=false:=by rfl) (h4:(backTo pos (A6 [] X.env)).any (·.1)=false:=by rfl):
 PE X (.Call (.Name "list" p4) [.Call (.Name "range" p2) [e] [] p3] [] pos) (Zl te):=by
 intro pins s σ H Q I h;refine Bs (JV I hg hm JY ?_ (by decide) (by decide));refine Bx ?_ h2 h4;rw[h2];show wpAny _ _ (spliced ((false,eval (.Call (.Name "range" p2) [e] [] p3) X.env)::backTo pos (A6 [] X.env))) _ _ s;refine D0 ?_;refine Bs (JV I hg2 hm2 boot_range ?_ (by decide) (by decide));refine Bx (HJ (HB he HC h1 p3 pins s σ H (λvs H1=>∃j:Nat,vs=[V.int j]∧j≤10000∧∀l,H1 l=none→Q (.ref l) (HD H1 l (.lst (((AI j).map (λ(i:Nat)=>(i:Int))).map V.int)))) I h) λus s1 ⟨vs,H1,I1,r1,j,hv,hj,q⟩=>?_) h1 h3;subst hv;obtain⟨u1,rfl,v1⟩:=JT r1;obtain⟨t,rfl⟩:=v1;refine call_range_1 ?_;refine DK ?_;generalize hh:(s1.heap.push {cls:= .type "range",data:= .fields #[.int 0 s1.toks,.int (j:Int) t,.int 1 (s1.toks+1)]})=h2;have I2:Inv X pins σ H1 {s1 with heap:=h2,toks:=s1.toks+1+1}:=I1.kept λb o e=>by rw[←hh];exact Ae _ e
 have hr:IsRange h2 s1.heap.objs.size 0 j 1 s1.toks t (s1.toks+1):=by rw[←hh];exact IsRange.new ..
 have hsz:Fc 0 j 1=((j:Nat):Int):=by rw[rangeSize_one];split<;>omega
 refine call_list_range (s:={s1 with heap:=h2,toks:=s1.toks+1+1}) (I2.ok.hd hc) hr (small_one (by decide) (by decide) (by omega) (by omega)) hsz (by omega) λh' tk acc' c' hk hS' hacc=>?_
 have hn:H1 h2.objs.size=none:=I2.hok.fresh (Af _);refine⟨.ref h2.objs.size,HD H1 h2.objs.size (.lst (((AI j).map (λ(i:Nat)=>(i:Int))).map V.int)),I2.laid (t':=tk) hk (Af _) ?_,rfl,q _ hn⟩;refine⟨by rw[Ab,Ab,C2,sizeLine_eq];omega,acc'.toList,c',?_,by simpa using hS'⟩;have aux:∀(us:List Value)(k:Nat),(∀(i:Nat)(v:Value),us[i]?=some v→∃t,v= .int ((k+i:Nat):Int) t)→Vals (((List.range' k us.length).map (λ(i:Nat)=>(i:Int))).map V.int) us:=by
  intro us
  induction us with
  | nil=>intro k _;exact .nil
  | cons v us ih=> intro k hv;rw[A8,List.range'_succ,Am,Am];obtain⟨t,e⟩:=hv 0 v rfl;refine .cons ⟨t,by rw[e];rfl⟩ (ih (k+1) λi w hw=>?_);obtain⟨t,e⟩:=hv (i+1) w (by simpa using hw);exact⟨t,by rw[e];congr 1;omega⟩
 have:=aux acc'.toList 0 (λi v hv=>by obtain⟨t,e⟩:=hacc.2 i v (by simpa using hv);exact⟨t,by rw[e];congr 1;omega⟩);rw[A0,hacc.1] at this;rw[List.range_eq_range'];exact this
end
end L2
namespace WB
theorem nodup_len:∀(n:Nat)(l:List Int),l.Nodup→(∀x∈l,0≤x∧x<(n:Int))→l.length≤n
 | 0,l,_,h=>by
  cases l with
  | nil=>simp
  | cons x l=>have:=h x (Ah ..);omega
 | n+1,l,hn,h=>by
  by_cases hm:(n:Int)∈l
  · have h1:=nodup_len n (l.erase (n:Int)) (hn.erase _) (λx hx=>by
     rw[hn.mem_erase_iff] at hx;have:=h x hx.2;have h3:x≠(n:Int):=hx.1;omega)
    rw[E_ hm] at h1;omega
  · have:=nodup_len n l hn (λx hx=>by
     have h2:=h x hx;have:x≠(n:Int):=λz=>hm (z ▸ hx);omega)
    omega
theorem Path.cons{W l:List Int}{p q y:Int}(h:Path W l p q)(hy:Post W y)(ha:Adj W y p)(hm:y ∉ l):Path W (y::l) y q:=by
 cases l with
 | nil=>have:=h.first;simp at this
 | cons x l=>
  have:x=p:=by have:=h.first;simpa using this
  subst this;refine⟨rfl,?_,List.nodup_cons.mpr ⟨hm,h.nd⟩,λz hz=>?_,⟨ha,h.adj⟩⟩
  · rw[Ff];exact h.last
  · rcases As.mp hz with rfl | hz
    · exact hy
    · exact h.posts z hz
theorem Path.tail{W l:List Int}{p q y:Int}(h:Path W (p::y::l) p q):Path W (y::l) y q:=by refine⟨rfl,?_,(BC.mp h.nd).2,λz hz=>h.posts z (Ai _ hz),h.adj.2⟩;have:=h.last;rw[Ff] at this;exact this
theorem Xu{W:List Int}(w:Web W){x y p:Int}(hx:Post W x)(hy:Post W y)(hp:Post W p)(ha:Adj W x y):
 (y∈wayB W x p∧wayB W x p=x::wayB W y p)∨(y ∉ wayB W x p∧wayB W y p=y::wayB W x p):=by
 have P:=Pb w hx hp;by_cases hm:y∈wayB W x p
 · left
   refine⟨hm,?_⟩;obtain⟨a,b,e⟩:=E4 hm;have h1:=Md w (P.pre e);rw[OF w hx hy ha] at h1;have e2:wayB W x p=x::y::b:=by
    have:a++y::b=(a++[y])++b:=by simp
    rw[e,this,h1];rfl
   rw[e2] at P ⊢;rw[Md w P.tail]
 · right
   exact⟨hm,(Md w (P.cons hy ha.symm hm)).symm⟩
theorem side_closed{W:List Int}(w:Web W){p q x y:Int}(hp:Post W p)(hq:Post W q)(hpq:Adj W p q)(hx:x∈sideL W p q)(hy:y∈roads W x)(hyp:y≠p):y∈sideL W p q:=by
 obtain⟨px,mx⟩:=side_mem.mp hx;obtain⟨py,ay⟩:=roads_adj w px hy;refine side_mem.mpr ⟨py,?_⟩;rcases Xu w px py hp ay with⟨m,e⟩ | ⟨m,e⟩
 · rw[e] at mx;rcases As.mp mx with h | h
   · subst h;rw[OF w hq hp hpq.symm] at m;simp at m;rcases m with m | m
     · exact absurd m (Ow w px py ay)
     · exact absurd m hyp
   · exact h
 · rw[e];exact Ai _ mx
theorem side_self{W:List Int}(w:Web W){p q:Int}(hp:Post W p)(hq:Post W q)(hpq:Adj W p q):q∈sideL W p q:=by refine side_mem.mpr ⟨hq,?_⟩;obtain⟨t,e⟩:=Pt w hq hp;rw[e];exact Ah ..
theorem side_all{W:List Int}(w:Web W){p q:Int}(hp:Post W p)(hq:Post W q)(hpq:Adj W p q){F:List Int}(h0:q∈F)(hF:∀x∈F,∀y∈roads W x,y=p∨y∈F):∀x∈sideL W p q,x∈F:=by
 intro x hx;obtain⟨px,mx⟩:=side_mem.mp hx;have st:=(XQ w hp px hq hpq).mp mx;have P:=Pb w hp px;obtain⟨b,e⟩:∃b,wayB W p x=p::q::b:=by
  have:=st.2
  match hh:wayB W p x,this with
  | [],h=>simp at h
  | [a],h=>simp at h
  | a::c::b,h=>simp at h;exact⟨b,by rw[h.1,h.2]⟩
 rw[e] at P;have PT:=P.tail;have np:∀z∈q::b,z≠p:=λz hz h=>(BC.mp P.nd).1 (h ▸ hz);have all:∀(l:List Int)(q:Int),q∈F→Adjs W (q::l)→(∀z∈q::l,Post W z)→(∀z∈q::l,z≠p)→∀z∈q::l,z∈F:=by
  intro l
  induction l with
  | nil=>intro q hq _ _ _ z hz;rw[Ax.mp hz];exact hq
  | cons y l ih=>
   intro q hq ha hposts hnp z hz;have hy:y∈F:=by
    have hyr:=Xw w (hposts q (Ah ..)) (hposts y (Ai _ (Ah ..))) ha.1;rcases hF q hq y hyr with h | h
    · exact absurd h (hnp y (Ai _ (Ah ..)))
    · exact h
   rcases As.mp hz with rfl | hz
   · exact hq
   · exact ih y hy ha.2 (λz hz=>hposts z (Ai _ hz)) (λz hz=>hnp z (Ai _ hz)) z hz
 have hl:=PT.last;exact all b q h0 PT.adj PT.posts np x (FL hl)
end WB
namespace L2
open PySem.AutoSeq1 (wpAny_loadPart')
open PySem.MeetsSeq PySem.MeetsSeq2 PySem.MeetsSeq3 PySem.SeqRoads2
def EqIn(P:AU)(w:World)(A:Bn)(s:Shared)(y x:Value):Prop:=∀(E:Value→Shared→Prop)(Q:Bool→Shared→Prop),Q true s→wpAny (model P w) A (eqBool y x) Q E s
theorem EqIn.of{y x:Value}(h:DA A s y x true):EqIn P w A s y x:=λE Q q=>h P w E Q q
theorem Zd(l b:Addr)(items items2:Array Value)(n n2:Nat)(dd dd2:Option Addr)(sl sl2:Array (Option Value))(hsz:items.size=items2.size)(k:Nat):
 ∀i:Nat,items.size - i=k→∀(A:Bn)(R:Result→Shared→Prop)(s:Shared),s.heap.get? l=some {cls:= .type "list",dict:=dd,data:= .seq items n,slots:=sl}→s.heap.get? b=some {cls:= .type "list",dict:=dd2,data:= .seq items2 n2,slots:=sl2}→
  (∀j(h1:j<items.size)(h2:j<items2.size),EqIn P w A.in1 s items[j] items2[j])→R (.ok (.ret (.bool true))) s→
  wpAny (model P w) A.in1 (Builtin.«list.__eq__.loop» ⟨[.ref l,.ref b,rawInt i,rawInt 2],[]⟩) (λfin s'=>match fin with | .done f=>R (.ok f) s' | .again c'=>c'.quiet=true∧codeAny (model P w) A c' R s') (λe s'=>R (.error e) s') s:=by
 induction k with
 | zero=>
  intro i hk A R s hl hb he h;obtain⟨hp,g,d,tk,os⟩:=s
  wp_walk using A1 hl,A1 hb
  have o1:items[((i:Nat):Int).toNat]?=none:=by simp;omega
  have o2:items2[((i:Nat):Int).toNat]?=none:=by simp;omega
  rw[o1,o2]
  wp_walk using A1 hl,A1 hb
  show R (.ok (.ret (.bool (items.size==items2.size)))) _;rw[hsz];simpa using h
 | succ k ih=>
  intro i hk A R s hl hb he h;obtain⟨hp,g,d,tk,os⟩:=s
  wp_walk using A1 hl,A1 hb
  have lt1:i<items.size:=by omega
  have JL:i<items2.size:=by omega
  have o1:items[((i:Nat):Int).toNat]?=some items[i]:=by simp[lt1]
  have o2:items2[((i:Nat):Int).toNat]?=some items2[i]:=by simp[JL]
  have hc:((i:Int)+1)=((i+1:Nat):Int):=by push_cast;rfl
  rw[o1,o2];refine Aa (he i lt1 JL _ _ ?_)
  wp_walk
  rw[hc];exact⟨CJ plain_eq_loop _,BX entry_eq_loop (by rw[BD plain_eq_loop _];exact ih (i+1) (by omega) A R _ hl hb he h)⟩
theorem VO(l b:Addr)(items items2:Array Value)(n n2:Nat)(dd dd2:Option Addr)(sl sl2:Array (Option Value))(hsz:items.size=items2.size)(A:Bn)(R:Result→Shared→Prop)(s:Shared)
 (hl:s.heap.get? l=some {cls:= .type "list",dict:=dd,data:= .seq items n,slots:=sl}) (hb:s.heap.get? b=some {cls:= .type "list",dict:=dd2,data:= .seq items2 n2,slots:=sl2})
 (he:∀j(h1:j<items.size)(h2:j<items2.size),EqIn P w A.in1 s items[j] items2[j]) (h:R (.ok (.ret (.bool true))) s):
 wpAny (model P w) A.in1 (Builtin.«list.__eq__» ⟨[.ref l,.ref b],[]⟩) (λfin s'=>match fin with | .done f=>R (.ok f) s' | .again c'=>c'.quiet=true∧codeAny (model P w) A c' R s') (λe s'=>R (.error e) s') s:=by
 obtain⟨hp,g,d,tk,os⟩:=s;have f3:=DQ;have hne:¬(items.size !=items2.size)=true:=by simp[hsz]
 wp_walk using A1 hl,A1 hb
 exact⟨CJ plain_eq_loop _,BX entry_eq_loop (by rw[BD plain_eq_loop _];exact Zd l b items items2 n n2 dd dd2 sl sl2 hsz _ 0 rfl A R _ hl hb he h)⟩
theorem OG{l:Addr}{items items2:Array Value}{E:Value→Shared→Prop}{Q:Value→Shared→Prop}(hl:s.heap.IsList l items)(hb:s.heap.IsList b items2)(hsz:items.size=items2.size)(hu:A.units<cLine)
 (he:∀j(h1:j<items.size)(h2:j<items2.size),EqIn P w A.in1 s items[j] items2[j]) (h:Q (.bool true) s):wpAny (model P w) A (richCompare .Eq (.ref l) (.ref b)) Q E s:=by
 obtain⟨⟨c1,dd,data,sl⟩,ho,hc,n,hd⟩:=id hl;obtain⟨⟨c2,dd2,data2,sl2⟩,ho2,hc2,n2,hd2⟩:=id hb;simp only at hc hd hc2 hd2;subst hc hd hc2 hd2;refine Bz (op:= .Eq) ⟨_,ho,rfl⟩ ⟨_,ho2,rfl⟩ F.slot_list_eq ?_ hu;refine EK (Dn F.slot_list_eq.plain F.entry_list_eq (F.slot_list_eq.check _ _ _ _ _ _ _ _ ⟨_,ho,rfl⟩ (F.args_list_eq_2 _ _) ?_));exact VO l b items items2 n n2 dd dd2 sl sl2 hsz A (wants (λv s'=>v≠ .notImplemented∧Q v s') E) s ho ho2 he (show Value.bool true≠Value.notImplemented∧Q (.bool true) s from⟨(λx=>nomatch x),h⟩)
theorem Tw{l:Addr}{items items2:Array Value}{E:Value→Shared→Prop}{Q:Value→Shared→Prop}(hl:s.heap.IsTuple l items)(hb:s.heap.IsTuple b items2)(hsz:items.size=items2.size)(hu:A.units<cLine)
 (he:∀j(h1:j<items.size)(h2:j<items2.size),EqIn P w A.in1 s items[j] items2[j]) (h:Q (.bool true) s):wpAny (model P w) A (richCompare .Eq (.ref l) (.ref b)) Q E s:=by
 obtain⟨⟨c1,dd,data,sl⟩,ho,hc,n,hd⟩:=id hl;obtain⟨⟨c2,dd2,data2,sl2⟩,ho2,hc2,n2,hd2⟩:=id hb;simp only at hc hd hc2 hd2;subst hc hd hc2 hd2;refine Bz (op:= .Eq) ⟨_,ho,rfl⟩ ⟨_,ho2,rfl⟩ F.slot_tuple_eq (AR F.slot_tuple_eq ⟨_,ho,rfl⟩ F.entry_tuple_eq ?_ (F.args_tuple_eq_2 _ _)) hu;obtain⟨hp,g,d,tk,os⟩:=s;have f2:=EZ;have hZ:(items.toList.zip items2.toList).length=items.size:=by simp[hsz]
 wp_walk using A1 ho,A1 ho2,Bw _ (λHI b s'=>b.1=none∧s'=⟨hp,g,d,tk,os⟩∧∃i,HI=(items.toList.zip items2.toList).drop i) _
 case turn=>
  rintro⟨y,x⟩ HI b s' ⟨hb',rfl,i,hz⟩;have lt0:i<(items.toList.zip items2.toList).length:=by
   rcases CU i (items.toList.zip items2.toList).length with h' | h'
   · exact h'
   · rw[DR h'] at hz;cases hz
  have h1:i<items.size:=hZ ▸ lt0;have h2:i<items2.size:=hsz ▸ h1;rw[BY lt0] at hz;injection hz with hyx hrest
  have hy:y=items[i]:=by have:=congrArg Prod.fst hyx;simpa using this
  have hx:x=items2[i]:=by have:=congrArg Prod.snd hyx;simpa using this
  subst hy hx;refine Aa (he i h1 h2 _ _ ?_)
  wp_walk
  exact⟨rfl,rfl,i+1,hrest⟩
 case fin=>
  rintro⟨b1,b2⟩ s' ⟨hb',rfl,i,hz⟩;simp only at hb';subst hb'
  wp_walk
  refine⟨_,rfl,?_⟩;have e:Cv .Eq items.size items2.size=Value.bool true:=by simp[Cv,hsz]
  first | (rw[e];exact⟨(λx=>nomatch x),h⟩) | (simpa [Cv,hsz] using h)
 case h=>exact⟨rfl,rfl,0,rfl⟩
open PySem PySem.Spec PyProof.Rows PySem.Calls
section
variable{κ:Type}[DecidableEq κ]{knd:KeyKind P w κ}
theorem Y_{nm:String}{ka kb:List (κ×Value)}{Q:Bool→Shared→Prop}(ha:(a==BH)=false)(hb:(b==BH)=false)
 (da:s.heap.DictOf knd a ka) (db:s.heap.DictOf knd b kb) (hlen:ka.length=kb.length) (hits:∀(i:Nat)(k:κ)(v:Value),ka[i]?=some (k,v)→∃y,valueAt kb k=some y∧EqIn P w A s v y) (h:Q true s):
 wpAny (model P w) A (Fw nm a b) Q E s:=by
 obtain⟨o1,m1,p1,g1,_,d1,q1,z1,_⟩:=da;obtain⟨o2,m2,p2,g2,_,d2,q2,z2,_⟩:=db;have n1:ka.length=m1.size:=by rw[←z1.length];exact A0
 have n2:kb.length=m2.size:=by rw[←z2.length];exact A0
 have look:∀k,findBy knd.is m2 k=valueAt kb k:=λk=>by rw[←z2.find k];clear n2 z2 q2 d2 g2;obtain⟨l⟩:=m2;simp[findBy]
 have same:m1.size=m2.size:=by omega
 unfold Fw DZ;rw[if_neg (by rw[ha];exact An),if_neg (by rw[hb];exact An)];refine Aa (Ac (Aa (Ac (Aa (C4 g1 d1 ?_)))));dsimp only;refine Aa (C4 g2 d2 ?_);rw[if_neg (by rw[same];simp)];refine Aa (Du g1 d1 (Aa ?_));rw[Std.Legacy.Range.forIn_eq_forIn_range'];simp only[Std.Legacy.Range.size,EX,Nat.add_sub_cancel,Nat.div_one];refine Bw _ (λHI q s'=>s'=s∧q=(none,())∧∃i,HI=List.range' i (m1.size - i)∧i≤m1.size) _ ?_ ?_ _ _ ⟨rfl,rfl,0,by simp,AC _⟩
 · rintro x HI q s' ⟨rfl,rfl,i,hr,hi⟩;have lt0:i<m1.size:=by
    rcases CU i m1.size with z | z
    · exact z
    · rw[Nat.sub_eq_zero_of_le z] at hr;simp at hr
   obtain⟨rfl,ht⟩:x=i∧HI=List.range' (i+1) (m1.size - (i+1)):=by
    have e:m1.size - i=(m1.size - (i+1))+1:=by omega
    rw[e,List.range'_succ] at hr;injection hr with z1 z2
    exact⟨z1,z2⟩
   refine Aa (C4 g1 d1 ?_);rw[BF lt0];have lt1:x<ka.length:=by omega
   obtain⟨k,v,kv⟩:∃k v,ka[x]=(k,v):=⟨_,_,rfl⟩;have kv':ka[x]?=some (k,v):=by rw[Ay lt1,kv]
   obtain⟨hkey,hval⟩:=z1.get? (i:=x) (e:=m1[x]) (k:=k) (v:=v) (by rw[AZ];exact BF lt0) kv';obtain⟨k',hk',hh⟩:=q1 m1[x] (Array.getElem_mem lt0);have ekk:k'=k:=knd.inj _ _ _ hk' hkey;rw[ekk] at hh;obtain⟨y,hy,he⟩:=hits x k v kv';show wpAny _ _ (holding [m1[x].key,m1[x].val] _>>=_) _ _ _;rw[hh];refine Aa (AN (Aa (wpAny_dictFind_of hkey g2 d2 q2 ?_)));cases hj:m2.findIdx? λe=>knd.is k e.key with
   | none=>
    have:valueAt kb k=none:=by rw[←look k,findBy_of_findIdx?,hj]
    rw[this] at hy;cases hy
   | some j=>
    obtain⟨jlt,_,_⟩:=Array.findIdx?_eq_some_iff_getElem.mp hj;have hv':valueAt kb k=some m2[j].val:=by rw[←look k,findBy_of_findIdx?,hj];simp[BF jlt]
    refine Aa (C4 g2 d2 ?_);rw[BF jlt];have ey:m2[j].val=y:=A4 (hv'.symm.trans hy);rw[←ey,←hval] at he;refine AN (he _ _ ?_);show wpAny _ _ (if(!true)=true then _ else _) _ _ _
    rw[if_neg (by decide)];refine Aa (Du g1 d1 ?_);rw[if_neg (by simp)];exact Ac ⟨rfl,rfl,x+1,ht,lt0⟩
 · rintro q s' ⟨rfl,rfl,i,hr,hi⟩;exact Ac h
theorem NC{ka kb:List (κ×Value)}{Q:Value→Shared→Prop}(ha:(a==BH)=false)(hb:(b==BH)=false)
 (da:s.heap.DictOf knd a ka) (db:s.heap.DictOf knd b kb) (hu:A.units<cLine) (hlen:ka.length=kb.length) (hits:∀(i:Nat)(k:κ)(v:Value),ka[i]?=some (k,v)→∃y,valueAt kb k=some y∧EqIn P w A.in1 s v y) (h:Q (.bool true) s):
 wpAny (model P w) A (richCompare .Eq (.ref a) (.ref b)) Q E s:=by
 refine Bz (op:= .Eq) da.typeIs db.typeIs FM (AR FM da.typeIs PySem.F.entry_dict_eq ?_ (PySem.F.args_dict_eq_2 _ _)) hu;show wpAny _ _ (EM "__eq__" ⟨[.ref a,.ref b],[]⟩>>=_) _ _ s;unfold EM;refine Aa (Aa (wpAny_notOrdered_dict da.typeIs ?_));show wpAny _ _ (pure (Value.ref a,Value.ref b)) _ _ s;refine Ac (Aa (CS (T:="dict") db.typeIs PySem.F.sub_dict_dict ?_));simp only[Ce,A3,if_false];refine Aa (Ac (Aa (Ac (Aa (Y_ ha hb da db hlen hits ?_)))));exact Ac ⟨_,rfl,(λx=>nomatch x),by simpa using h⟩
end
inductive DY where
 | non
 | bl (b:Bool)
 | int (i:Int)
 | str (x:Str)
 | lst (ds:List DY)
 | tup (ds:List DY)
 | dic
 | da (d:DY)
mutual
def RepY(H:Hp):DY→V→Prop
 | .non,v=>v= .non
 | .bl b,v=>v= .bl b
 | .int i,v=>v= .int i
 | .str x,v=>v= .str x∧x.length≤900
 | .lst ds,v=>∃a xs,v= .ref a∧H a=some (.lst xs)∧ds.length≤900∧RepYs H ds xs
 | .tup ds,v=>∃a xs,v= .ref a∧H a=some (.tup xs)∧ds.length≤900∧RepYs H ds xs
 | .dic,v=>∃a,v= .ref a∧H a=some (.dK [])
 | .da d,v=>∃a u,v= .ref a∧H a=some (.dK [(.inr "a",u)])∧RepY H d u
def RepYs(H:Hp):List DY→List V→Prop
 | [],xs=>xs=[]
 | d::ds,xs=>∃x r,xs=x::r∧RepY H d x∧RepYs H ds r
end
mutual
theorem RepY.same{H':Hp}(s:Same H H'):∀(d:DY){v:V},RepY H d v→RepY H' d v
 | .non,v,h=>by rw[RepY] at*;exact h
 | .bl b,v,h=>by rw[RepY] at*;exact h
 | .int i,v,h=>by rw[RepY] at*;exact h
 | .str x,v,h=>by rw[RepY] at*;exact h
 | .lst ds,v,h=>by rw[RepY] at*;obtain⟨a,xs,e,h1,h0,h2⟩:=h;exact⟨a,xs,e,s _ _ h1,h0,RepYs.same s ds h2⟩
 | .tup ds,v,h=>by rw[RepY] at*;obtain⟨a,xs,e,h1,h0,h2⟩:=h;exact⟨a,xs,e,s _ _ h1,h0,RepYs.same s ds h2⟩
 | .dic,v,h=>by rw[RepY] at*;obtain⟨a,e,h1⟩:=h;exact⟨a,e,s _ _ h1⟩
 | .da d,v,h=>by rw[RepY] at*;obtain⟨a,u,e,h1,h2⟩:=h;exact⟨a,u,e,s _ _ h1,RepY.same s d h2⟩
theorem RepYs.same{H':Hp}(s:Same H H'):∀(ds:List DY){xs:List V},RepYs H ds xs→RepYs H' ds xs
 | [],xs,h=>by rw[RepYs] at*;exact h
 | d::ds,xs,h=>by rw[RepYs] at*;obtain⟨x,r,e,h1,h2⟩:=h;exact⟨x,r,e,RepY.same s d h1,RepYs.same s ds h2⟩
end
theorem RepYs.length:∀{ds:List DY}{xs:List V},RepYs H ds xs→xs.length=ds.length
 | [],xs,h=>by rw[RepYs] at h;rw[h];rfl
 | d::ds,xs,h=>by rw[RepYs] at h;obtain⟨x,r,rfl,_,h⟩:=h;rw[A8,A8,RepYs.length h]
theorem RepYs.get:∀{ds:List DY}{xs:List V}{i:Nat}{x:V},RepYs H ds xs→xs[i]?=some x→∃d,ds[i]?=some d∧RepY H d x
 | [],xs,i,x,h,e=>by rw[RepYs] at h;subst h;simp at e
 | d::ds,xs,0,x,h,e=>by rw[RepYs] at h;obtain⟨y,r,rfl,h1,h2⟩:=h;simp at e;subst e;exact⟨d,rfl,h1⟩
 | d::ds,xs,i+1,x,h,e=>by rw[RepYs] at h;obtain⟨y,r,rfl,h1,h2⟩:=h;simp at e;obtain⟨d',e1,e2⟩:=RepYs.get h2 e;exact⟨d',by simpa using e1,e2⟩
mutual
def Iu:DY→Nat
 | .lst ds=>Jp ds+1
 | .tup ds=>Jp ds+1
 | .da d=>Iu d+1
 | _=>0
def Jp:List DY→Nat
 | []=>0
 | d::ds=>max (Iu d) (Jp ds)
end
theorem NM{l:Addr}(h:∀(E:Value→Shared→Prop)(Q:Value→Shared→Prop),Q (.bool true) s→wpAny (model P w) A (richCompare .Eq (.ref l) (.ref b)) Q E s):EqIn P w A s (.ref l) (.ref b):=λE Q hq=>by
 by_cases e:l=b
 · subst e;exact Dt (.ref l) P w E Q hq
 · unfold eqBool;refine AN ?_;refine wpAny_ite_split (λhab=>absurd (by have:=eq_of_beq hab;injection this) e) (λ_=>?_);exact Aa (h E _ (Bf hq))
mutual
theorem OP(I:Inv X pins σ H s):∀(A:Bn)(d:DY)(v v':V)(u u':Value),RepY H d v→RepY H d v'→RelV v u→RelV v' u'→A.units+Iu d<cLine→EqIn X.prog X.w A s u u'
 | A,.non,v,v',u,u',h,h',r,r',z=>by rw[RepY] at h h';subst h h';exact EqIn.of (LF I A .non .non _ _ _ _ (by rw[Rep]) (by rw[Rep]) r r' (show A.units+0<cLine by omega))
 | A,.bl b,v,v',u,u',h,h',r,r',z=>by rw[RepY] at h h';subst h h';have:=LF I A (.bl b) (.bl b) _ _ _ _ (by rw[Rep]) (by rw[Rep]) r r' (show A.units+0<cLine by omega);rw[KE] at this;exact EqIn.of this
 | A,.int b,v,v',u,u',h,h',r,r',z=>by rw[RepY] at h h';subst h h';have:=LF I A (.int b) (.int b) _ _ _ _ (by rw[Rep]) (by rw[Rep]) r r' (show A.units+0<cLine by omega);rw[KE] at this;exact EqIn.of this
 | A,.str b,v,v',u,u',h,h',r,r',z=>by rw[RepY] at h h';obtain⟨rfl,_⟩:=h;obtain⟨rfl,_⟩:=h';have:=LF I A (.str b) (.str b) _ _ _ _ (by rw[Rep]) (by rw[Rep]) r r' (show A.units+0<cLine by omega);rw[KE] at this;exact EqIn.of this
 | A,.lst ds,v,v',u,u',h,h',r,r',z=>by rw[RepY] at h h';obtain⟨a,xs,rfl,h1,_,h2⟩:=h;obtain⟨a',xs',rfl,h1',_,h2'⟩:=h';cases(show u=Value.ref a from r);cases(show u'=Value.ref a' from r');obtain⟨_,its,n,rv,hg⟩:=(show ObjOk X.prog X.w H s.heap a (.lst xs) from I.hok a _ h1);obtain⟨_,its',n',rv',hg'⟩:=(show ObjOk X.prog X.w H s.heap a' (.lst xs') from I.hok a' _ h1');have l1:=h2.length;have l2:=h2'.length;have l3:=rv.length;have l4:=rv'.length;rw[Iu] at z;refine NM λE Q q=>OG ⟨_,hg,rfl,_,rfl⟩ ⟨_,hg',rfl,_,rfl⟩ (by simp only[Al];omega) (by omega) (λj k1 k2=>?_) q;have:=M5 I A.in1 ds xs xs' its its' h2 h2' rv rv' (by rw[AS];omega) j (by simpa using k1) (by simpa using k2);simpa using this
 | A,.tup ds,v,v',u,u',h,h',r,r',z=>by rw[RepY] at h h';obtain⟨a,xs,rfl,h1,_,h2⟩:=h;obtain⟨a',xs',rfl,h1',_,h2'⟩:=h';cases(show u=Value.ref a from r);cases(show u'=Value.ref a' from r');obtain⟨_,its,rv,o,hg,hc,_,n,hd⟩:=(show ObjOk X.prog X.w H s.heap a (.tup xs) from I.hok a _ h1);obtain⟨_,its',rv',o',hg',hc',_,n',hd'⟩:=(show ObjOk X.prog X.w H s.heap a' (.tup xs') from I.hok a' _ h1');have l1:=h2.length;have l2:=h2'.length;have l3:=rv.length;have l4:=rv'.length;rw[Iu] at z;refine NM λE Q q=>Tw ⟨_,hg,hc,_,hd⟩ ⟨_,hg',hc',_,hd'⟩ (by simp only[Al];omega) (by omega) (λj k1 k2=>?_) q;have:=M5 I A.in1 ds xs xs' its its' h2 h2' rv rv' (by rw[AS];omega) j (by simpa using k1) (by simpa using k2);simpa using this
 | A,.dic,v,v',u,u',h,h',r,r',z=>by rw[RepY] at h h';obtain⟨a,rfl,h1⟩:=h;obtain⟨a',rfl,h1'⟩:=h';cases(show u=Value.ref a from r);cases(show u'=Value.ref a' from r');obtain⟨_,hS,vs,rk,dd⟩:=K8 I.hok h1;obtain⟨_,hS',vs',rk',dd'⟩:=K8 I.hok h1';cases rk;cases rk';exact NM λE Q q=>NC hS hS' dd dd' (by omega) rfl (λi k v e=>by simp at e) q
 | A,.da d,v,v',u,u',h,h',r,r',z=>by
  rw[RepY] at h h';obtain⟨a,y,rfl,h1,h2⟩:=h;obtain⟨a',y',rfl,h1',h2'⟩:=h';cases(show u=Value.ref a from r);cases(show u'=Value.ref a' from r');obtain⟨_,hS,vs,rk,dd⟩:=K8 I.hok h1;obtain⟨_,hS',vs',rk',dd'⟩:=K8 I.hok h1';rw[Iu] at z;have l1:1=vs.length:=KV.length rk;have l2:1=vs'.length:=KV.length rk';refine NM λE Q q=>NC hS hS' dd dd' (by omega) (by omega) (λi k w e=>?_) q;cases rk with
  | cons p1 p2=>
   cases p2;cases rk' with
   | cons p1' p2'=>
    cases p2';rename_i kw kw';obtain⟨k0,w0⟩:=kw;obtain⟨k0',w0'⟩:=kw';obtain⟨e1,r1⟩:=p1;obtain⟨e1',r1'⟩:=p1';dsimp only at e1 e1' r1 r1';subst e1 e1';cases i with
    | succ i=>simp at e
    | zero=> simp at e;obtain⟨rfl,rfl⟩:=e;refine⟨w0',by simp[valueAt],OP I A.in1 d y y' w0 w0' h2 h2' r1 r1' (by rw[AS];omega)⟩
theorem M5(I:Inv X pins σ H s):∀(A:Bn)(ds:List DY)(vs ws:List V)(us ys:List Value),RepYs H ds vs→RepYs H ds ws→Vals vs us→Vals ws ys→A.units+Jp ds<cLine→
 ∀(j:Nat)(h1:j<us.length)(h2:j<ys.length),EqIn X.prog X.w A s us[j] ys[j]
 | A,[],vs,ws,us,ys,h,h',r,r',z=>by rw[RepYs] at h;subst h;cases r;intro j h1;simp at h1
 | A,d::ds,vs,ws,us,ys,h,h',r,r',z=>by
  rw[RepYs] at h h';obtain⟨x,q,rfl,g1,g2⟩:=h;obtain⟨x',q',rfl,g1',g2'⟩:=h';rw[Jp] at z;cases r with
  | cons r1 r2=>
   cases r' with
   | cons r1' r2'=>
    intro j h1 h2;cases j with
    | zero=>exact OP I A d x x' _ _ g1 g1' r1 r1' (by omega)
    | succ j=>exact M5 I A ds q q' _ _ g2 g2' r2 r2' (by omega) j (by simpa using h1) (by simpa using h2)
end
theorem XE(I:Inv X pins σ H s)(A:Bn)(d:DY)(v v':V)(u u':Value)(h:RepY H d v)(h':RepY H d v')(r:RelV v u)(r':RelV v' u')(z:A.units+Iu d<cLine){E:Value→Shared→Prop}{Q:Value→Shared→Prop}(q:Q (.bool true) s):
 wpAny (model X.prog X.w) A (richCompare .Eq u u') Q E s:=by
 cases d with
 | non=> rw[RepY] at h h';subst h h';exact NG I A .non .non _ _ _ _ (by rw[Rep]) (by rw[Rep]) r r' (show A.units+0<cLine by omega) X.prog X.w _ _ q
 | bl b=> rw[RepY] at h h';subst h h';have:=NG I A (.bl b) (.bl b) _ _ _ _ (by rw[Rep]) (by rw[Rep]) r r' (show A.units+0<cLine by omega);rw[KE] at this;exact this X.prog X.w _ _ q
 | int b=> rw[RepY] at h h';subst h h';have:=NG I A (.int b) (.int b) _ _ _ _ (by rw[Rep]) (by rw[Rep]) r r' (show A.units+0<cLine by omega);rw[KE] at this;exact this X.prog X.w _ _ q
 | str b=> rw[RepY] at h h';obtain⟨rfl,_⟩:=h;obtain⟨rfl,_⟩:=h';have:=NG I A (.str b) (.str b) _ _ _ _ (by rw[Rep]) (by rw[Rep]) r r' (show A.units+0<cLine by omega);rw[KE] at this;exact this X.prog X.w _ _ q
 | lst ds=> rw[RepY] at h h';obtain⟨a,xs,rfl,h1,_,h2⟩:=h;obtain⟨a',xs',rfl,h1',_,h2'⟩:=h';cases(show u=Value.ref a from r);cases(show u'=Value.ref a' from r');obtain⟨_,its,n,rv,hg⟩:=(show ObjOk X.prog X.w H s.heap a (.lst xs) from I.hok a _ h1);obtain⟨_,its',n',rv',hg'⟩:=(show ObjOk X.prog X.w H s.heap a' (.lst xs') from I.hok a' _ h1');have l1:=h2.length;have l2:=h2'.length;have l3:=rv.length;have l4:=rv'.length;rw[Iu] at z;refine OG ⟨_,hg,rfl,_,rfl⟩ ⟨_,hg',rfl,_,rfl⟩ (by simp only[Al];omega) (by omega) (λj k1 k2=>?_) q;have:=M5 I A.in1 ds xs xs' its its' h2 h2' rv rv' (by rw[AS];omega) j (by simpa using k1) (by simpa using k2);simpa using this
 | tup ds=> rw[RepY] at h h';obtain⟨a,xs,rfl,h1,_,h2⟩:=h;obtain⟨a',xs',rfl,h1',_,h2'⟩:=h';cases(show u=Value.ref a from r);cases(show u'=Value.ref a' from r');obtain⟨_,its,rv,o,hg,hc,_,n,hd⟩:=(show ObjOk X.prog X.w H s.heap a (.tup xs) from I.hok a _ h1);obtain⟨_,its',rv',o',hg',hc',_,n',hd'⟩:=(show ObjOk X.prog X.w H s.heap a' (.tup xs') from I.hok a' _ h1');have l1:=h2.length;have l2:=h2'.length;have l3:=rv.length;have l4:=rv'.length;rw[Iu] at z;refine Tw ⟨_,hg,hc,_,hd⟩ ⟨_,hg',hc',_,hd'⟩ (by simp only[Al];omega) (by omega) (λj k1 k2=>?_) q;have:=M5 I A.in1 ds xs xs' its its' h2 h2' rv rv' (by rw[AS];omega) j (by simpa using k1) (by simpa using k2);simpa using this
 | dic=> rw[RepY] at h h';obtain⟨a,rfl,h1⟩:=h;obtain⟨a',rfl,h1'⟩:=h';cases(show u=Value.ref a from r);cases(show u'=Value.ref a' from r');obtain⟨_,hS,vs,rk,dd⟩:=K8 I.hok h1;obtain⟨_,hS',vs',rk',dd'⟩:=K8 I.hok h1';cases rk;cases rk';exact NC hS hS' dd dd' (by omega) rfl (λi k v e=>by simp at e) q
 | da d=>
  rw[RepY] at h h';obtain⟨a,y,rfl,h1,h2⟩:=h;obtain⟨a',y',rfl,h1',h2'⟩:=h';cases(show u=Value.ref a from r);cases(show u'=Value.ref a' from r');obtain⟨_,hS,vs,rk,dd⟩:=K8 I.hok h1;obtain⟨_,hS',vs',rk',dd'⟩:=K8 I.hok h1';rw[Iu] at z;have l1:1=vs.length:=KV.length rk;have l2:1=vs'.length:=KV.length rk';refine NC hS hS' dd dd' (by omega) (by omega) (λi k w e=>?_) q;cases rk with
  | cons p1 p2=>
   cases p2;cases rk' with
   | cons p1' p2'=>
    cases p2';rename_i kw kw';obtain⟨k0,w0⟩:=kw;obtain⟨k0',w0'⟩:=kw';obtain⟨e1,r1⟩:=p1;obtain⟨e1',r1'⟩:=p1';dsimp only at e1 e1' r1 r1';subst e1 e1';cases i with
    | succ i=>simp at e
    | zero=> simp at e;obtain⟨rfl,rfl⟩:=e;refine⟨w0',by simp[valueAt],OP I A.in1 d y y' w0 w0' h2 h2' r1 r1' (by rw[AS];omega)⟩
def Qw:R2:=λx y H Q=>∃d,RepY H d x∧RepY H d y∧Iu d<60∧Q (.bl true) H
theorem Vu(hr:J4 X):Iv X (AY .Eq) Qw:=by intro pins s σ H x y v u Q I rx ry h;obtain⟨d,h1,h2,h3,q⟩:=h;unfold J4 at hr;exact XE I X.A d x y v u h1 h2 rx ry (by omega) ⟨.bl true,H,I,rfl,q⟩
theorem UD:JA X (.builtin "isinstance") (λxs H Q=>∃x t tp cs b,xs=[x,.ref tp]∧TyOf X.K H x (.type t)∧H tp=some (.tup cs)∧cs.all O4=true∧PySem.W.kitAny X.K (.type t) (cs.map Lc)=some b∧Q (.bl b) H):=by
 intro pins s σ H xs us Q I r h;obtain⟨x,t,tp,cs,b,rfl,ty,ht,hc,e,q⟩:=h;obtain⟨u,w',rfl,ru,rw'⟩:=Mw r;cases(show w'=Value.ref tp from rw');obtain⟨_,its,rv,o,h1,h2,h3,n,h4⟩:=(show ObjOk X.prog X.w H s.heap tp (.tup cs) from I.hok tp _ ht);obtain⟨oc,od,oda,osl⟩:=o;dsimp only at h2 h3 h4;subst h2 h3 h4;have hi:its=cs.map Lc:=TC hc rv;subst hi;have fin:∀tk,EP X pins σ Q (.bool b) {s with toks:=tk}:=λtk=>⟨.bl b,H,I.tok tk,rfl,q⟩
 generalize ht':(Value.type t)=T at ty e;cases ty with
 | non=>cases(show u=Value.none from ru);exact BZ PySem.W.kitx_none I.kIn True.intro h1 e (λz=>nomatch z) fin
 | bl y=>cases(show u=Value.bool y from ru);exact BZ PySem.W.kitx_bool I.kIn True.intro h1 e (λz=>nomatch z) fin
 | int i=>obtain⟨t,q⟩:=(show ∃t,u=Value.int i t from ru);cases q;exact BZ PySem.W.kitx_int I.kIn True.intro h1 e (λz=>nomatch z) fin
 | str y=>obtain⟨t,q⟩:=(show ∃t,u=Value.str y t from ru);cases q;exact BZ PySem.W.kitx_str I.kIn True.intro h1 e (λz=>nomatch z) fin
 | flt y=>obtain⟨t,q⟩:=(show ∃t,u=Value.float y t from ru);cases q;exact BZ PySem.W.kitx_float I.kIn True.intro h1 e (λz=>nomatch z) fin
 | @lst a xs ea=> cases(show u=Value.ref a from ru);obtain⟨_,_,n,_,g1⟩:=(show ObjOk X.prog X.w H s.heap a (.lst xs) from I.hok a _ ea);exact BZ DI I.kIn ⟨_,g1,rfl⟩ h1 e (λz=>nomatch z) fin
 | @tup a xs ea=> cases(show u=Value.ref a from ru);obtain⟨_,_,_,o,g1,g2,_⟩:=(show ObjOk X.prog X.w H s.heap a (.tup xs) from I.hok a _ ea);exact BZ PySem.W.kitx_tuple I.kIn ⟨o,g1,g2⟩ h1 e (λz=>nomatch z) fin
 | @dK a kvs ea=> cases(show u=Value.ref a from ru);obtain⟨_,_,vs,_,p⟩:=(show ObjOk X.prog X.w H s.heap a (.dK kvs) from I.hok a _ ea);obtain⟨o,es,ep,g1,g2,_⟩:=p;exact BZ DJ I.kIn ⟨o,g1,g2.1⟩ h1 e (λz=>nomatch z) fin
 | @frz a ob xs ea=> cases(show u=Value.ref a from ru);obtain⟨_,_,_,n,_,g1⟩:=(show ObjOk X.prog X.w H s.heap a (.frz ob (.lst xs)) from I.hok a _ ea);exact BZ DI I.kIn ⟨_,g1,rfl⟩ h1 e (λz=>nomatch z) fin
 | @dT a kvs ea=> cases(show u=Value.ref a from ru);obtain⟨_,_,xs,_,o,es,ep,g1,g2,_⟩:=(show ObjOk X.prog X.w H s.heap a (.dT kvs) from I.hok a _ ea);exact BZ DJ I.kIn ⟨o,g1,g2.1⟩ h1 e (λz=>nomatch z) fin
 | ins=>cases ht'
def O6(D:Nat)(sp:Nat→Sp):Sp:=λvs H Q E=>∃n,n≤D∧sp n vs H Q E
section
variable{K:Ad}{mg:Str→Option Value}{base:Heap}
def VV:Sp:=λ_ _ _ _=>False
theorem R3{st:Stmt}{f:Addr}{fd:Bv}{N ps:List Str}(F:Fun K x x st f fd)(S:FnScope N ps (HQ st))(b:Binds K fd ps [])(M:mg x=some (.ref f))(L:Nat)(sp:Nat→Sp)
 (step:∀n sp0,(∀m,n=m+1→sp0=sp m)→Ib P w K mg base (L+1+n) x ps sp0→FnOk P w K mg base H_ (L+1+n+1) f fd ps (sp n)):∀n,FnOk P w K mg base H_ (L+1+n+1) f fd ps (sp n)
 | 0=>step 0 VV (λm z=>by cases z) ⟨f,fd,F.ok (k:=L) S (λ_ _ _ _ h=>h.elim) (λ_ _ _ _ _ _ _ _ _ h=>h.elim),b,F.kp,M⟩
 | n+1=>step (n+1) (sp n) (λm z=>by cases z;rfl) ⟨f,fd,R3 F S b M L sp step n,b,F.kp,M⟩
theorem Xj{f:Addr}{fd:Bv}{ps:List Str}{L D:Nat}{sp:Nat→Sp}(h:∀n,FnOk P w K mg base H_ (L+1+n+1) f fd ps (sp n)):FnOk P w K mg base H_ (L+D+2) f fd ps (O6 D sp):=
 ⟨λvs H Q E ⟨n,_,q⟩=>(h n).len vs H Q E q,λA outer s H args us vs Q E hr he hb hv ⟨n,hn,q⟩=>(h n).run A outer s H args us vs Q E (hr.mono (by omega)) he hb hv q⟩
end
def MN(K:Ad):R2:=λx y H Q=>∃p xs i v,x= .ref p∧y= .int i∧(SqL K H p xs∨SqT K H p xs)∧IL xs i=some v∧Q v H
theorem VP:Ly X (MN X.K):=by
 intro value slice pins s σ H x y v u Q I rx ry h hs;obtain⟨p,xs,i,z,rfl,rfl,hq,he,q⟩:=h;rcases hq with hq | hq
 · exact IA value slice pins s σ H _ _ v u Q I rx ry ⟨p,xs,i,z,rfl,rfl,hq,he,q⟩ hs
 · exact JN value slice pins s σ H _ _ v u Q I rx ry ⟨p,xs,i,z,rfl,rfl,hq,he,q⟩ hs
theorem Sf(K:Ad)(h:X.K=K):Ly X (MN K):=by subst h;exact VP
def eD:Option Int→DY
 | none=> .non
 | some i=> .int i
theorem SK(H:Hp)(o:Option Int):RepY H (eD o) (eV o):=by
 cases o with
 | none=>show RepY H .non .non;rw[RepY]
 | some i=>show RepY H (.int i) (.int i);rw[RepY]
theorem Xb(o:Option Int):Iu (eD o)=0:=by cases o<;>rfl
theorem RepYs.nil:RepYs H [] []:=by rw[RepYs]
theorem RepYs.cons{d:DY}{ds:List DY}{x:V}(h:RepY H d x)(hs:RepYs H ds xs):RepYs H (d::ds) (x::xs):=by rw[RepYs];exact⟨x,xs,rfl,h,hs⟩
theorem OH{ds:List DY}(h:H a=some (.lst xs))(hs:RepYs H ds xs)(hl:xs.length≤900):RepY H (.lst ds) (.ref a):=by rw[RepY];exact⟨a,xs,rfl,h,by rw[←hs.length];exact hl,hs⟩
theorem Mh{ds:List DY}(h:H a=some (.tup xs))(hs:RepYs H ds xs)(hl:xs.length≤900):RepY H (.tup ds) (.ref a):=by rw[RepY];exact⟨a,xs,rfl,h,by rw[←hs.length];exact hl,hs⟩
theorem Ln:∀{ds:List DY}{m:Nat},(∀d∈ds,Iu d≤m)→Jp ds≤m
 | [],m,_=>by rw[Jp];exact AC _
 | d::ds,m,h=>by rw[Jp];have h1:=h d (Ah ..);have h2:=Ln λe he=>h e (Ai _ he);omega
theorem Pi:∀{ds:List DY}{d:DY},d∈ds→Iu d≤Jp ds
 | [],d,h=>nomatch h
 | e::ds,d,h=>by
  rw[Jp];rcases As.mp h with rfl | h
  · omega
  · have:=Pi h;omega
theorem Rr{a b:Option Int}(h:eV a=eV b):a=b:=by cases a<;>cases b<;>simp[eV] at h ⊢;exact h
theorem Uo:∀ps qs:List (Addr×WP),(∀p∈ps,H p.1=some (.tup [.str p.2.1,eV p.2.2.1,eV p.2.2.2]))→(∀p∈qs,H p.1=some (.tup [.str p.2.1,eV p.2.2.1,eV p.2.2.2]))→(ps.map λp=>V.ref p.1)=(qs.map λp=>V.ref p.1)→ps.map (·.2)=qs.map (·.2)
 | [],[],_,_,_=>rfl
 | [],_::_,_,_,h=>by simp at h
 | _::_,[],_,_,h=>by simp at h
 | p::ps,q::qs,h1,h2,h=>by
  rw[Am,Am,Dv] at h;have e1:p.1=q.1:=by injection h.1
  have a1:=h1 p Ah;have a2:=h2 q Ah;rw[e1,a2] at a1;have e2:p.2=q.2:=by obtain⟨_,f,lo,hi⟩:=p;obtain⟨_,f',lo',hi'⟩:=q;simp only[Option.some.injEq,HO.tup.injEq,Dv,V.str.injEq,and_true] at a1;obtain⟨z1,z2,z3⟩:=a1;rw[z1,Rr z2,Rr z3]
  rw[Am,Am,e2,Uo ps qs (λx hx=>h1 x (Ai _ hx)) (λx hx=>h2 x (Ai _ hx)) h.2]
theorem WishAt.inj{w w':List WP}(h:WishAt H a w)(h':WishAt H a w'):w=w':=by obtain⟨ps,rfl,e,f⟩:=h;obtain⟨qs,rfl,e',f'⟩:=h';rw[e] at e';simp only[Option.some.injEq,HO.tup.injEq] at e';exact Uo ps qs f f' e'
theorem K0{t u:TS}{D:Ends}(M:St→Hp→Prop)(h1:∀Z:St→Hp→Prop,(∀σ' H',M σ' H'→Z σ' H')→t {D with nx:=Z} σ H)(h2:∀σ' H',M σ' H'→u D σ' H'):KN t u D σ H:=h1 (u D) h2
theorem IW{v:V}{Q:St→Hp→Prop}(h:Q (σ.set i (some v)) H):JS i v σ H Q:=h
theorem WishAt.tyN{w:List WP}(h:WishAt H a w):∃xs,H a=some (.tup xs)∧xs.length=w.length:=by obtain⟨ps,rfl,e,_⟩:=h;exact⟨_,e,by simp⟩
structure WsAt(H:Hp)(l:Addr)(ws:List (Addr×List WP)):Prop where
 at':H l=some (.lst (ws.map λx=>V.ref x.1))
 ok:∀x∈ws,WishAt H x.1 x.2∧WOk x.2
 len:ws.length≤800
theorem WsAt.same{H':Hp}{l:Addr}{ws:List (Addr×List WP)}(h:WsAt H l ws)(s:Same H H'):WsAt H' l ws:=⟨s _ _ h.at',λx hx=>⟨(h.ok x hx).1.same s,(h.ok x hx).2⟩,h.len⟩
def Su:Sp:=λvs H Q _=>∃(l:Addr)(ws:List (Addr×List WP)),vs=[.ref l]∧WsAt H l ws∧∀H',Same H H'→Q (.bl true) H'
def Lk(w w':List WP):Bool:=IF Jt (w.map ky) (w'.map ky)
theorem WQ{a b:Option Int}(h:JP a=JP b):a=b:=by cases a<;>cases b<;>simp[JP] at h ⊢;exact h
theorem WJ{a b:Option Int}(h:JQ a=JQ b):a=b:=by cases a<;>cases b<;>simp[JQ] at h ⊢;exact h
theorem Vn{p q:WP}(h:ky p=ky q):p=q:=by obtain⟨f,lo,hi⟩:=p;obtain⟨f',lo',hi'⟩:=q;unfold ky at h;simp only[Prod.mk.injEq] at h ⊢;exact⟨h.1,WQ h.2.1,WJ h.2.2⟩
def KY(p:WP):DY:= .tup [.str p.1,eD p.2.1,eD p.2.2]
def KZ(w:List WP):DY:= .tup (w.map KY)
theorem U0:∀ps:List (Addr×WP),(∀p∈ps,H p.1=some (.tup [.str p.2.1,eV p.2.2.1,eV p.2.2.2]))→(∀p∈ps,p.2.1.length≤8)→RepYs H ((ps.map (·.2)).map KY) (ps.map λp=>V.ref p.1)
 | [],_,_=>RepYs.nil
 | p::ps,h,hl=>by refine RepYs.cons ?_ (U0 ps (λx hx=>h x (Ai _ hx)) λx hx=>hl x (Ai _ hx));refine Mh (h p Ah) (RepYs.cons ?_ (RepYs.cons (SK H _) (RepYs.cons (SK H _) RepYs.nil))) (by simp);rw[RepY];exact⟨rfl,A2 (hl p Ah) (by decide)⟩
theorem YV{w:List WP}(h:WishAt H a w)(ok:WOk w):RepY H (KZ w) (.ref a):=by obtain⟨ps,rfl,e,f⟩:=h;refine Mh e (U0 ps f λp hp=>?_) (by have:=ok.len;rw[Ab] at*;omega);exact(ok.ok p.2 (Ba hp)).1.eight
theorem U7:∀ws:List (Addr×List WP),(∀x∈ws,WishAt H x.1 x.2∧WOk x.2)→RepYs H ((ws.map (·.2)).map KZ) (ws.map λp=>V.ref p.1)
 | [],_=>RepYs.nil
 | x::ws,h=>RepYs.cons (YV (h x Ah).1 (h x Ah).2) (U7 ws λy hy=>h y (Ai _ hy))
theorem WsAt.repY{l:Addr}{ws:List (Addr×List WP)}(h:WsAt H l ws):RepY H (.lst ((ws.map (·.2)).map KZ)) (.ref l):=
 OH h.at' (U7 ws h.ok) (by have:=h.len;rw[Ab];omega)
theorem Ym(w:List WP):Iu (KZ w)≤2:=by
 unfold KZ;rw[Iu];have:Jp (w.map KY)≤1:=Ln λd hd=>by obtain⟨p,_,rfl⟩:=AG.mp hd;unfold KY;simp only[Iu,Jp,Xb];omega
 omega
theorem Pj(ws:List (List WP)):Iu (.lst (ws.map KZ))≤3:=by
 rw[Iu];have:Jp (ws.map KZ)≤2:=Ln λd hd=>by obtain⟨p,_,rfl⟩:=AG.mp hd;exact Ym p
 omega
open PySem.AutoSeq1 (wpAny_loadPart')
open PySem.MeetsSeq PySem.MeetsSeq2 PySem.MeetsSeq3 PySem.SeqRoads2 PySem.Calls
theorem ZJ(l b:Addr)(items items2:Array Value)(n n2:Nat)(dd dd2:Option Addr)(sl sl2:Array (Option Value))(hsz:items.size=items2.size)(k:Nat):
 ∀i:Nat,items.size - i=k→∀(A:Bn)(R:Result→Shared→Prop)(s:Shared),s.heap.get? l=some {cls:= .type "list",dict:=dd,data:= .seq items n,slots:=sl}→s.heap.get? b=some {cls:= .type "list",dict:=dd2,data:= .seq items2 n2,slots:=sl2}→
  (∀j(h1:j<items.size)(h2:j<items2.size),EqIn P w A.in1 s items[j] items2[j])→R (.ok (.ret (.bool false))) s→
  wpAny (model P w) A.in1 (Builtin.«list.__eq__.loop» ⟨[.ref l,.ref b,rawInt i,rawInt 3],[]⟩) (λfin s'=>match fin with | .done f=>R (.ok f) s' | .again c'=>c'.quiet=true∧codeAny (model P w) A c' R s') (λe s'=>R (.error e) s') s:=by
 induction k with
 | zero=>
  intro i hk A R s hl hb he h;obtain⟨hp,g,d,tk,os⟩:=s
  wp_walk using A1 hl,A1 hb
  have o1:items[((i:Nat):Int).toNat]?=none:=by simp;omega
  have o2:items2[((i:Nat):Int).toNat]?=none:=by simp;omega
  rw[o1,o2]
  wp_walk using A1 hl,A1 hb
  show R (.ok (.ret (.bool (items.size !=items2.size)))) _;rw[hsz];simpa using h
 | succ k ih=>
  intro i hk A R s hl hb he h;obtain⟨hp,g,d,tk,os⟩:=s
  wp_walk using A1 hl,A1 hb
  have lt1:i<items.size:=by omega
  have JL:i<items2.size:=by omega
  have o1:items[((i:Nat):Int).toNat]?=some items[i]:=by simp[lt1]
  have o2:items2[((i:Nat):Int).toNat]?=some items2[i]:=by simp[JL]
  have hc:((i:Int)+1)=((i+1:Nat):Int):=by push_cast;rfl
  rw[o1,o2];refine Aa (he i lt1 JL _ _ ?_)
  wp_walk
  rw[hc];exact⟨CJ plain_eq_loop _,BX entry_eq_loop (by rw[BD plain_eq_loop _];exact ih (i+1) (by omega) A R _ hl hb he h)⟩
theorem Vr(l b:Addr)(items items2:Array Value)(n n2:Nat)(dd dd2:Option Addr)(sl sl2:Array (Option Value))(hsz:items.size=items2.size)(A:Bn)(R:Result→Shared→Prop)(s:Shared)
 (hl:s.heap.get? l=some {cls:= .type "list",dict:=dd,data:= .seq items n,slots:=sl}) (hb:s.heap.get? b=some {cls:= .type "list",dict:=dd2,data:= .seq items2 n2,slots:=sl2})
 (he:∀j(h1:j<items.size)(h2:j<items2.size),EqIn P w A.in1 s items[j] items2[j]) (h:R (.ok (.ret (.bool false))) s):
 wpAny (model P w) A.in1 (Builtin.«list.__ne__» ⟨[.ref l,.ref b],[]⟩) (λfin s'=>match fin with | .done f=>R (.ok f) s' | .again c'=>c'.quiet=true∧codeAny (model P w) A c' R s') (λe s'=>R (.error e) s') s:=by
 obtain⟨hp,g,d,tk,os⟩:=s;have f3:=DQ;have hne:¬(items.size !=items2.size)=true:=by simp[hsz]
 wp_walk using A1 hl,A1 hb
 exact⟨CJ plain_eq_loop _,BX entry_eq_loop (by rw[BD plain_eq_loop _];exact ZJ l b items items2 n n2 dd dd2 sl sl2 hsz _ 0 rfl A R _ hl hb he h)⟩
theorem Wr{l:Addr}{items items2:Array Value}{E:Value→Shared→Prop}{Q:Value→Shared→Prop}(hl:s.heap.IsList l items)(hb:s.heap.IsList b items2)(hsz:items.size=items2.size)(hu:A.units<cLine)
 (he:∀j(h1:j<items.size)(h2:j<items2.size),EqIn P w A.in1 s items[j] items2[j]) (h:Q (.bool false) s):wpAny (model P w) A (richCompare .NotEq (.ref l) (.ref b)) Q E s:=by
 obtain⟨⟨c1,dd,data,sl⟩,ho,hc,n,hd⟩:=id hl;obtain⟨⟨c2,dd2,data2,sl2⟩,ho2,hc2,n2,hd2⟩:=id hb;simp only at hc hd hc2 hd2;subst hc hd hc2 hd2;refine Bz (op:= .NotEq) ⟨_,ho,rfl⟩ ⟨_,ho2,rfl⟩ F.slot_list_ne ?_ hu;refine EK (Dn F.slot_list_ne.plain F.entry_list_ne (F.slot_list_ne.check _ _ _ _ _ _ _ _ ⟨_,ho,rfl⟩ (F.args_list_ne_2 _ _) ?_));exact Vr l b items items2 n n2 dd dd2 sl sl2 hsz A (wants (λv s'=>v≠ .notImplemented∧Q v s') E) s ho ho2 he (show Value.bool false≠Value.notImplemented∧Q (.bool false) s from⟨(λx=>nomatch x),h⟩)
section
variable{κ:Type}[DecidableEq κ]{knd:KeyKind P w κ}
end
def Qx:R2:=λx y H Q=>∃a b xs,x= .ref a∧y= .ref b∧H a=some (.lst xs)∧H b=some (.lst [])∧Q (.bl xs.isEmpty) H
def Qu:R2:=λx y H Q=>∃a b xs,x= .ref a∧y= .ref b∧H a=some (.lst xs)∧H b=some (.lst [])∧Q (.bl (!xs.isEmpty)) H
theorem Vt(hr:J4 X):Iv X (AY .Eq) Qx:=by
 intro pins s σ H x y v u Q I rx ry h;obtain⟨a,b,xs,rfl,rfl,ha,hb,q⟩:=h;cases(show v=Value.ref a from rx);cases(show u=Value.ref b from ry);unfold J4 at hr;obtain⟨_,its,n,rv,hg⟩:=(show ObjOk X.prog X.w H s.heap a (.lst xs) from I.hok a _ ha);obtain⟨_,its',n',rv',hg'⟩:=(show ObjOk X.prog X.w H s.heap b (.lst []) from I.hok b _ hb);cases rv';cases xs with
 | nil=> cases rv;exact OG ⟨_,hg,rfl,_,rfl⟩ ⟨_,hg',rfl,_,rfl⟩ rfl (by omega) (λj k1 k2=>absurd k1 (by simp)) ⟨.bl true,H,I,rfl,q⟩
 | cons x xs=> have l:=rv.length;exact D5 (l:=a) (b:=b) ⟨_,hg,rfl,_,rfl⟩ ⟨_,hg',rfl,_,rfl⟩ (by simp;intro z;rw[z] at l;simp at l) (by omega) X.prog X.w _ _ ⟨.bl false,H,I,rfl,q⟩
theorem Rz(hr:J4 X):Iv X (AY .NotEq) Qu:=by
 intro pins s σ H x y v u Q I rx ry h;obtain⟨a,b,xs,rfl,rfl,ha,hb,q⟩:=h;cases(show v=Value.ref a from rx);cases(show u=Value.ref b from ry);unfold J4 at hr;obtain⟨_,its,n,rv,hg⟩:=(show ObjOk X.prog X.w H s.heap a (.lst xs) from I.hok a _ ha);obtain⟨_,its',n',rv',hg'⟩:=(show ObjOk X.prog X.w H s.heap b (.lst []) from I.hok b _ hb);cases rv';cases xs with
 | nil=> cases rv;exact Wr ⟨_,hg,rfl,_,rfl⟩ ⟨_,hg',rfl,_,rfl⟩ rfl (by omega) (λj k1 k2=>absurd k1 (by simp)) ⟨.bl false,H,I,rfl,q⟩
 | cons x xs=> have l:=rv.length;exact E9 (l:=a) (b:=b) ⟨_,hg,rfl,_,rfl⟩ ⟨_,hg',rfl,_,rfl⟩ (by simp;intro z;rw[z] at l;simp at l) (by omega) X.prog X.w _ _ ⟨.bl true,H,I,rfl,q⟩
theorem XM{v:V}{u:TS}{D:Ends}(h:u D (σ.set i (some v)) H):KN (KO (tC v) (JS i)) u D σ H:=h
theorem Oy:AQ "abs"=some (.builtin "abs"):=by decide+kernel
abbrev wM:Int:=2147483563
structure Well(H:Hp)(b g l:Addr)(n:Int):Prop where
 ex:∃(gs ls:List Int)(sd c:Int),H b=some (.lst [.ref g,.ref l,.int sd,.int c])∧H g=some (.lst (gs.map V.int))∧H l=some (.lst (ls.map V.int))∧
  gs.length≤63∧ls.length≤63∧(∀x∈ls,0≤x∧x<wM)∧0≤sd∧sd<wM∧0≤c∧c≤n
 gl:g≠l
 bg:b≠g
 bl:b≠l
theorem Well.mono{g l:Addr}{n m:Int}(B:Well H b g l n)(h:n≤m):Well H b g l m:=by obtain⟨⟨gs,ls,sd,c,h1,h2,h3,h4,h5,h6,h7,h8,h9,h10⟩,gl,bg,bl⟩:=B;exact⟨⟨gs,ls,sd,c,h1,h2,h3,h4,h5,h6,h7,h8,h9,Int.le_trans h10 h⟩,gl,bg,bl⟩
theorem Well.same{H':Hp}{g l:Addr}{n:Int}(B:Well H b g l n)(h:Same H H'):Well H' b g l n:=by obtain⟨⟨gs,ls,sd,c,h1,h2,h3,h4⟩,gl,bg,bl⟩:=B;exact⟨⟨gs,ls,sd,c,h _ _ h1,h _ _ h2,h _ _ h3,h4⟩,gl,bg,bl⟩
theorem Well.tup{g l:Addr}{n:Int}{H':Hp}(B:Well H b g l n)(s:SameB b g H H')(h:H a=some (.tup xs)):H' a=some (.tup xs):=by obtain⟨gs,ls,c,st,h1,h2,_⟩:=B.ex;exact s a _ h (Mt h h1 (by intro z;cases z)) (Mt h h2 (by intro z;cases z))
theorem Well.free{g l:Addr}{n:Int}(B:Well H b g l n){p:Addr}(h:H p=none):p≠b∧p≠g∧p≠l:=by obtain⟨gs,ls,c,st,h1,h2,h3,_⟩:=B.ex;exact⟨(IT h1 h).symm,(IT h2 h).symm,(IT h3 h).symm⟩
theorem Well.trk{g l:Addr}{n:Int}(B:Well H b g l n):H b≠none∧H g≠none:=by
 obtain⟨gs,ls,c,st,h1,h2,_⟩:=B.ex;refine⟨?_,?_⟩
 · rw[h1];exact FX _
 · rw[h2];exact FX _
theorem Well.back{H':Hp}{g l:Addr}{n:Int}(B:Well H' b g l n)(s:SameB b g H H'):∀a,H' a=Option.none→H a=Option.none:=λa h=>by
 cases e:H a with
 | none=>rfl
 | some o=> have h1:a≠b:=λz=>B.trk.1 (z ▸ h);have h2:a≠g:=λz=>B.trk.2 (z ▸ h);rw[s a o e h1 h2] at h;cases h
theorem Well.off{g l p:Addr}{n:Int}{o:HO}(B:Well H b g l n)(pb:p≠b)(pg:p≠g)(pl:p≠l):Well (HD H p o) b g l n:=by obtain⟨gs,ls,c,st,e1,e2,e3,r⟩:=B.ex;exact⟨⟨gs,ls,c,st,by rw[HV pb.symm];exact e1,by rw[HV pg.symm];exact e2,by rw[HV pl.symm];exact e3,r⟩,B.gl,B.bg,B.bl⟩
theorem WishAt.sameW{H':Hp}{g l:Addr}{n:Int}{w:List WP}(h:WishAt H a w)(B:Well H b g l n)(s:SameB b g H H'):WishAt H' a w:=h.keep λ_ _ e=>B.tup s e
theorem WsAt.sameW{H':Hp}{g m:Addr}{n:Int}{l:Addr}{ws:List (Addr×List WP)}(h:WsAt H l ws)(B:Well H b g m n)(lb:l≠b)(lg:l≠g)(s:SameB b g H H'):WsAt H' l ws:=⟨s _ _ h.at' lb lg,λx hx=>⟨(h.ok x hx).1.sameW B s,(h.ok x hx).2⟩,h.len⟩
theorem J5{m:Int}(h:m≤10^6):m<2^500:=Int.lt_of_le_of_lt h (by decide)
def Rl(K:Ad):Sp:=λvs H Q _=>∃(a:Addr)(ns:List Int),vs=[.ref a]∧SqL K H a (ns.map V.int)∧ns.length≤63∧
 ∀(b g l:Addr)(H':Hp),Well H' b g l 0→Same H H'→H b=none→H g=none→Q (.ref b) H'
def Ri:Sp:=λvs H Q _=>∃(b g l:Addr)(n many:Int),vs=[.ref b,.int many]∧Well H b g l n∧n≤2^40∧0<many∧many<2^500∧
 ∀(r:Int)(H':Hp),0≤r→r<many→Well H' b g l (n+1)→SameB b g H H'→Q (.int r) H'
def RC:Sp:=λvs H Q _=>∃(b g l:Addr)(n most:Int),vs=[.ref b,.int most]∧Well H b g l n∧n≤10^8∧1≤most∧most≤8∧
 ∀(x:Str)(H':Hp),FieldOk x→Well H' b g l (n+12)→SameB b g H H'→Q (.str x) H'
def R8:Sp:=λvs H Q _=>∃(b g l:Addr)(n:Int),vs=[.ref b]∧Well H b g l n∧n≤10^9∧∀(r:Int)(H':Hp), -(10^15)<r→r<10^15→Well H' b g l (n+5)→SameB b g H H'→Q (.int r) H'
def R9:Sp:=λvs H Q _=>∃(b g l:Addr)(n:Int),vs=[.ref b]∧Well H b g l n∧n≤10^8∧
 ∀(t:Addr)(lo sz:Int)(H':Hp),H' t=some (.tup [.int lo,.int sz])→ -(10^15)<lo→lo<10^15→1≤sz→sz≤10^10→Well H' b g l (n+12)→SameB b g H H'→Q (.ref t) H'
def S9:Sp:=λvs H Q _=>∃(b g l t:Addr)(n lo sz wide:Int),vs=[.ref b,.ref t,.int wide]∧Well H b g l n∧n≤10^8∧H t=some (.tup [.int lo,.int sz])∧1≤sz∧sz≤10^10∧1≤wide∧wide≤100∧
 ∀(r:Addr)(a b':Option Int)(H':Hp),H' r=some (.tup [eV a,eV b'])→KU a b'=true→Well H' b g l (n+3)→SameB b g H H'→Q (.ref r) H'
def Mq(fs:List Str)(w:List WP):Prop:=∀p∈w,p.1∈fs
structure NamesAt(H:Hp)(b g:Addr)(a:Addr)(fs:List Str):Prop where
 at':H a=some (.lst (fs.map V.str))
 nb:a≠b
 ng:a≠g
 len:fs.length≤6
 ok:∀f∈fs,FieldOk f
 asc:fs.Pairwise Jy
theorem NamesAt.sameB{H':Hp}{g:Addr}{fs:List Str}(h:NamesAt H b g a fs)(s:SameB b g H H'):NamesAt H' b g a fs:=⟨s _ _ h.at' h.nb h.ng,h.nb,h.ng,h.len,h.ok,h.asc⟩
def SD:Sp:=λvs H Q _=>∃(b g l a t:Addr)(n lo sz wide:Int)(fs:List Str),vs=[.ref b,.ref a,.ref t,.int wide]∧Well H b g l n∧n≤10^7∧NamesAt H b g a fs∧H t=some (.tup [.int lo,.int sz])∧1≤sz∧sz≤10^10∧1≤wide∧wide≤100∧
 ∀(r:Addr)(w:List WP)(H':Hp),WishAt H' r w→WOk w→Mq fs w→w.length≤6→Well H' b g l (n+30)→SameB b g H H'→Q (.ref r) H'
def Ud:Sp:=λvs H Q _=>∃(b g l a t:Addr)(n lo sz wide many:Int)(fs:List Str),vs=[.ref b,.ref a,.ref t,.int wide,.int many]∧Well H b g l n∧n≤10^6∧NamesAt H b g a fs∧H t=some (.tup [.int lo,.int sz])∧1≤sz∧sz≤10^10∧1≤wide∧wide≤100∧0≤many∧many≤400∧
 ∀(r:Addr)(ws:List (Addr×List WP))(H':Hp),H r=none→WsAt H' r ws→(ws.length:Int)=many→(∀x∈ws,Mq fs x.2∧x.2.length≤6)→Well H' b g l (n+40*many)→SameB b g H H'→Q (.ref r) H'
def Wo:V→Option Int→Option Int→Hp→VK→Prop:=λx lo hi H Q=>∃y:Str,x= .str y∧y.length≤100000∧∀z:Str,z.length≤y.length→(∀j,hi=some j→0≤j→(z.length:Int)≤j)→(∀c∈z.cps.toList,c∈y.cps.toList)→(∀j,lo=none→hi=some j→1≤j→1≤y.length→1≤z.length)→Q (.str z) H
theorem YK(lo hi:Option Int)(n:Nat):(AM lo hi 1 n).length≤n∧(∀j,hi=some j→0≤j→((AM lo hi 1 n).length:Int)≤j)∧(∀j,lo=none→hi=some j→1≤j→1≤n→0∈AM lo hi 1 n):=by
 refine⟨indices_len_le lo hi n,λj e h0=>?_,λj e1 e2 h1 h2=>?_⟩
 · subst e;unfold AM sliceRange;cases lo<;>simp only[show(1:Int)>0 by decide,if_true,Ab,C2]<;>(split<;>(try split)<;>(try split)<;>(try simp only[Int.ediv_one])<;>omega)
 · subst e1 e2;unfold AM sliceRange;simp only[show(1:Int)>0 by decide,if_true];refine List.mem_map.mpr ⟨0,BJ.mpr ?_,?_⟩
   · have:¬j<0:=by omega
     simp only[this,if_false,Int.ediv_one]
     split<;>omega
   · simp
theorem OK:Mr X Wo:=by
 intro pins s σ H x v vl vu lo hi sl Q I rx hs pl pu h;obtain⟨y,rfl,hl,q⟩:=h;obtain⟨t,rfl⟩:=(show ∃t,v=Value.str y t from rx);obtain⟨l,el,e1⟩:∃l:Option (Int×Tok),vl=partValue l∧l.map (·.1)=lo:=by
  cases pl with
  | none=>exact⟨none,rfl,rfl⟩
  | int i t=>exact⟨some (i,t),rfl,rfl⟩
 obtain⟨u,eu,e2⟩:∃l:Option (Int×Tok),vu=partValue l∧l.map (·.1)=hi:=by
  cases pu with
  | none=>exact⟨none,rfl,rfl⟩
  | int i t=>exact⟨some (i,t),rfl,rfl⟩
 have hS:s.heap.IsSlice sl l u none:=by obtain⟨o,h1,h2,h3⟩:=hs;exact⟨o,h1,h2,by rw[h3,el,eu];rfl⟩
 have pk:slicePicked y l u none=AM lo hi 1 y.length:=by unfold slicePicked;rw[e1,e2];rfl
 obtain⟨p1,p2,p3⟩:=YK lo hi y.length;have hsz:(100000:Nat)≤Aw:=by decide
 refine⟨"str",_,F.slot_str_getitem.lookup,typeIs_str s y t,?_⟩;refine getItem_meets (typeIs_str s y t) (by decide) F.slot_str_getitem F.entry_str_getitem (F.args_str_getitem_2 _ _) (meets_str_getitem_slice y t sl l u none rfl) ⟨hS,?_⟩;unfold sliceMade;rw[pk]
 split
 · rename_i hc;have hc:(AM lo hi 1 y.length).length=y.length:=by simpa using hc
   exact⟨.str y,H,I,⟨t,rfl⟩,q y (Af _) (λj e h0=>by have:=p2 j e h0;omega) (λc hc=>hc) λ_ _ _ _ z=>z⟩
 · have hz:(⟨((AM lo hi 1 y.length).filterMap (y.cps[·]?)).toArray⟩:Str).length≤(AM lo hi 1 y.length).length:=by
    show(List.filterMap _ _).toArray.size≤_;rw[Al];exact List.length_filterMap_le _ _
   refine⟨by omega,⟨.str _,H,I.tok _,⟨_,rfl⟩,q _ (by omega) (λj e h0=>by have:=p2 j e h0;omega) (λc hc=>?_) λj f1 f2 f3 f4=>?_⟩⟩
   · have hc:c∈(AM lo hi 1 y.length).filterMap (y.cps[·]?):=by simpa using hc
     obtain⟨i,_,hi'⟩:=CY.mp hc;exact Dm.mpr (Array.mem_of_getElem? hi')
   · have m0:=p3 j f1 f2 f3 f4;show 1≤(List.filterMap _ _).toArray.size;rw[Al];have h0:0<y.cps.size:=f4;have:y.cps[0]'h0∈(AM lo hi 1 y.length).filterMap (y.cps[·]?):=CY.mpr ⟨0,m0,by simp[h0]⟩;exact Fx this
theorem ZQ(elt t0 i0 t1 i1:Expr)(f0 f1:List Expr)(scope:Scope)(pos:Pos)(it acc:Value)(env:Env):
 compTurn (.ListComp elt [⟨t0,i0,f0,0⟩,⟨t1,i1,f1,0⟩] scope pos) 0 it acc env=(do
  standAt i0.pos
  match ←pyNext it with
  | none=>pure (.done .next)
  | some v=>
   BL t0 it v
   assign t0 env v
   let mut ok:=true
   for c in f0 do
    if ok then ok ←isTrue c env (eval c env)
   if ok then
    let x ←eval i1 env
    standAt i1.pos
    let x ←Bp i1 env x
    let _ ←runOwn (.compStart (.ListComp elt [⟨t0,i0,f0,0⟩,⟨t1,i1,f1,0⟩] scope pos) 1 (←holding [x] (pyIter x)) acc env) env
   again (.compLoop (.ListComp elt [⟨t0,i0,f0,0⟩,⟨t1,i1,f1,0⟩] scope pos) 0 it acc env)):=by rfl
theorem ZR(elt t0 i0 t1 i1:Expr)(f0 f1:List Expr)(scope:Scope)(pos:Pos)(it acc:Value)(env:Env):
 compTurn (.ListComp elt [⟨t0,i0,f0,0⟩,⟨t1,i1,f1,0⟩] scope pos) 1 it acc env=(do
  standAt i1.pos
  match ←pyNext it with
  | none=>pure (.done .next)
  | some v=>
   BL t1 it v
   assign t1 env v
   let mut ok:=true
   for c in f1 do
    if ok then ok ←isTrue c env (eval c env)
   if ok then
    (do let _ ←call (.builtin "list.append") [acc,←eval elt env])
   again (.compLoop (.ListComp elt [⟨t0,i0,f0,0⟩,⟨t1,i1,f1,0⟩] scope pos) 1 it acc env)):=by rfl
section
variable{R:Result→Shared→Prop}
variable{elt t0 i0 t1 i1:Expr}{f0 f1:List Expr}{it acc:Value}{env:Env}
theorem ZO(I:Nat→Shared→Prop)
 (turn:∀n s,I n s→wpAny (model prog w) A (pyNext it) (λr s₁=>match r with
  | none=>R (.ok .next) s₁
  | some v=>wpAny (model prog w) A (BL t1 it v) (λ_ s₁'=>wpAny (model prog w) A (assign t1 env v) (λ_ s₂=>
   wpAny (model prog w) A (forIn f1 true λc r=>if r=true then do let ok ←isTrue c env (eval c env);pure (ForInStep.yield ok) else pure (ForInStep.yield r)) (λok s₃=>
    if ok=true then wpAny (model prog w) A (eval elt env) (λx s₄=> wpAny (model prog w) A (call (.builtin "list.append") [acc,x]) (λ_ s₅=>∃m,m<n∧I m s₅) (λ_ _=>False) s₄) (λ_ _=>False) s₃
    else ∃m,m<n∧I m s₃) (λ_ _=>False) s₂) (λ_ _=>False) s₁') (λ_ _=>False) s₁) (λ_ _=>False) s)
 (n:Nat) (h:I n s):
 codeAny (model prog w) A (.compLoop (.ListComp elt [⟨t0,i0,f0,0⟩,⟨t1,i1,f1,0⟩] scope pos) 1 it acc env) R s:=by
 refine Ed rfl I (λn s hI=>?_) n h;show wpAny _ A ((compTurn (.ListComp elt [⟨t0,i0,f0,0⟩,⟨t1,i1,f1,0⟩] scope pos) 1 it acc env).onRaise (λx=>do noteFrame x env;theTreesLotGoes x)) _ _ s
 refine Ey ?_;rw[ZR];refine Aa (Bu (Aa (Av (turn n s hI) (λr s₁ h₁=>?_) λ_ _ h'=>h'.elim)));cases r with
 | none=>exact Ac h₁
 | some v=>
  refine Aa (Av h₁ (λ_ s₁' h₁'=>?_) λ_ _ h'=>h'.elim);refine Aa (Av h₁' (λ_ s₂ h₂=>Aa (Av h₂ (λok s₃ h₃=>?_) λ_ _ h'=>h'.elim)) λ_ _ h'=>h'.elim);cases ok with
  | false=>exact Ac ⟨rfl,h₃⟩
  | true=> exact Aa (Aa (Av h₃ (λx s₄ h₄=>Aa (Av h₄ (λ_ s₅ h₅=>Ac (Ac ⟨rfl,h₅⟩)) λ_ _ h'=>h'.elim)) λ_ _ h'=>h'.elim))
theorem ZN(hs:∀x,Bp i1 env x=pure x)(I:Nat→Shared→Prop)
 (turn:∀n s,I n s→wpAny (model prog w) A (pyNext it) (λr s₁=>match r with
  | none=>R (.ok .next) s₁
  | some v=>wpAny (model prog w) A (BL t0 it v) (λ_ s₁'=>wpAny (model prog w) A (assign t0 env v) (λ_ s₂=>
   wpAny (model prog w) A (forIn f0 true λc r=>if r=true then do let ok ←isTrue c env (eval c env);pure (ForInStep.yield ok) else pure (ForInStep.yield r)) (λok s₃=>
    if ok=true then wpAny (model prog w) A (eval i1 env) (λx s₄=>wpAny (model prog w) A (pyIter x) (λj s₅=> codeAny (model prog w) A (.compStart (.ListComp elt [⟨t0,i0,f0,0⟩,⟨t1,i1,f1,0⟩] scope pos) 1 j acc env) (λr s₆=>r= .ok .next∧∃m,m<n∧I m s₆) s₅) (λ_ _=>False) s₄) (λ_ _=>False) s₃
    else ∃m,m<n∧I m s₃) (λ_ _=>False) s₂) (λ_ _=>False) s₁') (λ_ _=>False) s₁) (λ_ _=>False) s)
 (n:Nat) (h:I n s):
 codeAny (model prog w) A (.compLoop (.ListComp elt [⟨t0,i0,f0,0⟩,⟨t1,i1,f1,0⟩] scope pos) 0 it acc env) R s:=by
 refine Ed rfl I (λn s hI=>?_) n h;show wpAny _ A ((compTurn (.ListComp elt [⟨t0,i0,f0,0⟩,⟨t1,i1,f1,0⟩] scope pos) 0 it acc env).onRaise (λx=>do noteFrame x env;theTreesLotGoes x)) _ _ s
 refine Ey ?_;rw[ZQ];refine Aa (Bu (Aa (Av (turn n s hI) (λr s₁ h₁=>?_) λ_ _ h'=>h'.elim)));cases r with
 | none=>exact Ac h₁
 | some v=>
  refine Aa (Av h₁ (λ_ s₁' h₁'=>?_) λ_ _ h'=>h'.elim);refine Aa (Av h₁' (λ_ s₂ h₂=>Aa (Av h₂ (λok s₃ h₃=>?_) λ_ _ h'=>h'.elim)) λ_ _ h'=>h'.elim);cases ok with
  | false=>exact Ac ⟨rfl,h₃⟩
  | true=> refine Aa (Av h₃ (λx s₄ h₄=>?_) λ_ _ h'=>h'.elim);refine Aa (Bu ?_);rw[hs];refine Aa (Ac ?_);refine Aa (AN (Av h₄ (λj s₅ h₅=>?_) λ_ _ h'=>h'.elim));refine Aa (wpAny_runOwn (BS h₅ λr s₆ h₆=>?_));obtain⟨rfl,h₆⟩:=h₆;exact Ac ⟨rfl,h₆⟩
theorem zeB(h0:codeAny (model prog w) A (.compLoop (.ListComp elt [⟨t0,i0,f0,0⟩,⟨t1,i1,f1,0⟩] scope pos) 1 it acc env) R s)
 (h:wpAny (model prog w) A (pyIter it) (λit' s'=>codeAny (model prog w) A (.compLoop (.ListComp elt [⟨t0,i0,f0,0⟩,⟨t1,i1,f1,0⟩] scope pos) 1 it' acc env) R s')
  (notedBy (model prog w) A env λx s'=>R (.error x) s') s):
 codeAny (model prog w) A (.compStart (.ListComp elt [⟨t0,i0,f0,0⟩,⟨t1,i1,f1,0⟩] scope pos) 1 it acc env) R s:=by
 refine Eg ?_;show wpAny _ _ ((Cr (.ListComp elt [⟨t0,i0,f0,0⟩,⟨t1,i1,f1,0⟩] scope pos) 1 it acc env).onRaise (λx=>do noteFrame x env;standAt theWindowsPlace)) _ _ s
 refine wpAny_notedAt ?_;unfold Cr;show wpAny _ _ (ask>>=_) _ _ s;refine Aa (EY (wpAny_ite ?_))
 split
 · first
    | exact Aa (Ac (Ac (And.intro rfl h0)))
    | exact Ac (And.intro rfl h0)
 · first
    | exact Aa (Cf (Aa (Bu (Aa (Av h (λit' s' h'=>Ac (And.intro rfl h')) λ_ _ x=>x)))))
    | (refine Aa (Cf ?_);show wpAny _ _ (standAt i1.pos>>=_) _ _ s;exact Aa (Bu (Aa (Av h (λit' s' h'=>Ac (And.intro rfl h')) λ_ _ x=>x))))
end
def RH(J:It)(p:Addr)(g:TG)(tc:TT)(te:TE)(σ:St)(ys:List V)(H:Hp)(M:St→List V→Hp→Prop):Prop:=
 ∃W:Nat→Nat→St→List V→Hp→Prop,(∃m,W 0 m σ ys H)∧∀i m σ' zs H,W i m σ' zs H→H p=some (.lst zs)∧
  ((J.stop i H∧M σ' zs H)∨(J.go i H∧zs.length<Aw∧∀x H',J.yld i H x H'→g x σ' H' λσ2 H2=>tc σ2 H2 λb H3=>
    if b=true then te σ2 H3 λy H4=>H4 p=some (.lst zs)∧∃m',m'<m∧W (i+1) m' σ2 (zs++[y]) (HD H4 p (.lst (zs++[y])))
    else ∃m',m'<m∧W (i+1) m' σ2 zs H3))
def O9(J:It)(p:Addr)(js:IC)(g:TG)(tc:TT)(wi1:TI)(g1:TG)(tc1:TT)(te:TE)(σ:St)(H:Hp)(Q:VK):Prop:=
 ∃W:Nat→Nat→St→List V→Hp→Prop,(∃m,W 0 m (Jf js σ) [] (HD H p (.lst [])))∧∀i m σ' ys H,W i m σ' ys H→H p=some (.lst ys)∧
  ((J.stop i H∧Q (.ref p) H)∨(J.go i H∧∀x H',J.yld i H x H'→g x σ' H' λσ2 H2=>tc σ2 H2 λb H3=>
    if b=true then wi1 σ2 H3 λJ1 H4=>RH J1 p g1 tc1 te σ2 ys H4 λσ3 zs H5=>∃m',m'<m∧W (i+1) m' σ3 zs H5
    else ∃m',m'<m∧W (i+1) m' σ2 ys H3))
def Qh(wi:TI)(js:IC)(g:TG)(tc:TT)(wi1:TI)(g1:TG)(tc1:TT)(te:TE):TE:=λσ H Q=>wi σ H λJ H1=>∀p,H1 p=none→O9 J p js g tc wi1 g1 tc1 te σ H1 Q
theorem XU{X:Cx}{elt t0 i0 t1 i1:Expr}{f0 f1:List Expr}{scope:Scope}{pos:Pos}{g1:TG}{tc1:TT}{te:TE}{pins:List (Addr×Obj)}{σ:St}{H:Hp}{s:Shared}{p:Addr}{ys:List V}{J:It}{it:Addr}{fp:List Addr}{tn:Nat→Heap→Prop}{M:St→List V→Hp→Prop}
 (hc:X.calm=true) (hx:X.xe=λ_ _=>False) (hg:PG X t1 g1) (ht:Ir X f1 tc1) (he:PE X elt te) (I:Inv X pins σ H s) (T:Turn X.prog X.w X.K t1 J fp it tn) (st:tn 0 s.heap) (hf:∀b∈fp,HS X pins H b) (hw:RH J p g1 tc1 te σ ys H M):
 codeAny (model X.prog X.w) X.A (.compStart (.ListComp elt [⟨t0,i0,f0,0⟩,⟨t1,i1,f1,0⟩] scope pos) 1 (.ref it) (.ref p) X.env) (λr s'=>r= .ok .next∧∃σ' zs H',Inv X pins σ' H' s'∧M σ' zs H') s:=by
 obtain⟨W,⟨m0,w0⟩,turn⟩:=hw;have stat:∀{H':Hp},(∀b∈fp,H' b=none)→∀b∈fp,HS X pins H' b:=λhn b hb=>⟨hn b hb,(hf b hb).2⟩;have loop:codeAny (model X.prog X.w) X.A (.compLoop (.ListComp elt [⟨t0,i0,f0,0⟩,⟨t1,i1,f1,0⟩] scope pos) 1 (.ref it) (.ref p) X.env) (λr s'=>r= .ok .next∧∃σ' zs H',Inv X pins σ' H' s'∧M σ' zs H') s:=by
  refine ZO (λn s'=>∃i σ' ys H',Inv X pins σ' H' s'∧tn i s'.heap∧(∀b∈fp,H' b=none)∧W i n σ' ys H') ?_ m0 ⟨0,σ,ys,H,I,st,λb hb=>(hf b hb).1,w0⟩;rintro n s5 ⟨i,σ5,zs,H5,I5,st5,fr5,w5⟩;obtain⟨hp5,tu⟩:=turn i n σ5 zs H5 w5;rcases tu with⟨stop,qn⟩ | ⟨go,hz,step⟩
  · refine HJ (T.done X rfl rfl rfl hc i pins s5 σ5 H5 (λ_ _=>False) I5 (stat fr5) st5 stop) λr s6 ⟨hr,I6⟩=>?_;subst hr;exact⟨rfl,σ5,zs,H5,I6,qn⟩
  · refine HJ (T.item X rfl rfl rfl hc i pins s5 σ5 H5 (λ_ _=>False) I5 (stat fr5) st5 go) λr s6 ⟨u,hr,h6⟩=>?_;subst hr;refine HJ h6 λ_ s7 ⟨x,H7,I7,r7,y7,st7,fr7⟩=>?_;have I7':=I7.pinned (stat fr7) (T.obj _ _ st7);have G:=hg _ s7 σ5 H7 x u _ I7' r7 (step x H7 y7);rw[hx] at G;refine HJ G λ_ s8 ⟨σ8,H8,I8,q8⟩=>?_;have Tt:=ht _ s8 σ8 H8 _ I8 q8;rw[hx] at Tt;refine HJ Tt λb s9 ⟨H9,I9,q9⟩=>?_;have again:∀{s':Shared}{ys':List V}{H':Hp},Inv X (pins++Ky fp s7.heap) σ8 H' s'→(∃m',m'<n∧W (i+1) m' σ8 ys' H')→
     ∃m,m<n∧∃i σ' ys H',Inv X pins σ' H' s'∧tn i s'.heap∧(∀b∈fp,H' b=none)∧W i m σ' ys H':=λ{s' ys' H'}I' ⟨m',hm,w'⟩=>by
     refine⟨m',hm,i+1,σ8,ys',H',I'.unpinned,T.keep _ _ _ st7 λb hb o e=>(I'.pin (b,o) (Ag _ (Ag _ (JK hb e)))).1,λb hb=>?_,w'⟩;obtain⟨o,e,d⟩:=T.obj _ _ st7 b hb;exact(I'.pin (b,o) (Ag _ (Ag _ (JK hb e)))).2.1
    cases b with
    | false=>exact again I9 q9
    | true=> have Ee:=he _ s9 σ8 H9 _ I9 q9;rw[hx] at Ee;show wpAny _ _ _ _ _ _;refine HJ Ee λxv s10 ⟨y,H10,I10,r10,hp10,q10⟩=>?_;have Ap:=Kb (X:=X) _ s10 σ8 H10 (.ref p) [y] (.ref p) [xv] (λ_ H'=>H'=HD H10 p (.lst (zs++[y]))) I10 rfl (.cons r10 .nil) ⟨p,zs,y,rfl,rfl,hp10,hz,rfl⟩;rw[hx] at Ap;refine HJ Ap λ_ s11 ⟨_,H11,I11,_,e11⟩=>?_;subst e11;exact again I11 q10
 exact zeB loop (T.self _ 0 _ _ _ st loop)
section
variable{tg iter tg1 iter1 elt:Expr}{ifs ifs1:List Expr}{wi wi1:TI}{js:IC}{g g1:TG}{tc tc1:TT}{te:TE}{N':List Str}
theorem Yv{pins:List (Addr×Obj)}{σ:St}{H:Hp}{s:Shared}{E:Value→Shared→Prop}{Q:VK}{J:It}{it:Addr}{fp:List Addr}{tn:Nat→Heap→Prop}{cl:List (Str×Addr)}
 (hc:X.calm=true) (ok:CapOk X N' js scope) (hs1:∀(e:Env)x,Bp iter1 e x=pure x)
 (h2:∀x c,cl.lookup x=some c→X.env.cells.lookup x=some c) (h3:∀p∈scope.names,p.2= .free→(cl.lookup p.1).isSome=true)
 (hg:∀cl C s₀ H₀ ex,PG (Ij X N' scope cl C s₀ H₀ ex) tg g) (ht:∀cl C s₀ H₀ ex,Ir (Ij X N' scope cl C s₀ H₀ ex) ifs tc) (hi1:∀cl C s₀ H₀ ex,PI (Ij X N' scope cl C s₀ H₀ ex) tg1 iter1 wi1) (hg1:∀cl C s₀ H₀ ex,PG (Ij X N' scope cl C s₀ H₀ ex) tg1 g1) (ht1:∀cl C s₀ H₀ ex,Ir (Ij X N' scope cl C s₀ H₀ ex) ifs1 tc1) (he:∀cl C s₀ H₀ ex,PE (Ij X N' scope cl C s₀ H₀ ex) elt te)
 (I:Inv X pins σ H s) (T:Turn X.prog X.w X.K tg J fp it tn) (st:tn 0 s.heap) (hf:∀b∈fp,HS X pins H b)
 (hw:∀p,H p=none→O9 J p js g tc wi1 g1 tc1 te σ H Q):
 wpAny (model X.prog X.w) X.A (newList []) (λacc s₃=>wpAny (model X.prog X.w) X.A (newFunctionEnv scope X.env.globals cl [] X.env.qual none .none (some X.env)) (λcenv s₄=>
  codeAny (model X.prog X.w) X.A (.compStart (.ListComp elt [⟨tg,iter,ifs,0⟩,⟨tg1,iter1,ifs1,0⟩] scope pos) 0 (.ref it) acc {cenv with scope:=relabel scope X.env})
   (λr s'=>r= .ok .next∧(∃m,s'.heap.Ns cenv.locals m)∧∃v H',RelV v acc∧Inv X pins σ H' s'∧HS X pins H' cenv.locals∧Q v H') s₄) E s₃) E s:=by
 have objs:=T.obj _ _ st;refine Bh ?_ (by show 0≤Aw;decide);obtain⟨W,⟨m0,w0⟩,turn⟩:=hw s.heap.objs.size (I.hok.fresh (Af _));generalize hp:s.heap.objs.size=p at*;have kp:∀b u,s.heap.get? b=some u→(s.heap.push {cls:= .type "list",dict:=none,data:= .seq ([]:List Value).toArray}).get? b=some u:=λb u e=>Ae _ e;have I3:Inv X pins σ (HD H p (.lst [])) {s with heap:=s.heap.push {cls:= .type "list",dict:=none,data:= .seq ([]:List Value).toArray}}:=by refine I.laid (t':=s.toks) kp (by rw[hp];exact Af _) ⟨AC _,[],0,.nil,?_⟩;have:=Au s.heap (o:={cls:= .type "list",dict:=none,data:= .seq ([]:List Value).toArray}) rfl;rw[hp] at this;exact this
 have fne:∀b∈fp,b≠p:=λb hb=>by obtain⟨o,e,_⟩:=objs b hb;have:=Ao e;rw[←hp];exact A5 this
 have hf3:∀b∈fp,HS X pins (HD H p (.lst [])) b:=λb hb=>⟨by rw[HV (fne b hb)];exact(hf b hb).1,(hf b hb).2⟩;have st3:tn 0 (s.heap.push {cls:= .type "list",dict:=none,data:= .seq ([]:List Value).toArray}):=T.keep _ _ _ st λb _ o e=>kp b o e;have lt3:∀b∈fp,b<(s.heap.push {cls:= .type "list",dict:=none,data:= .seq ([]:List Value).toArray}).objs.size:=λb hb=>by obtain⟨o,e,_⟩:=objs b hb;exact Ao (kp b o e)
 generalize hs3:({s with heap:=s.heap.push {cls:= .type "list",dict:=none,data:= .seq ([]:List Value).toArray}}:Shared)=s3 at*
 have eh:s.heap.push {cls:= .type "list",dict:=none,data:= .seq ([]:List Value).toArray}=s3.heap:=by rw[←hs3]
 rw[eh] at st3 lt3;refine ME ok.cells λcl h₁ hns₁ k4 oc=>?_;have I4:=M6 (cl:=cl) (h₁:=h₁) (t':=s3.toks+([]:List (Str×Value)).length) ok I3 h2 h3 hf3 lt3 k4 hns₁ oc;have st4:tn 0 h₁:=T.keep _ _ _ st3 λb _ o e=>k4 b o e;generalize hX:Ij X N' scope cl s3.heap.objs.size s3 (HD H p (.lst [])) fp=X' at I4;have hg':PG X' tg g:=by rw[←hX];exact hg _ _ _ _ _
 have ht':Ir X' ifs tc:=by rw[←hX];exact ht _ _ _ _ _
 have he':PE X' elt te:=by rw[←hX];exact he _ _ _ _ _
 have hi1':PI X' tg1 iter1 wi1:=by rw[←hX];exact hi1 _ _ _ _ _
 have hg1':PG X' tg1 g1:=by rw[←hX];exact hg1 _ _ _ _ _
 have ht1':Ir X' ifs1 tc1:=by rw[←hX];exact ht1 _ _ _ _ _
 have hs1':∀x,Bp iter1 (compEnvC scope cl s3.heap.objs.size X.env) x=pure x:=hs1 _;have eP:X'.prog=X.prog:=by rw[←hX];rfl
 have ew:X'.w=X.w:=by rw[←hX];rfl
 have eK:X'.K=X.K:=by rw[←hX];rfl
 have ec:X'.calm=true:=by rw[←hX];exact hc
 have eA:X'.A=X.A:=by rw[←hX];rfl
 have ex:X'.xe=λ_ _=>False:=by rw[←hX];rfl
 have eE:X'.env=compEnvC scope cl s3.heap.objs.size X.env:=by rw[←hX];rfl
 have eEx:X'.ex=fp:=by rw[←hX];rfl
 have eN:X'.pn=[]:=by rw[←hX];rfl
 have stat:∀{H':Hp},(∀b∈fp,H' b=none)→∀b∈fp,HS X' [] H' b:=λ{H'}hn b hb=>by have okc:=I4.ok;refine⟨hn b hb,(okc.exf b (by rw[eEx];exact hb)).1,okc.exfs b (by rw[eEx];exact hb),.inl (by rw[eEx];exact hb),(okc.exf b (by rw[eEx];exact hb)).2,λq hq=>?_⟩;rw[eN] at hq;cases hq
 have loop:∀s₄:Shared,s₄={s3 with heap:=h₁,toks:=s3.toks+([]:List (Str×Value)).length}→
  codeAny (model X.prog X.w) X.A (.compLoop (.ListComp elt [⟨tg,iter,ifs,0⟩,⟨tg1,iter1,ifs1,0⟩] scope pos) 0 (.ref it) (.ref p) (compEnvC scope cl s3.heap.objs.size X.env))
   (λr s'=>r= .ok .next∧(∃m,s'.heap.Ns s3.heap.objs.size m)∧∃v H',RelV v (.ref p)∧Inv X pins σ H' s'∧HS X pins H' s3.heap.objs.size∧Q v H') s₄:=by
  rintro s₄ rfl;refine ZN hs1' (λn s'=>∃i σ' ys H',Inv X' [] σ' H' s'∧tn i s'.heap∧(∀b∈fp,H' b=none)∧W i n σ' ys H') ?_ m0 ⟨0,_,[],_,I4,st4,λb hb=>(hf3 b hb).1,w0⟩;rintro n s5 ⟨i,σ5,ys,H5,I5,st5,fr5,w5⟩;obtain⟨hp5,tu⟩:=turn i n σ5 ys H5 w5;rcases tu with⟨stop,qn⟩ | ⟨go,step⟩
  · have D:=T.done X' eP ew eK ec i [] s5 σ5 H5 (λ_ _=>False) I5 (stat fr5) st5 stop;rw[eA] at D;refine HJ D λr s6 ⟨hr,I6⟩=>?_;subst hr;refine⟨rfl,?_,.ref p,H5,rfl,?_,?_,qn⟩
    · obtain⟨m,hm,_⟩:=I6.loc;rw[eE] at hm;exact⟨m,hm⟩
    · have b6:=I6.base;have ho:=I6.os;have hk:=I6.hok;have hb:=I6.bare;subst hX;exact I3.call' (ch:=fp) ho b6 hk hb λb hb'=>⟨(hf b hb').2.2.2.1,(hf b hb').2.1,(hf b hb').2.2.2.2.1,(hf b hb').2.2.2.2.2⟩
    · have fr:=I6.free;rw[eE] at fr;exact I3.fpOk (Af _) fr
  · have D:=T.item X' eP ew eK ec i [] s5 σ5 H5 (λ_ _=>False) I5 (stat fr5) st5 go;rw[eA] at D;refine HJ D λr s6 ⟨u,hr,h6⟩=>?_;subst hr;refine HJ h6 λ_ s7 ⟨x,H7,I7,r7,y7,st7,fr7⟩=>?_;have I7':=I7.pinned (stat fr7) (T.obj _ _ st7);have G:=hg' _ s7 σ5 H7 x u _ I7' r7 (step x H7 y7);rw[eP,ew,eA,ex,eE] at G;refine HJ G λ_ s8 ⟨σ8,H8,I8,q8⟩=>?_;have Tt:=ht' _ s8 σ8 H8 _ I8 q8;rw[eP,ew,eA,ex,eE] at Tt;refine HJ Tt λb s9 ⟨H9,I9,q9⟩=>?_;have again:∀{s':Shared}{σ8:St}{ys':List V}{H':Hp},Inv X' ([]++Ky fp s7.heap) σ8 H' s'→(∃m',m'<n∧W (i+1) m' σ8 ys' H')→
     ∃m,m<n∧∃i σ' ys H',Inv X' [] σ' H' s'∧tn i s'.heap∧(∀b∈fp,H' b=none)∧W i m σ' ys H':=λ{s' σ8 ys' H'}I' ⟨m',hm,w'⟩=>by
     refine⟨m',hm,i+1,σ8,ys',H',I'.unpinned,T.keep _ _ _ st7 λb hb o e=>(I'.pin (b,o) (Ag _ (Ag _ (JK hb e)))).1,λb hb=>?_,w'⟩;obtain⟨o,e,d⟩:=T.obj _ _ st7 b hb;exact(I'.pin (b,o) (Ag _ (Ag _ (JK hb e)))).2.1
    cases b with
    | false=>exact again I9 q9
    | true=> have Ei:=hi1' _ s9 σ8 H9 _ I9 q9;rw[eP,ew,eA,ex,eE] at Ei;show wpAny _ _ _ _ _ _;refine HJ Ei λxv s10 h10=>HJ h10 λitv s11 h11=>?_;obtain⟨it1,fp1,tn1,J1,H11,e11,I11,T1,st11,f11,hw11⟩:=h11;subst e11;have In:=XU (X:=X') (elt:=elt) (t0:=tg) (i0:=iter) (t1:=tg1) (i1:=iter1) (f0:=ifs) (f1:=ifs1) (scope:=scope) (pos:=pos) ec ex hg1' ht1' he' I11 T1 st11 f11 hw11;rw[eP,ew,eA,eE] at In;refine BS In λr s12 ⟨hr,σ12,zs,H12,I12,m12⟩=>⟨hr,?_⟩;exact again I12 m12
 exact Fs (loop _ rfl) (T.self _ 0 _ _ _ st4 (loop _ rfl))
theorem Vx(hc:X.calm=true)(ok:CapOk X N' js scope)(hi:PI X tg iter wi)
 (hg:∀cl C s₀ H₀ ex,PG (Ij X N' scope cl C s₀ H₀ ex) tg g) (ht:∀cl C s₀ H₀ ex,Ir (Ij X N' scope cl C s₀ H₀ ex) ifs tc) (hi1:∀cl C s₀ H₀ ex,PI (Ij X N' scope cl C s₀ H₀ ex) tg1 iter1 wi1) (hg1:∀cl C s₀ H₀ ex,PG (Ij X N' scope cl C s₀ H₀ ex) tg1 g1) (ht1:∀cl C s₀ H₀ ex,Ir (Ij X N' scope cl C s₀ H₀ ex) ifs1 tc1) (he:∀cl C s₀ H₀ ex,PE (Ij X N' scope cl C s₀ H₀ ex) elt te)
 (hs:∀x,Bp iter X.env x=pure x:=by intro _;rfl) (hs1:∀(e:Env)x,Bp iter1 e x=pure x:=by intro _ _;rfl):PE X (.ListComp elt [⟨tg,iter,ifs,0⟩,⟨tg1,iter1,ifs1,0⟩] scope pos) (Qh wi js g tc wi1 g1 tc1 te):=by
 intro pins s σ H Q I h;obtain⟨cl,c1,c2,c3⟩:=Mb (scope:=scope) I.ok.has ok.free;rw[eval_ListComp];refine Cc (use:=none) rfl hs c1 ok.kind ok.names (HJ (hi pins s σ H _ I h) λv s1 h1=>HJ h1 λitv s2 h2=>?_);obtain⟨it,fp,tn,J,H2,e,I2,T,st2,f2,hw⟩:=h2;subst e;refine Av (Yv (iter:=iter) (pos:=pos) hc ok hs1 c2 c3 hg ht hi1 hg1 ht1 he I2 T st2 f2 hw) (λacc s3 h3=>Av h3 (λcenv s4 h4=>?_) λ_ _ z=>z) λ_ _ z=>z;refine BS h4 λr s5 h5=>?_;obtain⟨rfl,⟨m,hm⟩,v,H5,rv,I5,f5,q5⟩:=h5;refine⟨m,hm,λh' sb=>?_⟩;obtain⟨f0,f1,_,f3,f4,f6⟩:=f5;exact⟨v,H5,I5.turned (t':=s5.toks) (λb o hb e=>(sb.2 b hb).trans e) f0 f1 f3 f4 f6,rv,q5⟩
end
section
variable{R:Result→Shared→Prop}
variable{elt t0 i0 t1 i1:Expr}{f0 f1:List Expr}{it acc:Value}{env:Env}
end
section
variable{p:Addr}{ks:List Str}
end
section
variable{tg iter tg1 iter1 elt:Expr}{ifs ifs1:List Expr}{wi wi1:TI}{js:IC}{g g1:TG}{tc tc1:TT}{te:TE}{N':List Str}
end
open PySem.AutoSeq1 (wpAny_loadPart')
section
variable{it l e:Addr}{xs:Array Value}{x old:Value}
end
def below(s t:Ld):List Ld:=match t.1 with
 | none=>[]
 | some l=>if s.1=some l then [] else [(s.1,some (l - 1))]
def above(s t:Ld):List Ld:=match t.2 with
 | none=>[]
 | some h=>if s.2=some h then [] else [(some (h+1),s.2)]
def VE(s t:Ld):List Ld:=below s t++above s t
def Va(w m:List WP)(i:Nat):List (List WP):=match w[i]?,m[i]? with
 | some p,some q=>(VE p.2 q.2).map λr=>m.take i++[(p.1,r)]++w.drop (i+1)
 | _,_=>[]
def X3(w m:List WP):List (List WP):=(AI w.length).flatMap (Va w m)
open Classical in
noncomputable def Kl(w o:List WP):List WP:=if h:∃m,IsMet w o m then Classical.choose h else []
noncomputable def one(w o:List WP):List (List WP):=if VC w o=true then [w] else if w.length<(Kl w o).length then [w] else X3 w (Kl w o)
section
variable{w o m:List WP}
end
def Me(w:List WP):List PP:=w.map λp=>(p.1,Vh p.2.1 p.2.2)
theorem zev(w:List WP):(Me w).map (·.1)=w.map (·.1):=by unfold Me;rw[Cd];rfl
theorem YL{w:List WP}(h:WOk w):POk (Me w):=by refine⟨by unfold Me;rw[Ab];exact h.len,λx hx=>?_,by rw[zev];exact h.asc⟩;obtain⟨p,hp,rfl⟩:=AG.mp hx;exact(h.ok p hp).1
def V9(H:Hp)(v:V)(ps:List (List WP)):Prop:=match ps with
 | []=>v= .non
 | p::_=>∃t,v= .ref t∧M0 H t (Me p)
theorem Tl{v:V}{A B:St→Hp→Prop}(h:A (σ.set i (some v)) H):JS i v σ H λσ2 H2=>Km σ2 H2 λb H3=>if b=true then A σ2 H3 else B σ2 H3:=by
 show(if true=true then A (σ.set i (some v)) H else B (σ.set i (some v)) H)
 exact HG h
section
variable{lo sz m:Int}
end
section
variable{K:Ad}{mg:Str→Option Value}{base:Heap}
def g2{α:Type}:List α→List α→List α
 | [a],[b]=>[a,b]
 | _,_=>[]
end
section
variable{k:Nat}{p1 p2:Str}{sp:Sp}{e1 e2:Expr}{t tk:TA}{p kpos:Pos}
end
abbrev LU:=Sum (Option Int) Str
def Nq:LU→Value→Bool
 | .inl none,.none=>true
 | .inl (some i),v=>Value.isInt i v
 | .inr x,v=>DT x v
 | _,_=>false
theorem KL{k:LU}{v:Value}(h:Nq k v=true):(k= .inl none∧v= .none)∨(∃i t,k= .inl (some i)∧v= .int i t)∨∃x t,k= .inr x∧v= .str x t:=by
 cases k with
 | inl o=>
  cases o with
  | none=>cases v<;>simp[Nq] at h ⊢
  | some i=> obtain⟨t,e⟩:=Value.isInt_shape (k:=i) (v:=v) h;exact .inr (.inl ⟨i,t,rfl,e⟩)
 | inr x=> obtain⟨t,e⟩:=FP (x:=x) (v:=v) h;exact .inr (.inr ⟨x,t,rfl,e⟩)
def Nf(w:World):LU→Int
 | .inl none=>0xFCA86420
 | .inl (some i)=>hashInt i
 | .inr x=>hashStr w x
theorem Yo{Q:Int→Shared→Prop}(h:Q 0xFCA86420 {s with toks:=s.toks+1}):wpAny (model prog w) A (pyHash .none) Q E s:=by
 have ty:s.TypeIs .none "NoneType":=typeIs_none s;unfold pyHash;refine Aa ?_;rw[cRoomFor,if_neg (by rw[show [Value.none].any Value.onHeap=false from rfl];exact An)];refine Ac ?_;refine Aa (BW ty CK.lookup ?_);rw[if_neg (by rw[beq_builtin_none];exact An)];refine Aa (BW ty CK.lookup ?_);refine Aa (Dp ty CK (AR CK ty PySem.F.entry_NoneType_hash ?go (PySem.F.args_NoneType_hash_1 _)))
 case go=>
  show wpAny _ _ (do ret (←mkInt 0xFCA86420)) _ _ s
  refine wpAny_ret_mkInt ?_;dsimp only;unfold pyHashByItsType.reduced;rw[if_pos (by decide)];exact Ac h
theorem WF{Q:Bool→Shared→Prop}(h:Q true s):wpAny (model prog w) A (eqBool .none .none) Q E s:=by
 unfold eqBool
 try with_reducible refine AN ?_
 rw[if_pos (by rfl)];exact Aa (Cf (Ac h))
def M2(prog:AU)(w:World):KeyKind prog w LU where
 is:=Nq
 hash:=Nf w
 inj:=λv a b ha hb=>by
  rcases KL ha with⟨rfl,rfl⟩ | ⟨i,t,rfl,rfl⟩ | ⟨x,t,rfl,rfl⟩
  all_goals
   rcases KL hb with⟨rfl,e⟩ | ⟨j,u,rfl,e⟩ | ⟨y,u,rfl,e⟩
   all_goals first | rfl | (injection e with e1 _;rw[e1];done) | (exact Value.noConfusion e)
 byValue:=λk v h=>by rcases KL h with⟨rfl,rfl⟩ | ⟨i,t,rfl,rfl⟩ | ⟨x,t,rfl,rfl⟩<;>rfl
 pyHash:=λhv h=>by
  rcases KL hv with⟨rfl,rfl⟩ | ⟨i,t,rfl,rfl⟩ | ⟨x,t,rfl,rfl⟩
  · exact Yo h
  · exact wpAny_pyHash_int h
  · exact wpAny_pyHash_str h
 eqBool:=λhu hv h=>by
  rcases KL hu with⟨rfl,rfl⟩ | ⟨i,t,rfl,rfl⟩ | ⟨x,t,rfl,rfl⟩
  · rcases KL hv with⟨rfl,rfl⟩ | ⟨j,u,rfl,rfl⟩ | ⟨y,u,rfl,rfl⟩
    · rw[decide_eq_true rfl] at h;exact WF h
    · rw[decide_eq_false (by intro z;cases z)] at h;exact Ek j u _ _ _ _ h
    · rw[decide_eq_false (by intro z;cases z)] at h;exact El y u _ _ _ _ h
  · rcases KL hv with⟨rfl,rfl⟩ | ⟨j,u,rfl,rfl⟩ | ⟨y,u,rfl,rfl⟩
    · rw[decide_eq_false (by intro z;cases z)] at h;exact Em i t _ _ _ _ h
    · rw[show decide ((Sum.inl (some i):LU)=Sum.inl (some j))=(i==j) by rw[Bb];simp] at h;exact wpAny_eqBool_int h
    · rw[decide_eq_false (by intro z;cases z)] at h;exact Dy i t y u _ _ _ _ h
  · rcases KL hv with⟨rfl,rfl⟩ | ⟨j,u,rfl,rfl⟩ | ⟨y,u,rfl,rfl⟩
    · rw[decide_eq_false (by intro z;cases z)] at h;exact En x t _ _ _ _ h
    · rw[decide_eq_false (by intro z;cases z)] at h;exact Dz x t j u _ _ _ _ h
    · rw[show decide ((Sum.inr x:LU)=Sum.inr y)=decide (x=y) by rw[Bb];simp] at h;exact wpAny_eqBool_str h
 «strs»:=λk x t v h=>by
  rcases KL h with⟨rfl,e⟩ | ⟨i,u,rfl,e⟩ | ⟨y,u,rfl,e⟩
  · exact nomatch e
  · exact nomatch e
  · injection e with e1 _
    subst e1;cases v<;>rfl
def KW(p:WP):List LU:=[.inr p.1,.inl p.2.1,.inl p.2.2]
theorem RZ{p q:WP}(h:KW p=KW q):p=q:=by obtain⟨f,a,b⟩:=p;obtain⟨g,c,d⟩:=q;unfold KW at h;simp only[Dv,Sum.inr.injEq,Sum.inl.injEq,and_true] at h;obtain⟨rfl,rfl,rfl⟩:=h;rfl
inductive RefsAre(prog:AU)(w:World)(h:Heap):List WP→List Value→Prop
 | nil:RefsAre prog w h [] []
 | cons {p:WP} {b:Addr} {ps:List WP} {vs:List Value}:IsTupleKey (M2 prog w) h (KW p) b→RefsAre prog w h ps vs→RefsAre prog w h (p::ps) (.ref b::vs)
def IsWishKey(prog:AU)(w:World)(h:Heap)(ws:List WP)(a:Addr):Prop:=∃o items n,h.get? a=some o∧o.cls= .type "tuple"∧o.data= .seq items n∧RefsAre prog w h ws items.toList
theorem RefsAre.inj{x y:List WP}{vs:List Value}(hx:RefsAre prog w h x vs)(hy:RefsAre prog w h y vs):x=y:=by
 induction hx generalizing y with
 | nil=>cases hy;rfl
 | cons h1 _ ih=>
  cases hy with
  | cons h2 t2=>rw[RZ (h1.inj h2),ih t2]
theorem RefsAre.keeps{h':Heap}{d:Addr}{o:Obj}{es:Array DictEntry}{ep:Nat}{x:List WP}{vs:List Value}(hx:RefsAre prog w h x vs)(ho:h.get? d=some o)(hd:o.data= .dict es ep)(hs:Cw d h h'):RefsAre prog w h' x vs:=by
 induction hx with
 | nil=>exact .nil
 | cons h1 _ ih=>exact .cons (h1.keeps ho hd hs) ih
theorem IsWishKey.typeIs{ws:List WP}(x:IsWishKey prog w s.heap ws a):s.TypeIs (.ref a) "tuple":=let⟨o,_,_,ho,hc,_⟩:=x;⟨o,ho,hc⟩
theorem IsWishKey.inj{x y:List WP}(hx:IsWishKey prog w h x a)(hy:IsWishKey prog w h y a):x=y:=by obtain⟨o,items,n,ho,_,hd,hi⟩:=hx;obtain⟨o',items',n',ho',_,hd',hi'⟩:=hy;rw[ho] at ho';cases ho';rw[hd] at hd';injection hd' with h1 _;subst h1;exact hi.inj hi'
theorem IsWishKey.keeps{h':Heap}{ws:List WP}{d:Addr}{o:Obj}{es:Array DictEntry}{ep:Nat}(x:IsWishKey prog w h ws a)(ho:h.get? d=some o)(hd:o.data= .dict es ep)(hs:Cw d h h'):IsWishKey prog w h' ws a:=by
 obtain⟨o',items,n,ho',hc,hd',hi⟩:=x;have hne:a≠d:=λe=>by subst e;rw[ho] at ho';cases ho';rw[hd] at hd';exact nomatch hd'
 exact⟨o',items,n,(hs.2 a hne).trans ho',hc,hd',hi.keeps ho hd hs⟩
def Ol(w:World)(p:WP):Int:=reduceHash (Dw ((KW p).map (Nf w)))
def Os(w:World)(ws:List WP):Int:=reduceHash (Dw (ws.map (Ol w)))
theorem Yp{p:WP}{Q:Int→Shared→Prop}(hu:A.units<cLine)(hk:IsTupleKey (M2 prog w) s.heap (KW p) b)(h:Q (Ol w p) {s with toks:=s.toks+4}):wpAny (model prog w) A (pyHash (.ref b)) Q E s:=
 wpAny_pyHash_tuple hu hk h
theorem TH{ws:List WP}{Q:Int→Shared→Prop}(hu:A.units+1<cLine)(hk:IsWishKey prog w s.heap ws a)(h:Q (Os w ws) {s with toks:=s.toks+(4*ws.length+1)}):
 wpAny (model prog w) A (pyHash (.ref a)) Q E s:=by
 have ty:=hk.typeIs;obtain⟨o,items,n,ho,_,hd,hi⟩:=hk;unfold pyHash
 first | unfold pyHashByItsType | skip
 first | refine Aa (wpAny_cRoomFor_or (.inr (by omega)) ?_) | skip
 refine Aa (BW ty Cj.lookup ?_);rw[if_neg (by rw[beq_builtin_none];exact An)];refine Aa (BW ty Cj.lookup ?_);refine Aa (Dp ty Cj (AR Cj ty PySem.F.entry_tuple_hash ?go (PySem.F.args_tuple_hash_1 _)))
 case go=>
  show wpAny _ _ (Dq (.ref a)>>=_) _ _ s;refine Aa (E5 ho hd (Aa ?_));rw[←Cs];refine Bw _ (λHI(b:Array Int)s'=>∃done left,ws=done++left∧RefsAre prog w s.heap left HI∧b.toList=done.map (Ol w)∧s'={s with toks:=s.toks+4*done.length}) _ ?step ?done _ _ ⟨[],ws,rfl,hi,rfl,rfl⟩
  case step=>
   rintro x HI b s' ⟨dn,left,rfl,hl,hb,rfl⟩;cases hl with
   | @cons p c ps _ h1 hl'=>
    refine Aa (Yp (p:=p) (by show A.units+1<cLine;exact hu) (by exact h1) ?_)
    first
     | exact Ac ⟨dn++[p],ps,by simp,hl',by simp[hb],by simp;omega⟩
     | exact Aa (Ac (Ac ⟨dn++[p],ps,by simp,hl',by simp[hb],by simp;omega⟩))
  case done=>
   rintro b s' ⟨dn,left,rfl,hl,hb,rfl⟩;cases hl;rw[Cz] at h;show wpAny _ _ (retInt (Dw b.toList)) _ _ _;rw[hb];refine wpAny_ret_mkInt ?_;unfold Os reduceHash at h;dsimp only;unfold pyHashByItsType.reduced
   split at h
   · rename_i hr;rw[if_pos hr];exact Ac (by simpa [Nat.add_assoc] using h)
   · rename_i hr;rw[if_neg hr];exact Aa (Cf (Ac (by simpa [Nat.add_assoc] using h)))
theorem WG{x y:List WP}{P:Fin→Shared→Prop}(hu:A.units<cLine)(hx:IsWishKey prog w s.heap x a)(hy:IsWishKey prog w s.heap y b)(h:P (.done (.ret (.bool (decide (x=y))))) s):
 wpAny (model prog w) A (Builtin.«tuple.__eq__» ⟨[.ref a,.ref b],[]⟩) P E s:=by
 have tb:=hy.typeIs;obtain⟨oa,us,na,g1,_,g2,g3⟩:=hx;obtain⟨ob,vs,nb,k1,_,k2,k3⟩:=hy;show wpAny _ _ (isInstance (.ref b) (.type "tuple")>>=_) _ _ s;refine Aa (CS tb isSubtype_tuple_tuple ?_);simp only[Ce,A3,if_false];refine Aa (E5 g1 g2 (Aa (E5 k1 k2 (Aa ?_))));refine Bw _
  (λHI r s'=>r.1=none∧s'=s∧∃x' y' us' vs',HI=List.zip us' vs'∧RefsAre prog w s.heap x' us'∧RefsAre prog w s.heap y' vs'∧decide (x'=y')=decide (x=y)∧(us'.length==vs'.length)=(us.size==vs.size))
  _ ?step ?done _ _ ⟨rfl,rfl,x,y,us.toList,vs.toList,rfl,g3,k3,rfl,by simp⟩
 case step=>
  rintro⟨u,v⟩ HI r s' ⟨hr,rfl,x',y',us',vs',hz,q1,q2,hdec,hlen⟩;cases q1 with
  | nil=>simp at hz
  | @cons p c ps us'' c1 q1'=>
   cases q2 with
   | nil=>simp at hz
   | @cons p2 c' ps2 vs'' c2 q2'=>
    simp only[List.zip_cons_cons,Dv,Prod.mk.injEq] at hz;obtain⟨⟨rfl,rfl⟩,rfl⟩:=hz;refine Aa (wpAny_eqBool_tuple hu c1 c2 ?_);by_cases hk:p=p2
    · subst hk;rw[decide_eq_true rfl];simp only[Ce,A3,if_false];refine Ac ⟨rfl,rfl,ps,ps2,us'',vs'',rfl,q1',q2',?_,by simpa using hlen⟩;rw[←hdec];by_cases e:ps=ps2<;>simp[e]
    · rw[decide_eq_false (λz=>hk (RZ z))];simp only[Bool.not_false,if_true];rw[show decide (x=y)=false by rw[←hdec];simp[hk]] at h;exact Aa (Ac (Ac (Ac h)))
 case done=>
  rintro⟨r1,r2⟩ s' ⟨hr,rfl,x',y',us',vs',hz,q1,q2,hdec,hlen⟩;simp only at hr;subst hr;refine Ac ?_;have fin:(us.size==vs.size)=decide (x=y):=by
   rw[←hdec,←hlen];cases q1 with
   | nil=>cases q2<;>simp
   | cons _ _=>
    cases q2 with
    | nil=>simp
    | cons _ _=>simp at hz
  show P (.done (.ret (.bool (us.size==vs.size)))) s';rw[fin];exact h
theorem R_{x y:List WP}{Q:Bool→Shared→Prop}(hu:A.units+1<cLine)(hx:IsWishKey prog w s.heap x a)(hy:IsWishKey prog w s.heap y b)(h:Q (decide (x=y)) s):
 wpAny (model prog w) A (eqBool (.ref a) (.ref b)) Q E s:=by
 unfold eqBool
 try with_reducible refine AN ?_
 by_cases hab:(Value.ref a==Value.ref b)=true
 · rw[if_pos hab];have e:a=b:=by have:=eq_of_beq hab;injection this
   subst e;obtain rfl:=hx.inj hy;exact Aa (Cf (Ac (by simpa using h)))
 · rw[if_neg hab];refine Aa (Bz (op:= .Eq) hx.typeIs hy.typeIs Dl
    (AR Dl hx.typeIs PySem.F.entry_tuple_eq (WG (by show A.units+1<cLine;exact hu) hx hy ⟨_,rfl,(λe=>nomatch e),Bf h⟩) (PySem.F.args_tuple_eq_2 _ _)) (by omega))
theorem Zf{p:WP}{Q:Bool→Shared→Prop}(hk:IsTupleKey (M2 prog w) s.heap (KW p) b)(h:Q true s):wpAny (model prog w) A (eqIsQuiet (n+1) (.ref b)) Q E s:=by
 have ty:=hk.typeIs;obtain⟨o,its,m,h1,_,h2,h3⟩:=hk;unfold eqIsQuiet;refine Aa (BW ty Dl.lookup ?_);show wpAny _ _ (isInstance (.ref b) (.type "tuple")>>=_) _ _ s;refine Aa (CS ty isSubtype_tuple_tuple ?_);simp only[Ce,A3,if_false];refine Aa (Bc h1 h2 (Aa ?_));show wpAny _ _ (forIn its _ _) _ _ s;rw[←Cs];refine Bw _ (λHI r s'=>r.1=none∧s'=s∧∀v∈HI,carriedByValue v=true) _ ?step ?done _ _ ⟨rfl,rfl,h3.byValue⟩
 case step=> rintro v HI r s' ⟨hr,rfl,al⟩;rw[eqIsQuiet_byValue _ (al v Ah)];refine Aa (Ac ?_);simp only[Ce,A3,if_false];exact Ac ⟨rfl,rfl,λu hu'=>al u (Ai _ hu')⟩
 case done=> rintro⟨r1,r2⟩ s' ⟨hr,rfl,_⟩;simp only at hr;subst hr;exact Ac h
theorem Pm{ws:List WP}{Q:Bool→Shared→Prop}(hk:IsWishKey prog w s.heap ws a)(h:Q true s):wpAny (model prog w) A (eqIsQuiet 8 (.ref a)) Q E s:=by
 have ty:=hk.typeIs;obtain⟨o,its,m,h1,_,h2,h3⟩:=hk;unfold eqIsQuiet;refine Aa (BW ty Dl.lookup ?_);show wpAny _ _ (isInstance (.ref a) (.type "tuple")>>=_) _ _ s;refine Aa (CS ty isSubtype_tuple_tuple ?_);simp only[Ce,A3,if_false];refine Aa (Bc h1 h2 (Aa ?_));show wpAny _ _ (forIn its _ _) _ _ s;rw[←Cs];refine Bw _ (λHI r s'=>r.1=none∧s'=s∧∃ws',RefsAre prog w s.heap ws' HI) _ ?step ?done _ _ ⟨rfl,rfl,ws,h3⟩
 case step=>
  rintro v HI r s' ⟨hr,rfl,ws',hl⟩;cases hl with
  | @cons p c ps _ c1 hl'=> refine Aa (Zf c1 ?_);simp only[Ce,A3,if_false];exact Ac ⟨rfl,rfl,ps,hl'⟩
 case done=> rintro⟨r1,r2⟩ s' ⟨hr,rfl,_⟩;simp only at hr;subst hr;exact Ac h
def MA(prog:AU)(w:World):HeapKind prog w (List WP) where
 is:=IsWishKey prog w
 hash:=Os w
 draws:=λws=>4*ws.length+1
 room:=λA=>A.units+1<cLine
 inj:=λhx hy=>hx.inj hy
 keeps:=λx ho hd hs=>x.keeps ho hd hs
 pyHash:=λhu hk h=>TH hu hk h
 eqBool:=λhu hx hy h=>R_ hu hx hy h
 quiet:=λhk h=>Pm hk h
theorem Pc{ws:List WP}(hok:HOk P w H h)(e:WishAt H a ws):IsWishKey P w h ws a:=by
 obtain⟨ps,rfl,hA,hP⟩:=e;obtain⟨_,its,rv,o,h1,h2,_,n,h3⟩:=(show ObjOk P w H h a (.tup (ps.map λp=>V.ref p.1)) from hok a _ hA);refine⟨o,its.toArray,n,h1,h2,h3,?_⟩;rw[C8];clear hA h1 h3
 induction ps generalizing its with
 | nil=>cases rv;exact .nil
 | cons p ps ih=>
  rw[Am] at rv;cases rv with
  | @cons _ u _ us r1 r2=>
   cases r1;refine .cons ?_ (ih (λx hx=>hP x (Ai _ hx)) (by rename_i hz;rw[Am,A8] at hz;omega) us r2);obtain⟨_,it2,rv2,o2,k1,k2,_,m,k3⟩:=(show ObjOk P w H h p.1 (.tup [V.str p.2.1,eV p.2.2.1,eV p.2.2.2]) from hok p.1 _ (hP p Ah));refine⟨o2,it2.toArray,m,k1,k2,k3,?_⟩;rw[C8];have end_is:∀(e:Option Int)(v:Value),RelV (eV e) v→Nq (.inl e) v=true:=λe v r=>by
    cases e with
    | none=>cases(show v=Value.none from r);rfl
    | some i=>obtain⟨t,rfl⟩:=(show ∃t,v=Value.int i t from r);exact TK i t
   cases rv2 with
   | @cons _ u1 _ _ a1 rv2=>
    cases rv2 with
    | @cons _ u2 _ _ a2 rv2=>
     cases rv2 with
     | @cons _ u3 _ _ a3 rv2=> cases rv2;obtain⟨t,rfl⟩:=(show ∃t,u1=Value.str p.2.1 t from a1);exact .cons (TL _ t) (.cons (end_is _ _ a2) (.cons (end_is _ _ a3) .nil))
def KeyRow(h:Heap)(d:Addr)(as:List Addr)(ep:Nat):Prop:=∃o es,h.get? d=some o∧o.ExactDict∧o.data= .dict es ep∧es.toList.map (·.key)=as.map Value.ref
theorem KeyRow.at'{h':Heap}{d:Addr}{as:List Addr}{ep:Nat}(x:KeyRow h d as ep)(k:∀o,h.get? d=some o→h'.get? d=some o):KeyRow h' d as ep:=let⟨o,es,ho,r⟩:=x;⟨o,es,k o ho,r⟩
theorem KeyRow.typeIs{d:Addr}{as:List Addr}{ep:Nat}(x:KeyRow s.heap d as ep):s.TypeIs (.ref d) "dict":=let⟨o,_,ho,hc,_⟩:=x;⟨o,ho,hc.1⟩
theorem KeyRow.size{h:Heap}{d:Addr}{as:List Addr}{ep:Nat}{es:Array DictEntry}(e:es.toList.map (·.key)=as.map Value.ref):es.size=as.length:=by have:=congrArg Db e;simpa using this
section
variable{it d:Addr}{ep:Nat}{as:List Addr}
theorem XW{Q:Value→Shared→Prop}(hd:(d==BH)=false)(R:KeyRow s.heap d as ep)
 (q:Q (.ref s.heap.objs.size) {s with heap:=s.heap.push {cls:= .type "dict_keyiterator",data:= .fields #[.ref d,.int 0 0,.int as.length 0,.int ep 0]}}):wpAny (model prog w) A (pyIter (.ref d)) Q E s:=by
 have ty:=R.typeIs;obtain⟨o,es,h1,h2,h3,h4⟩:=R;refine wpAny_pyIter_slot ty Fy (AR Fy ty PySem.F.entry_dict_iter ?go (PySem.F.args_dict_iter_1 _))
 case go=> unfold Builtin.«dict.__iter__» Builtin.Dict.dictSlotNone;refine Aa (Aa (wpAny_notOrdered_dict ty ?_));refine Ac ?_;show wpAny _ _ (DZ d>>=_) _ _ s;unfold DZ;rw[if_neg (by rw[hd];exact An)];refine Aa (Ac (Aa (C4 h1 h3 (Aa (Du h1 h3 ?_)))));refine Aa (Bh (Ac ⟨_,rfl,"dict_keyiterator",_,⟨_,Au _ rfl,rfl⟩,BI.lookup,?_⟩));simpa [rawInt,KeyRow.size (h:=s.heap) (d:=d) (ep:=ep) h4] using q
theorem X2{Q:Option Value→Shared→Prop}(hi:s.heap.IsKeyIter it d i as.length ep)(R:KeyRow s.heap d as ep)(ha:as[i]?=some a)
 (q:∀h',h'.IsKeyIter it d (i+1) as.length ep→Cw it s.heap h'→Q (some (.ref a)) {s with heap:=h'}):wpAny (model prog w) A (pyNext (.ref it)) Q E s:=by
 obtain⟨o,g1,g2,g3⟩:=id hi;obtain⟨od,es,h1,h2,h3,h4⟩:=R;have sz:es.size=as.length:=KeyRow.size (h:=s.heap) (d:=d) (ep:=ep) h4;have lt:i<es.size:=by rw[sz];exact(Aq.mp ha).1
 have ky:es[i].key= .ref a:=by
  have h5:(es.toList.map (·.key))[i]?=some es[i].key:=by rw[Aj];simp[lt]
  rw[h4,Aj,ha] at h5;exact(A4 h5).symm
 unfold pyNext;refine Aa (DU (Bm (name:=Ca "__next__") hi.typeIs BI (AR BI hi.typeIs DC ?go (D8 _))))
 case go=>
  refine Aa (Ac (Aa (Aa ?_)))
  first | refine Aa (C7 hi.typeIs (Ac ?_)) | refine Aa (CV hi.typeIs (Ac ?_))
  refine Aa (wpAny_fieldsOf g1 g3 ?_);simp only[show Eu "dict_keyiterator"=false by decide,A3,if_false];show wpAny _ _ (if(Value.ref d==Value.none)=true then _ else _) _ _ s
  rw[if_neg (by intro z;cases z)];refine Aa (Ac (Aa (C4 h1 h3 ?_)));rw[if_neg (by rw[sz];simp)];refine Aa (Ac (Aa (Du h1 h3 ?_)));rw[if_neg (by simp)];refine Ac ?_;simp only[show ¬((i:Int)<0) by omega,if_false,CL,BF lt];refine Aa ?_
  first | refine Aa (C7 hi.typeIs (Ac ?_)) | refine Aa (CV hi.typeIs (Ac ?_))
  refine Aa (wpAny_isOneOf_keyiter hi.typeIs ?_);show wpAny _ _ (setField (.ref it) 1 (rawInt ((i:Int)+1))>>=_) _ _ s;refine Aa (Et g1 g3 (by simp) ?_);have hi':(s.heap.update it (Obj.mapFields (·.setIfInBounds 1 (rawInt ((i:Int)+1))))).IsKeyIter it d (i+1) as.length ep:=
   ⟨_,Dh _ g1 (F9 (D6 g3 _)),(Obj.cls_mapFields ..).trans g2,by rw[D6 g3];simp[rawInt]⟩
  refine Aa (AN (Aa (wpAny_isOneOf_keyiter (s:={s with heap:=s.heap.update it (Obj.mapFields (·.setIfInBounds 1 (rawInt ((i:Int)+1))))}) hi'.typeIs ?_)))
  show wpAny _ _ (pure es[i].key) _ _ _;rw[ky];exact Ac (Ac ⟨_,rfl,Ac (q _ hi' (BG ..))⟩)
theorem WE{Q:Option Value→Shared→Prop}(hh:A.handled=none)(hi:s.heap.IsKeyIter it d i as.length ep)(R:KeyRow s.heap d as ep)(ha:as.length≤i)
 (q:∀h',Heap.ExtBut it s.heap h'→Q none {s with heap:=h'}):wpAny (model prog w) A (pyNext (.ref it)) Q E s:=by
 obtain⟨o,g1,g2,g3⟩:=id hi;obtain⟨od,es,h1,h2,h3,h4⟩:=R;have sz:es.size=as.length:=KeyRow.size (h:=s.heap) (d:=d) (ep:=ep) h4;unfold pyNext;refine Aa (DU (Bm (name:=Ca "__next__") hi.typeIs BI (AR BI hi.typeIs DC ?go (D8 _))))
 case go=>
  refine Aa (Ac (Aa (Aa ?_)))
  first | refine Aa (C7 hi.typeIs (Ac ?_)) | refine Aa (CV hi.typeIs (Ac ?_))
  refine Aa (wpAny_fieldsOf g1 g3 ?_);simp only[show Eu "dict_keyiterator"=false by decide,A3,if_false];show wpAny _ _ (if(Value.ref d==Value.none)=true then _ else _) _ _ s
  rw[if_neg (by intro z;cases z)];refine Aa (Ac (Aa (C4 h1 h3 ?_)));rw[if_neg (by rw[sz];simp)];refine Aa (Ac (Aa (Du h1 h3 ?_)));rw[if_neg (by simp)];refine Ac ?_;simp only[show ¬((i:Int)<0) by omega,if_false,CL,Array.getElem?_eq_none (show es.size≤i by omega)];refine Aa ?_
  first | refine Aa (C7 hi.typeIs (Ac ?_)) | refine Aa (CV hi.typeIs (Ac ?_))
  show wpAny _ _ (setField (.ref it) 0 .none>>=_) _ _ s;refine Aa (Et g1 g3 (by simp) ?_);show wpAny _ _ (newExc (Value.type "StopIteration") []>>=_) _ _ _;refine Aa ?_;unfold newExc newTuple;refine Aa (Bh ?_ (by size_fits));refine Aa (m:=firstArgMember _ _) (Fq (a:=Value.none) (by first | rfl | (simp only[firstArgMember];rfl)) ?_)
  refine Bh ?_ (by size_fits);unfold raiseNew;refine Aa (wpAny_handled ?_);rw[show A.in1.handled=none from hh];refine Aa (Ac (wpAny_throw ?_));refine Aa (CS (T:="StopIteration") (b:=true) ⟨_,Au _ rfl,rfl⟩ isSubtype_stop ?_);exact Ac (q _ (((BG ..).extBut.push _).push _))
end
def Jk(d:Addr)(as:List Addr)(ep:Nat):Heap→Prop:=λh=>(d==BH)=false∧KeyRow h d as ep
def V8(H:Hp)(d:Addr)(ks:List (Addr×List WP)):Prop:=(∃ep,H d=some (.ext (Jk d (ks.map (·.1)) ep)))∧∀k∈ks,WishAt H k.1 k.2
def LS(a:Addr)(as:List Addr)(ep:Nat):It:=
 ⟨λi H=>i<as.length∧H a=some (.ext (Jk a as ep)),λi H x H'=>H'=H∧∃f,as[i]?=some f∧x= .ref f,λi H=>as.length≤i∧H a=some (.ext (Jk a as ep))⟩
theorem Xm{K:Ad}{tg:Expr}(a it:Addr)(as:List Addr)(ep:Nat):Turn P w K tg (LS a as ep) [it] it (λi h=>h.IsKeyIter it a i as.length ep) where
 mem:=by simp
 obj:=λi h st b hb=>by
  have e:b=it:=by simpa using hb
  subst e;obtain⟨o,e,c,d⟩:=st;exact⟨o,e,λv z=>by rw[d] at z;cases z⟩
 keep:=λi h h' st k=>let⟨o,e,r⟩:=st;⟨o,k it (by simp) o e,r⟩
 item:=by
  intro X hP hw hK hc i pins s σ H E I hfp st hg;subst hP hw hK;obtain⟨hi,hH⟩:=hg;have R:=(show ObjOk X.prog X.w H s.heap a (.ext (Jk a as ep)) from I.hok a _ hH).1.2;obtain⟨f0,f1,f2,f3,f4,f5⟩:=hfp it (by simp);have ha:as[i]?=some as[i]:=by simp
  refine X2 st R ha λh' hit' hs'=>?_;have I1:Inv X pins σ H {s with heap:=h'}:=I.turned (t':=s.toks) (λb o hb e=>hs'.extBut b o hb e) f0 f1 f3 f4 f5
  obtain⟨o2,e,c,d⟩:=id hit';exact⟨_,rfl,LX (s:={s with heap:=h'}) e c d (by decide) ⟨.ref as[i],H,I1,rfl,⟨rfl,_,ha,rfl⟩,hit',λb hb=>(hfp b hb).1⟩⟩
 done:=by intro X hP hw hK hc i pins s σ H E I hfp st hg;subst hP hw hK;obtain⟨hi,hH⟩:=hg;have R:=(show ObjOk X.prog X.w H s.heap a (.ext (Jk a as ep)) from I.hok a _ hH).1.2;obtain⟨f0,f1,f2,f3,f4,f5⟩:=hfp it (by simp);exact WE (I.ok.hd hc) st R hi λh' eb=>⟨rfl,I.turned (t':=s.toks) (λb o hb e=>eb b o hb e) f0 f1 f3 f4 f5⟩
 self:=λ_ _ _ _ _ st h=>wpAny_pyIter_keyiter st h
section
variable{tg:Expr}
def QC(tl:TE):TI:=λσ H R=>tl σ H λx H1=>∃(a:Addr)(as:List Addr)(ep:Nat),x= .ref a∧H1 a=some (.ext (Jk a as ep))∧R (LS a as ep) H1
theorem R1{l:Expr}{tl:TE}(hl:PE X l tl):PI X tg l (QC tl):=by
 intro pins s σ H R I h;refine HJ (hl pins s σ H _ I h) λv s1 ⟨x,H1,I1,r1,q1⟩=>?_;obtain⟨a,as,ep,e,hH,q⟩:=q1;subst e;cases r1;have R:=(show ObjOk X.prog X.w H1 s1.heap a (.ext (Jk a as ep)) from I1.hok a _ hH).1;refine XW R.1 R.2 ?_;refine⟨s1.heap.objs.size,[s1.heap.objs.size],_,_,H1,rfl,I1.kept (t':=s1.toks) λb o e=>Ae _ e,Xm a _ as ep,⟨_,Au _ rfl,rfl,rfl⟩,λb hb=>?_,q⟩;have e:b=s1.heap.objs.size:=by simpa using hb
 subst e;exact I1.fpOk (Af _) (I1.hok.fresh (Af _))
end
theorem Vp{a p:Addr}{as:List Addr}{ep:Nat}{g:TG}{tc:TT}{te:TE}{Q:VK}{js:IC}(Pv:Nat→St→List V→Hp→Prop)(h0:Pv 0 (Jf js σ) [] (HD H p (.lst [])))
 (hl:∀i σ ys H,i≤as.length→Pv i σ ys H→H a=some (.ext (Jk a as ep))∧H p=some (.lst ys)∧ys.length<Aw)
 (hs:∀(i:Nat)x σ ys H(N:St→List V→Hp→Prop),as[i]?=some x→Pv i σ ys H→(∀σ' ys' H',Pv (i+1) σ' ys' H'→N σ' ys' H')→Lj p g tc te ys (.ref x) σ H N)
 (hd:∀σ ys H,Pv as.length σ ys H→Q (.ref p) H):JU (LS a as ep) p js g tc te σ H Q:=
 LA (n:=as.length) (J:=LS a as ep) (js:=js) (σ:=σ) (H:=H) (p:=p) (Q:=Q) (g:=g) (tc:=tc) (te:=te) Pv h0 (λi σ ys H hi pv=>(hl i σ ys H hi pv).2)
  (λi σ ys H hi pv=>⟨hi,(hl i σ ys H (Bo hi) pv).1⟩) (λσ ys H pv=>⟨Af _,(hl _ σ ys H (Af _) pv).1⟩)
  (λi x σ ys H H' N hi y pv hN=>by obtain⟨rfl,f,hf,rfl⟩:=y;exact hs i f σ ys _ N hf pv hN) hd
theorem WI{as:List Addr}{ep:Nat}{g:TG}{tb:TS}{D:Ends}(Pv:Nat→St→Hp→Prop)(h0:Pv 0 σ H)(hl:∀i σ H,i≤as.length→Pv i σ H→H a=some (.ext (Jk a as ep)))
 (hs:∀i x σ H,as[i]?=some x→Pv i σ H→g (.ref x) σ H λσ2 H2=>tb {D with nx:=Pv (i+1),ct:=Pv (i+1),bk:=D.nx} σ2 H2) (hd:∀σ H,Pv as.length σ H→D.nx σ H):
 ∃W:Nat→Nat→St→Hp→Prop,(∃m,W 0 m σ H)∧∀i m σ H,W i m σ H→
  ((LS a as ep).stop i H∧D.nx σ H)∨((LS a as ep).go i H∧∃N:St→Hp→Prop,(∀σ' H',N σ' H'→∃m',m'<m∧W (i+1) m' σ' H')∧∀x H',(LS a as ep).yld i H x H'→g x σ H' λσ2 H2=>tb {D with nx:=N,ct:=N,bk:=D.nx} σ2 H2):=by
 refine⟨λi m σ H=>m=as.length - i∧i≤as.length∧Pv i σ H,⟨as.length,by simp,AC _,h0⟩,?_⟩;rintro i m σ H ⟨rfl,hi,p⟩;have q:=hl i σ H hi p;by_cases hlt:i<as.length
 · refine .inr ⟨⟨hlt,q⟩,Pv (i+1),λσ' H' p'=>⟨as.length - (i+1),by omega,rfl,hlt,p'⟩,λx H' y=>?_⟩;obtain⟨rfl,f,hf,rfl⟩:=y;exact hs i f σ _ hf p
 · have e:i=as.length:=by omega
   subst e;exact .inl ⟨⟨Af _,q⟩,hd σ H p⟩
def Kr(k:Addr×List WP):List WP×Addr×Value:=(k.2,k.1,.bool true)
def II(P:AU)(w:World)(d:Addr)(ks:List (Addr×List WP)):Heap→Prop:=λh=>(d==BH)=false∧∃o es ep,h.get? d=some o∧o.ExactDict∧o.data= .dict es ep∧es.toList=(ks.map Kr).map (entryOfKey (MA P w))∧((ks.map Kr).map (·.1)).Nodup
def JD(ks:List (Addr×List WP))(a:Addr)(w:List WP):List (Addr×List WP):=if(ks.any λk=>decide (k.2=w))=true then ks else ks++[(a,w)]
section
variable{d:Addr}{ks:List (Addr×List WP)}
theorem Sa{P':AU}{w':World}(x:II P w d ks h):ObjOk P' w' H h d (.ext (II P w d ks)):=⟨x,let⟨_,o,_,_,e,_⟩:=x;⟨o,e⟩,λh1 h2 ⟨y,o,es,ep,e,r⟩ k=>⟨y,o,es,ep,k o e,r⟩⟩
theorem WH{as:List Addr}{ep:Nat}(x:Jk d as ep h):ObjOk P w H h d (.ext (Jk d as ep)):=⟨x,let⟨_,o,_,e,_⟩:=x;⟨o,e⟩,λh1 h2 ⟨y,r⟩ k=>⟨y,r.at' k⟩⟩
theorem Xp(h:Heap)(hb:BH<h.objs.size):II P w h.objs.size [] (h.push {cls:= .type "dict",data:= .dict #[]}):=
 ⟨by simpa using Cy hb,_,#[],0,Au _ rfl,⟨rfl,rfl,rfl⟩,rfl,rfl,Ew⟩
theorem Xr(x:II P w d ks h):∃(es:Array DictEntry)(ep:Nat),Jk d (ks.map (·.1)) ep h:=by obtain⟨y,o,es,ep,e,c,dt,he,_⟩:=x;refine⟨es,ep,y,o,es,e,c,dt,?_⟩;rw[he,Cd,Cd,Cd];rfl
theorem Xk(x:II P w d ks h)(k:∀k∈ks,IsWishKey P w h k.2 k.1):h.DictOfH (MA P w) d (ks.map Kr):=by obtain⟨y,o,es,ep,e,c,dt,he,nd⟩:=x;refine⟨o,es,ep,e,c,dt,he,λz hz=>?_,nd⟩;obtain⟨q,hq,rfl⟩:=AG.mp hz;exact k q hq
theorem Xq(hd:(d==BH)=false)(x:h.DictOfH (MA P w) d (ks.map Kr)):II P w d ks h:=by obtain⟨o,es,ep,e,c,dt,he,_,nd⟩:=x;exact⟨hd,o,es,ep,e,c,dt,he,nd⟩
theorem Zk(ks:List (Addr×List WP))(a:Addr)(v:List WP):storedH (ks.map Kr) v a (.bool true)=(JD ks a v).map Kr:=by
 unfold JD;by_cases h:(ks.any λk=>decide (k.2=v))=true
 · rw[if_pos h];have ne:atKey (ks.map Kr) v≠none:=by
    obtain⟨k,hk,e⟩:=Cq.mp h;unfold atKey;intro z;have:=Option.map_eq_none_iff.mp z;exact absurd e (Da.mp this (Kr k) (Ba hk))
   obtain⟨p,hp⟩:=Option.ne_none_iff_exists'.mp ne;rw[storedH_old hp,Cd];refine FY λk _=>?_;unfold putAt Kr;simp only[Function.comp]
   split<;>rfl
 · rw[if_neg h,Ar];have:atKey (ks.map Kr) v=none:=by
    unfold atKey;rw[Option.map_eq_none_iff,List.find?_eq_none];intro x hx z;obtain⟨k,hk,rfl⟩:=AG.mp hx;exact h (Cq.mpr ⟨k,hk,z⟩)
   rw[storedH_new this];rfl
end
def RK(J:It)(p:Addr)(js:IC)(g:TG)(tc:TT)(tk tv:TE)(σ:St)(H:Hp)(Q:VK):Prop:=
 ∃W:Nat→Nat→St→List (Addr×List WP)→Hp→Prop,(∃m,∀φ,W 0 m (Jf js σ) [] (HD H p (.ext φ)))∧∀i m σ' ks H,W i m σ' ks H→(∀k∈ks,WishAt H k.1 k.2)∧ks.length≤900∧
  ((J.stop i H∧∀ep,Q (.ref p) (HD H p (.ext (Jk p (ks.map (·.1)) ep))))∨(J.go i H∧∀x H',J.yld i H x H'→g x σ' H' λσ2 H2=>tc σ2 H2 λb H3=>
    if b=true then tk σ2 H3 λk H4=>tv σ2 H4 λy H5=>∃a w,k= .ref a∧y= .bl true∧WishAt H5 a w∧(∀k∈ks,WishAt H5 k.1 k.2)∧H5 p=H p∧∀φ,∃m',m'<m∧W (i+1) m' σ2 (JD ks a w) (HD H5 p (.ext φ))
    else H3 p=H p∧∃m',m'<m∧W (i+1) m' σ2 ks H3))
def Ql(wi:TI)(js:IC)(g:TG)(tc:TT)(tk tv:TE):TE:=λσ H Q=>wi σ H λJ H1=>∀p,H1 p=none→RK J p js g tc tk tv σ H1 Q
section
variable{tg iter kx vx:Expr}{ifs:List Expr}{wi:TI}{js:IC}{g:TG}{tc:TT}{tk tv:TE}{N':List Str}
theorem Y1{pins:List (Addr×Obj)}{σ:St}{H:Hp}{s:Shared}{E:Value→Shared→Prop}{Q:VK}{J:It}{it:Addr}{fp:List Addr}{tn:Nat→Heap→Prop}{cl:List (Str×Addr)}
 (hr:J4 X) (hc:X.calm=true) (ok:CapOk X N' js scope)
 (h2:∀x c,cl.lookup x=some c→X.env.cells.lookup x=some c) (h3:∀p∈scope.names,p.2= .free→(cl.lookup p.1).isSome=true)
 (hg:∀cl C s₀ H₀ ex,PG (Ij X N' scope cl C s₀ H₀ ex) tg g) (ht:∀cl C s₀ H₀ ex,Ir (Ij X N' scope cl C s₀ H₀ ex) ifs tc) (he:∀cl C s₀ H₀ ex,PE (Ij X N' scope cl C s₀ H₀ ex) kx tk) (hv:∀cl C s₀ H₀ ex,PE (Ij X N' scope cl C s₀ H₀ ex) vx tv)
 (I:Inv X pins σ H s) (T:Turn X.prog X.w X.K tg J fp it tn) (st:tn 0 s.heap) (hf:∀b∈fp,HS X pins H b)
 (hw:∀p,H p=none→RK J p js g tc tk tv σ H Q):
 wpAny (model X.prog X.w) X.A newDict (λacc s₃=>wpAny (model X.prog X.w) X.A (newFunctionEnv scope X.env.globals cl [] X.env.qual none .none (some X.env)) (λcenv s₄=>
  codeAny (model X.prog X.w) X.A (.compStart (.DictComp kx vx [⟨tg,iter,ifs,0⟩] scope pos) 0 (.ref it) acc {cenv with scope:=relabel scope X.env})
   (λr s'=>r= .ok .next∧(∃m,s'.heap.Ns cenv.locals m)∧∃v H',RelV v acc∧Inv X pins σ H' s'∧HS X pins H' cenv.locals∧Q v H') s₄) E s₃) E s:=by
 have objs:=T.obj _ _ st;refine Bh ?_;obtain⟨W,⟨m0,w0⟩,turn⟩:=hw s.heap.objs.size (I.hok.fresh (Af _));generalize hp:s.heap.objs.size=p at*;have kp:∀b u,s.heap.get? b=some u→(s.heap.push {cls:= .type "dict",data:= .dict #[]}).get? b=some u:=λb u e=>Ae _ e;have I3:Inv X pins σ (HD H p (.ext (II X.prog X.w p []))) {s with heap:=s.heap.push {cls:= .type "dict",data:= .dict #[]}}:=by subst hp;exact I.laid (t':=s.toks) kp (Af _) (Sa (Xp s.heap I.big))
 have fne:∀b∈fp,b≠p:=λb hb=>by obtain⟨o,e,_⟩:=objs b hb;have:=Ao e;rw[←hp];exact A5 this
 have hf3:∀b∈fp,HS X pins (HD H p (.ext (II X.prog X.w p []))) b:=λb hb=>⟨by rw[HV (fne b hb)];exact(hf b hb).1,(hf b hb).2⟩;have st3:tn 0 (s.heap.push {cls:= .type "dict",data:= .dict #[]}):=T.keep _ _ _ st λb _ o e=>kp b o e;have lt3:∀b∈fp,b<(s.heap.push {cls:= .type "dict",data:= .dict #[]}).objs.size:=λb hb=>by obtain⟨o,e,_⟩:=objs b hb;exact Ao (kp b o e)
 generalize hs3:({s with heap:=s.heap.push {cls:= .type "dict",data:= .dict #[]}}:Shared)=s3 at*
 have eh:s.heap.push {cls:= .type "dict",data:= .dict #[]}=s3.heap:=by rw[←hs3]
 rw[eh] at st3 lt3;refine ME ok.cells λcl h₁ hns₁ k4 oc=>?_;have I4:=M6 (cl:=cl) (h₁:=h₁) (t':=s3.toks+([]:List (Str×Value)).length) ok I3 h2 h3 hf3 lt3 k4 hns₁ oc;have st4:tn 0 h₁:=T.keep _ _ _ st3 λb _ o e=>k4 b o e;generalize hX:Ij X N' scope cl s3.heap.objs.size s3 (HD H p (.ext (II X.prog X.w p []))) fp=X' at I4;have hg':PG X' tg g:=by rw[←hX];exact hg _ _ _ _ _
 have ht':Ir X' ifs tc:=by rw[←hX];exact ht _ _ _ _ _
 have he':PE X' kx tk:=by rw[←hX];exact he _ _ _ _ _
 have hv':PE X' vx tv:=by rw[←hX];exact hv _ _ _ _ _
 have eP:X'.prog=X.prog:=by rw[←hX];rfl
 have ew:X'.w=X.w:=by rw[←hX];rfl
 have eK:X'.K=X.K:=by rw[←hX];rfl
 have ec:X'.calm=true:=by rw[←hX];exact hc
 have eA:X'.A=X.A:=by rw[←hX];rfl
 have ex:X'.xe=λ_ _=>False:=by rw[←hX];rfl
 have eE:X'.env=compEnvC scope cl s3.heap.objs.size X.env:=by rw[←hX];rfl
 have eEx:X'.ex=fp:=by rw[←hX];rfl
 have eN:X'.pn=[]:=by rw[←hX];rfl
 have stat:∀{H':Hp},(∀b∈fp,H' b=none)→∀b∈fp,HS X' [] H' b:=λ{H'}hn b hb=>by have okc:=I4.ok;refine⟨hn b hb,(okc.exf b (by rw[eEx];exact hb)).1,okc.exfs b (by rw[eEx];exact hb),.inl (by rw[eEx];exact hb),(okc.exf b (by rw[eEx];exact hb)).2,λq hq=>?_⟩;rw[eN] at hq;cases hq
 have loop:∀s₄:Shared,s₄={s3 with heap:=h₁,toks:=s3.toks+([]:List (Str×Value)).length}→
  codeAny (model X.prog X.w) X.A (.compLoop (.DictComp kx vx [⟨tg,iter,ifs,0⟩] scope pos) 0 (.ref it) (.ref p) (compEnvC scope cl s3.heap.objs.size X.env))
   (λr s'=>r= .ok .next∧(∃m,s'.heap.Ns s3.heap.objs.size m)∧∃v H',RelV v (.ref p)∧Inv X pins σ H' s'∧HS X pins H' s3.heap.objs.size∧Q v H') s₄:=by
  rintro s₄ rfl;refine U5 (λn s'=>∃i σ' ys H',Inv X' [] σ' H' s'∧tn i s'.heap∧(∀b∈fp,H' b=none)∧H' p=some (.ext (II X.prog X.w p ys))∧W i n σ' ys H') ?_ m0 ⟨0,_,[],_,I4,st4,λb hb=>(hf3 b hb).1,HH,w0 _⟩;rintro n s5 ⟨i,σ5,ys,H5,I5,st5,fr5,hp5,w5⟩;obtain⟨wk5,lk5,tu⟩:=turn i n σ5 ys H5 w5;rcases tu with⟨stop,qn⟩ | ⟨go,step⟩
  · have D:=T.done X' eP ew eK ec i [] s5 σ5 H5 (λ_ _=>False) I5 (stat fr5) st5 stop;rw[eA] at D;refine HJ D λr s6 ⟨hr,I6⟩=>?_;subst hr;obtain⟨es0,ep0,row⟩:=Xr ((show ObjOk X'.prog X'.w H5 s6.heap p (.ext (II X.prog X.w p ys)) from I6.hok p _ hp5).1);have I3':Inv X' [] σ5 (HD H5 p (.ext (Jk p (ys.map (·.1)) ep0))) s6:=I6.write (t':=s6.toks) (x:=p) (e:=p) (by rw[hp5];exact True.intro) (.inl rfl) (λb u _ z=>z) (let⟨o,_,e,_⟩:=row.2;⟨o,e⟩) (WH row);refine⟨rfl,?_,.ref p,HD H5 p (.ext (Jk p (ys.map (·.1)) ep0)),rfl,?_,?_,qn ep0⟩
    · obtain⟨m,hm,_⟩:=I6.loc;rw[eE] at hm;exact⟨m,hm⟩
    · have b6:=I3'.base;have ho:=I3'.os;have hk:=I3'.hok;have hb:=I3'.bare;subst hX;exact I3.call' (ch:=fp) ho b6 hk hb λb hb'=>⟨(hf b hb').2.2.2.1,(hf b hb').2.1,(hf b hb').2.2.2.2.1,(hf b hb').2.2.2.2.2⟩
    · have fr:=I3'.free;rw[eE] at fr;exact I3.fpOk (Af _) fr
  · have D:=T.item X' eP ew eK ec i [] s5 σ5 H5 (λ_ _=>False) I5 (stat fr5) st5 go;rw[eA] at D;refine HJ D λr s6 ⟨u,hr,h6⟩=>?_;subst hr;refine HJ h6 λ_ s7 ⟨x,H7,I7,r7,y7,st7,fr7⟩=>?_;have I7':=I7.pinned (stat fr7) (T.obj _ _ st7);have G:=hg' _ s7 σ5 H7 x u _ I7' r7 (step x H7 y7);rw[eP,ew,eA,ex,eE] at G;refine HJ G λ_ s8 ⟨σ8,H8,I8,q8⟩=>?_;have Tt:=ht' _ s8 σ8 H8 _ I8 q8;rw[eP,ew,eA,ex,eE] at Tt;refine HJ Tt λb s9 ⟨H9,I9,q9⟩=>?_;have again:∀{s':Shared}{ys':List (Addr×List WP)}{H':Hp},Inv X' ([]++Ky fp s7.heap) σ8 H' s'→H' p=some (.ext (II X.prog X.w p ys'))→(∃m',m'<n∧W (i+1) m' σ8 ys' H')→
     ∃m,m<n∧∃i σ' ys H',Inv X' [] σ' H' s'∧tn i s'.heap∧(∀b∈fp,H' b=none)∧H' p=some (.ext (II X.prog X.w p ys))∧W i m σ' ys H':=λ{s' ys' H'}I' hp' ⟨m',hm,w'⟩=>by
     refine⟨m',hm,i+1,σ8,ys',H',I'.unpinned,T.keep _ _ _ st7 λb hb o e=>(I'.pin (b,o) (Ag _ (Ag _ (JK hb e)))).1,λb hb=>?_,hp',w'⟩;obtain⟨o,e,d⟩:=T.obj _ _ st7 b hb;exact(I'.pin (b,o) (Ag _ (Ag _ (JK hb e)))).2.1
    cases b with
    | false=> obtain⟨e9,q9⟩:=q9;exact again I9 (e9.trans hp5) q9
    | true=> have Ee:=he' _ s9 σ8 H9 _ I9 q9;rw[eP,ew,eA,ex,eE] at Ee;show wpAny _ _ _ _ _ _;refine HJ Ee λkv s10 ⟨kk,H10,I10,r10,q10⟩=>?_;have Ev:=hv' _ s10 σ8 H10 _ I10 q10;rw[eP,ew,eA,ex,eE] at Ev;refine HJ Ev λvv s11 ⟨y,H11,I11,r11,a,wv,ek,ey,wa,wks,hp11,q11⟩=>?_;subst ek ey;cases(show kv=Value.ref a from r10);cases(show vv=Value.bool true from r11);have hp11':=hp11.trans hp5;have ph:=(show ObjOk X'.prog X'.w H11 s11.heap p (.ext (II X.prog X.w p ys)) from I11.hok p _ hp11').1;have hok:=I11.hok;rw[eP,ew] at hok;refine wpAny_dictSet_heap (knd:=MA X.prog X.w) (xs:=ys.map Kr) (k:=wv) (by show X.A.units+1<cLine;unfold J4 at hr;omega) (Pc hok wa) (Xk ph λk hk=>Pc hok (wks k hk)) (λh' dd' hs'=>?_) (by rw[Ab,sizeLine_eq];omega);rw[Zk] at dd';have he0:∃q,h'.get? p=some q:=let⟨q,_,_,hq,_⟩:=dd';⟨q,hq⟩;have I12:=OE (t':=s11.toks+(MA X.prog X.w).draws wv) (ob:= .ext (II X.prog X.w p (JD ys a wv))) I11 (by rw[hp11'];exact True.intro) hs' he0 (Sa (Xq ph.1 dd'));exact again I12 HH (q11 _)
 exact Fu (loop _ rfl) (T.self _ 0 _ _ _ st4 (loop _ rfl))
theorem Vw(hr:J4 X)(hc:X.calm=true)(ok:CapOk X N' js scope)(hi:PI X tg iter wi)
 (hg:∀cl C s₀ H₀ ex,PG (Ij X N' scope cl C s₀ H₀ ex) tg g) (ht:∀cl C s₀ H₀ ex,Ir (Ij X N' scope cl C s₀ H₀ ex) ifs tc) (he:∀cl C s₀ H₀ ex,PE (Ij X N' scope cl C s₀ H₀ ex) kx tk) (hv:∀cl C s₀ H₀ ex,PE (Ij X N' scope cl C s₀ H₀ ex) vx tv)
 (hs:∀x,Bp iter X.env x=pure x:=by intro _;rfl):PE X (.DictComp kx vx [⟨tg,iter,ifs,0⟩] scope pos) (Ql wi js g tc tk tv):=by
 intro pins s σ H Q I h;obtain⟨cl,c1,c2,c3⟩:=Mb (scope:=scope) I.ok.has ok.free;show wpAny _ X.A (comprehension (.DictComp kx vx [⟨tg,iter,ifs,0⟩] scope pos) scope X.env _ newDict false (eval iter X.env)) _ _ s;refine Cc (use:=none) rfl hs c1 ok.kind ok.names (HJ (hi pins s σ H _ I h) λv s1 h1=>HJ h1 λitv s2 h2=>?_);obtain⟨it,fp,tn,J,H2,e,I2,T,st2,f2,hw⟩:=h2;subst e;refine Av (Y1 (iter:=iter) (pos:=pos) hr hc ok c2 c3 hg ht he hv I2 T st2 f2 hw) (λacc s3 h3=>Av h3 (λcenv s4 h4=>?_) λ_ _ z=>z) λ_ _ z=>z;refine BS h4 λr s5 h5=>?_;obtain⟨rfl,⟨m,hm⟩,v,H5,rv,I5,f5,q5⟩:=h5;refine⟨m,hm,λh' sb=>?_⟩;obtain⟨f0,f1,_,f3,f4,f6⟩:=f5;exact⟨v,H5,I5.turned (t':=s5.toks) (λb o hb e=>(sb.2 b hb).trans e) f0 f1 f3 f4 f6,rv,q5⟩
end
def Qq(outer scope:Scope):Scope:={scope with names:=scope.names.map λ(n,k)=>if(k== .free && outer.kind== .function && outer.names.lookup n==some .cell) then(n,.cell) else(n,k)}
def VF(st:Stmt)(k:Nat):Scope:=match st with
 | .FunctionDef _ _ b _ _ _ _ _ _ _=>(match b[k]? with
  | some (.Assign _ (.ListComp _ _ sc _) _)=>sc
  | _=>HQ st)
 | _=>HQ st
def Wn(K:Ad):R2:=λx y H Q=>∃(l:Addr)(ps:List (Addr×PD))(d:PD),y= .ref l∧SqL K H l (ps.map λp=>V.ref p.1)∧(∀p∈ps,Rep K H p.2 (.ref p.1)∧Iw p.2≤20)∧Rep K H d x∧Q (.bl (!ps.any λp=>HL p.2 d)) H
theorem Ul(hr:J4 X):Iv X (AY .NotIn) (Wn X.K):=by
 intro pins s σ H x y v u Q I rx ry h;obtain⟨l,ps,d,rfl,hq,hp,hd,q⟩:=h;cases ry;obtain⟨its,r,pl,hz⟩:=I.list hq;obtain rfl:=Uh r;have at':∀p∈ps,Oe ps d (.ref p.1)=HL p.2 d:=λp hm=>by
  show((ps.find? λq=>decide (q.1=p.1)).any λq=>HL q.2 d)=HL p.2 d;cases e:ps.find? (λq=>decide (q.1=p.1)) with
  | none=>exact absurd (decide_eq_true rfl) (Da.mp e p hm)
  | some p'=> have h1:p'.1=p.1:=of_decide_eq_true (List.find?_some (p:=λ(q:Addr×PD)=>decide (q.1=p.1)) e);have h2:=(hp p' (List.mem_of_find?_eq_some e)).1;rw[h1] at h2;rw[Option.any_some,ND I _ _ _ h2 (hp p hm).1]
 refine SeqAt.notIn_listAt (Oe ps d) pl.isList (λz hz'=>?_) ⟨.bl _,H,I,rfl,?_⟩
 · obtain⟨p,hm,rfl⟩:=AG.mp (show z∈ps.map λp=>Value.ref p.1 by simpa using hz');rw[at' p hm];have:=(hp p hm).2;exact LF I _ p.2 d _ _ _ _ (hp p hm).1 hd rfl rx (by have:=hr;simp only[J4,AS] at*;omega)
 · have e:(ps.map λp=>Value.ref p.1).toArray.any (Oe ps d)=ps.any λp=>HL p.2 d:=by
    rw[List.any_toArray,Fb];have:∀qs:List (Addr×PD),(∀q∈qs,q∈ps)→qs.any (Oe ps d∘λp=>Value.ref p.1)=qs.any λp=>HL p.2 d:=λqs=>by
     induction qs with
     | nil=>intro _;rfl
     | cons q qs ih=> intro h;rw[Co,Co,ih λx hx=>h x (Ai _ hx)];congr 1;exact at' q (h q Ah)
    exact this ps λ_ h=>h
   rw[e];exact q
def SY:Sp:=λvs H Q _=>∃(b g l a:Addr)(n:Int)(xs:List V),vs=[.ref b,.ref a]∧Well H b g l n∧n≤10^6∧H a=some (.lst xs)∧a≠b∧a≠g∧xs.length≤100∧
 ∀(r:Addr)(ys:List V)(H':Hp),H r=none→H' r=some (.lst ys)→ys.Perm xs→Well H' b g l (n+100)→SameB b g H H'→Q (.ref r) H'
theorem R0{o:Expr}{es:List Expr}{to:TE}{t:TA}{name:Str}{apos cpos:Pos}{T id:String}{r:V→List V→Hp→VK→Prop}(K:Ad)(hK:X.K=K)(pa:PlainAttrs T)(slot:Slot T name id)(hty:typeOf (.builtin id)=pure (.type "method_descriptor"))(hm:UV X id r)(ho:PE X o to)(ha:PA X (e::es) t)
 (hbase:attributeBase o name X.env (eval o X.env)=eval o X.env:=by rfl)
 (hfew:((backTo cpos (A6 (e::es) X.env)).all (λx=>!x.1) && (backToKw cpos (keywordEach [] X.env)).all (λx=>x.1.isSome)
  && decide ((e::es).length+([]:List Keyword).length+(if([]:List Keyword).isEmpty then 0 else 1)<30))=true:=by rfl)
 (hline:(apos.endLine==cpos.line)=true:=by rfl) (hs:A6 (e::es) X.env=(false,eval e X.env)::A6 es X.env:=by rfl) (hplain:(backTo cpos (A6 es X.env)).any (·.1)=false:=by rfl):
 PE X (.Call (.Attribute o name apos) (e::es) [] cpos) (UN K T r to t):=by
 subst hK;exact JM pa slot hty hm ho ha hbase hfew hline hs hplain
theorem Pl{α:Type}:∀(l:List α)(k:Nat)(h:k<l.length),(l[k]::l.eraseIdx k).Perm l
 | [],_,h=>by simp at h
 | a::l,0,_=>DD _
 | a::l,k+1,h=>by have ih:=Pl l k (by simpa using h);exact(List.Perm.swap a (l[k]'(by simpa using h)) (l.eraseIdx k)).trans (ih.cons a)
theorem UG{α β:Type}{f:α→β}{ys zs:List β}(h:ys.Perm zs):∀l:List α,zs=l.map f→∃l':List α,l'.Perm l∧l'.map f=ys:=by
 induction h with
 | nil=>intro l e;exact⟨l,DD _,e.symm⟩
 | cons x _ ih=>
  intro l e;cases l with
  | nil=>cases e
  | cons a l=>
   rw[Am] at e;injection e with e1 e2
   obtain⟨l',p,e3⟩:=ih l e2;exact⟨a::l',p.cons a,by rw[Am,e3,e1]⟩
 | swap x y r=>
  intro l e
  match l,e with
  | a::b::l,e=>
   rw[Am,Am] at e;injection e with e1 e2
   injection e2 with e2 e3
   exact⟨b::a::l,List.Perm.swap _ _ _,by rw[Am,Am,e1,e2,e3]⟩
 | trans _ _ ih1 ih2=> intro l e;obtain⟨l1,p1,e1⟩:=ih2 l e;obtain⟨l2,p2,e2⟩:=ih1 l1 e1.symm;exact⟨l2,p2.trans p1,e2⟩
namespace ST
open PySem.SetTable
def lp(mask:Nat):Nat→Nat×Nat→Nat×Nat
 | 0,s=>s
 | m+1,s=>lp mask m (leap mask s.1 s.2)
theorem N5(mask:Nat):∀(m:Nat)(s:Nat×Nat),lp mask (m+1) s=leap mask (lp mask m s).1 (lp mask m s).2
 | 0,s=>rfl
 | m+1,s=>N5 mask m (leap mask s.1 s.2)
theorem Si(mask:Nat):∀(m:Nat)(s:Nat×Nat),(lp mask m s).2=s.2 / 32^m
 | 0,s=>by simp[lp]
 | m+1,s=>by rw[N5];show(lp mask m s).2 / 32=_;rw[Si mask m s,Nat.div_div_eq_div_mul,Nat.pow_succ]
theorem Rw(mask:Nat):∀(m k:Nat)(s:Nat×Nat),lp mask (m+k) s=lp mask k (lp mask m s)
 | 0,k,s=>by rw[Eh];rfl
 | m+1,k,s=>by rw[Nat.add_right_comm];show lp mask (m+k) (leap mask s.1 s.2)=_;rw[Rw mask m k];rfl
def Nc(mask:Nat):Nat→Nat→Nat
 | 0,i=>i
 | k+1,i=>Nc mask k ((i*5+1)%(mask+1))
theorem Sj(mask:Nat):∀(k i:Nat),(lp mask k (i,0)).1=Nc mask k i
 | 0,i=>rfl
 | k+1,i=>by
  show(lp mask k (leap mask i 0)).1=_;have:leap mask i 0=((i*5+1)%(mask+1),0):=by unfold leap;simp
  rw[this,Sj mask k];rfl
theorem Vc:∀i<8,∀e<8,∃k<8,Nc 7 k i=e:=by decide+kernel
theorem VN:∀i<32,∀e<32,∃k<32,Nc 31 k i=e:=by decide+kernel
theorem Vf(mask:Nat):∀(m:Nat)(s:Nat×Nat),s.1<mask+1→(lp mask m s).1<mask+1
 | 0,s,h=>h
 | m+1,s,h=>by rw[N5];exact DE _ (by omega)
theorem QR{mask:Nat}(hm:mask=7∨mask=31){p e:Nat}(hi:i<mask+1)(hp:p<2^64)(he:e<mask+1):∃m,m<mask+14∧(lp mask m (i,p)).1=e:=by
 have h13:(lp mask 13 (i,p)).2=0:=by rw[Si];exact Nat.div_eq_of_lt (AB hp (by decide))
 have h1:=Vf mask 13 (i,p) hi;obtain⟨k,hk,hl⟩:∃k<mask+1,Nc mask k (lp mask 13 (i,p)).1=e:=by
  rcases hm with rfl | rfl
  · exact Vc _ h1 _ he
  · exact VN _ h1 _ he
 refine⟨13+k,by omega,?_⟩;rw[Rw,show lp mask 13 (i,p)=((lp mask 13 (i,p)).1,0) from Prod.ext rfl h13,Sj];exact hl
def Im(t:AV):Nat→Probe→Probe
 | 0,p=>p
 | k+1,p=>Im t k (t.advance p)
theorem NE(t:AV):∀(k:Nat)(p:Probe),Im t (k+1) p=t.advance (Im t k p)
 | 0,p=>rfl
 | k+1,p=>NE t k (t.advance p)
theorem OB(t:AV):∀(m k:Nat)(p:Probe),Im t (m+k) p=Im t k (Im t m p)
 | 0,k,p=>by rw[Eh];rfl
 | m+1,k,p=>by rw[Nat.add_right_comm];show Im t (m+k) (t.advance p)=_;rw[OB t m k];rfl
structure AtRun(mask:Nat)(p:Probe)(s:Nat×Nat):Prop where
 j:p.j=s.1
 i:p.i=s.1
 pe:p.perturb=s.2
 mo:p.more≤9
theorem T0(t:AV):∀(m:Nat)(p:Probe),p.more=m→Im t m p={p with j:=p.j+m,more:=0}
 | 0,p,h=>by
  show p=_;cases p
  simp_all
 | m+1,p,h=>by
  show Im t m (t.advance p)=_;have e:t.advance p={p with j:=p.j+1,more:=p.more - 1}:=by unfold DX;rw[if_pos (by omega)]
  rw[e,T0 t m _ (by show p.more - 1=m;omega)];simp only[Probe.mk.injEq,and_true,true_and];omega
theorem XF{t:AV}{p:Probe}{s:Nat×Nat}(h:AtRun t.mask p s):∃k,k≤10∧AtRun t.mask (Im t k p) (leap t.mask s.1 s.2)∧(Im t k p).dummy=p.dummy:=by
 refine⟨p.more+1,by have:=h.mo;omega,?_⟩;rw[NE,T0 t p.more p rfl];have e:t.advance {p with j:=p.j+p.more,more:=0}={p with j:=(leap t.mask p.i p.perturb).1,more:=runEnd t.mask (leap t.mask p.i p.perturb).1 - (leap t.mask p.i p.perturb).1,i:=(leap t.mask p.i p.perturb).1,perturb:=(leap t.mask p.i p.perturb).2}:=by unfold DX;rw[if_neg (by show ¬(0>0);omega)]
 rw[e,h.i,h.pe];refine⟨⟨rfl,rfl,rfl,?_⟩,rfl⟩;show runEnd _ _ - _≤9;unfold runEnd
 split<;>omega
theorem MJ{t:AV}{p:Probe}{s:Nat×Nat}(h:AtRun t.mask p s):∀m,∃k,k≤10*m∧AtRun t.mask (Im t k p) (lp t.mask m s)∧(Im t k p).dummy=p.dummy
 | 0=>⟨0,Af _,h,rfl⟩
 | m+1=>by
  obtain⟨k,hk,hr,hd⟩:=MJ h m;obtain⟨k2,hk2,hr2,hd2⟩:=XF hr;refine⟨k+k2,by omega,?_,?_⟩
  · rw[OB,N5];exact hr2
  · rw[OB,hd2,hd]
theorem YR(t:AV)(h:Int):AtRun t.mask (t.probeStart h) (bits h%(t.mask+1),bits h):=by
 refine⟨rfl,rfl,rfl,?_⟩;show runEnd _ _ - _≤9;unfold runEnd
 split<;>omega
theorem RN(h:Int):bits h<2^64:=by
 unfold bits;have h0:=B_ h (show(2^64:Int)≠0 by decide);have h1:=BE h (show(0:Int)<2^64 by decide);have:(2:Int)^64=18446744073709551616:=by decide
 have:(2:Nat)^64=18446744073709551616:=by decide
 omega
theorem UY{t:AV}(hm:t.mask=7∨t.mask=31)(h:Int){e:Nat}(he:e<t.mask+1):∃k,k<10*turns t.mask∧(Im t k (t.probeStart h)).j=e:=by obtain⟨m,hm2,hl⟩:=QR hm (i:=bits h%(t.mask+1)) (p:=bits h) (DE _ (by omega)) (RN h) he;obtain⟨k,hk,hr,_⟩:=MJ (YR t h) m;refine⟨k,?_,hr.j.trans hl⟩;unfold turns;omega
end ST
namespace ST
open PySem.SetTable
structure Bel(xs:Array Nat)(j b:Nat):Prop where
 le:b≤xs.size
 lo:∀i v,i<b→xs[i]?=some v→v<j
 hi:∀i v,b≤i→xs[i]?=some v→j≤v
theorem ON{xs:Array Nat}(h:xs.toList.Pairwise (· < ·)){k v w:Nat}(hik:i<k)(hi:xs[i]?=some v)(hk:xs[k]?=some w):v<w:=by obtain⟨li,ei⟩:=BU.mp hi;obtain⟨lk,ek⟩:=BU.mp hk;have:=(Cu.mp h) i k (by simpa using li) (by simpa using lk) hik;simp only[Do] at this;rw[ei,ek] at this;exact this
theorem OS{xs:Array Nat}(h:xs.toList.Pairwise (· < ·))(j:Nat):∀(fuel lo hi:Nat),hi - lo≤fuel→lo≤hi→hi≤xs.size→(∀i v,i<lo→xs[i]?=some v→v<j)→(∀i v,hi≤i→xs[i]?=some v→j≤v)→Bel xs j (SetTable.below.go xs j fuel lo hi)
 | 0,lo,hi,hf,h1,h2,a,b=>by
  have:lo=hi:=by omega
  subst this;exact⟨h2,a,b⟩
 | fuel+1,lo,hi,hf,h1,h2,a,b=>by
  unfold SetTable.below.go;by_cases c:lo<hi
  · rw[if_pos c];dsimp only;have hm:(lo+hi) / 2<xs.size:=by omega
    have em:xs[(lo+hi) / 2]?=some xs[(lo+hi) / 2]:=by simp[hm]
    have ed:xs.getD ((lo+hi) / 2) j=xs[(lo+hi) / 2]:=by rw[BP,em];rfl
    by_cases d:xs.getD ((lo+hi) / 2) j<j
    · rw[if_pos d];refine OS h j fuel _ _ (by omega) (by omega) h2 (λi v hi' e=>?_) b;by_cases q:i=(lo+hi) / 2
      · subst q;rw[em] at e;cases e;rw[←ed];exact d
      · by_cases q2:i<lo
        · exact a i v q2 e
        · have:=ON h (show i<(lo+hi) / 2 by omega) e em;rw[ed] at d;omega
    · rw[if_neg d];refine OS h j fuel _ _ (by omega) (by omega) (by omega) a (λi v hi' e=>?_);by_cases q:i=(lo+hi) / 2
      · subst q;rw[em] at e;cases e;rw[←ed];omega
      · have:=ON h (show(lo+hi) / 2<i by omega) em e;rw[ed] at d;omega
  · rw[if_neg c];have:lo=hi:=by omega
    subst this;exact⟨h2,a,b⟩
theorem Td{xs:Array Nat}(h:xs.toList.Pairwise (· < ·))(j:Nat):Bel xs j (Bj xs j):=by unfold Bj;exact OS h j _ _ _ (by omega) (AC _) (Af _) (λi v hi _=>by omega) (λi v hi e=>by obtain⟨li,_⟩:=BU.mp e;omega)
theorem XV{α:Type}{xs:Array α}{p:Nat}{x:α}(hp:p≤xs.size):(insertAt xs p x).toList=xs.toList.take p++x::xs.toList.drop p:=by rw[SetTable.toList_insertAt]
theorem Y9{xs:Array Nat}{j:Nat}(h:xs.toList.Pairwise (· < ·))(hj:j ∉ xs.toList):(insertAt xs (Bj xs j) j).toList.Pairwise (· < ·):=by
 have B:=Td h j;rw[XV B.le,List.pairwise_append,E3];refine⟨h.sublist (DL _ _),⟨λv hv=>?_,h.sublist (List.drop_sublist _ _)⟩,λu hu v hv=>?_⟩
 · obtain⟨i,e⟩:=Ch hv;rw[E6] at e;have e':xs[Bj xs j+i]?=some v:=by rw[←AZ];exact e
   have:=B.hi _ _ (C9 _ _) e';have ne:v≠j:=λz=>hj (z ▸ List.mem_of_mem_drop hv);omega
 · obtain⟨i,e⟩:=Ch hu;have li:i<Bj xs j:=by
    have:=(Aq.mp e).1;rw[AA] at this;omega
   rw[List.getElem?_take] at e;rw[if_pos li] at e;have e':xs[i]?=some u:=by rw[←AZ];exact e
   have uj:=B.lo _ _ li e';rcases As.mp hv with rfl | hv
   · exact uj
   · obtain⟨k,ek⟩:=Ch hv;rw[E6] at ek;have e2:xs[Bj xs j+k]?=some v:=by rw[←AZ];exact ek
     have:=B.hi _ _ (C9 _ _) e2;omega
structure Tab(t:AV)(n:Nat):Prop where
 mask:t.mask=7∨t.mask=31
 size:t.place.size=n
 ris:t.place.toList.Pairwise (· < ·)
 le:∀j∈t.place.toList,j≤t.mask
 du:t.dummies=#[]
 few:n*5<t.mask*3
theorem Tab.slot_live{t:AV}{j:Nat}(h:Tab t n)(e:t.slot j= .live i):t.place[i]?=some j∧i<n:=by
 unfold SetTable.slot at e;dsimp only at e
 split at e
 · rename_i q;cases e;have q':=eq_of_beq q;refine⟨q',?_⟩;have:=(BU.mp q').1;rw[h.size] at this;exact this
 · split at e<;>cases e
theorem Tab.no_dummy{t:AV}{j:Nat}(h:Tab t n):t.slot j≠ .dummy:=by
 unfold SetTable.slot;dsimp only
 split
 · exact λz=>by cases z
 · rw[h.du];have:has #[] j=false:=rfl;rw[this];exact λz=>by cases z
theorem Tab.slot_of{t:AV}{j:Nat}(h:Tab t n):(t.slot j= .empty↔j ∉ t.place.toList):=by
 have B:=Td h.ris j;unfold SetTable.slot;dsimp only;by_cases c:j∈t.place.toList
 · obtain⟨i,e⟩:=Ch c;have e':t.place[i]?=some j:=by rw[←AZ];exact e
   have:i=Bj t.place j:=by
    rcases Nat.lt_trichotomy i (Bj t.place j) with z | z | z
    · exact absurd (B.lo _ _ z e') (C5 _)
    · exact z
    · exfalso;have lt:=(BU.mp e').1;have eb:t.place[Bj t.place j]?=some t.place[Bj t.place j]:=by simp[show Bj t.place j<t.place.size by omega]
      have h1:=B.hi _ _ (Af _) eb;have h2:=ON h.ris z eb e';omega
   rw[←this,e',if_pos (by simp)];exact⟨λz=>(by cases z),λz=>absurd c z⟩
 · have:¬(t.place[Bj t.place j]?==some j)=true:=λq=>c (by
    have q':=eq_of_beq q;rw[←AZ] at q';exact Ak q')
   rw[if_neg this,h.du];have:has #[] j=false:=rfl;rw[this];exact⟨λ_=>c,λ_=>rfl⟩
theorem Tab.room{t:AV}(h:Tab t n):∃e,e<t.mask+1∧t.slot e= .empty:=by
 obtain⟨e,he,hn⟩:∃e,e<t.mask+1∧e ∉ t.place.toList:=by
  refine EN λc=>?_;have all:∀e∈AI (t.mask+1),e∈t.place.toList:=λe he=>EN λz=>c ⟨e,BJ.mp he,z⟩;have sub:(t.mask+1)≤t.place.toList.length:=by
   have:∀(a b:List Nat),a.Nodup→(∀x∈a,x∈b)→a.length≤b.length:=λa=>by
    induction a with
    | nil=>intro b _ _;exact AC _
    | cons x a ih=>
     intro b hn hs;rw[BC] at hn;have hx:=hs x Ah;have:=ih (b.erase x) hn.2 λy hy=>by have ne:y≠x:=λe=>hn.1 (e ▸ hy);exact(List.mem_erase_of_ne ne).mpr (hs y (Ai _ hy))
     rw[E_ hx] at this;have:=Fx hx;rw[A8];omega
   have:=this _ _ List.nodup_range all;rw[C2] at this;exact this
  rw[A0,h.size] at sub;have:=h.few;omega
 exact⟨e,he,h.slot_of.mpr hn⟩
theorem Tab.ends{t:AV}(h:Tab t n)(hs:Int):∃N,N<10*turns t.mask∧t.slot (Im t N (t.probeStart hs)).j= .empty∧∀k,k<N→t.slot (Im t k (t.probeStart hs)).j≠ .empty:=by
 obtain⟨e,he,se⟩:=h.room;obtain⟨k,hk,ek⟩:=UY h.mask hs he;have ex:∃N,t.slot (Im t N (t.probeStart hs)).j= .empty:=⟨k,by rw[ek];exact se⟩;have P:∀m,(∃N,N≤m∧t.slot (Im t N (t.probeStart hs)).j= .empty)→∃N,N≤m∧t.slot (Im t N (t.probeStart hs)).j= .empty∧∀k,k<N→t.slot (Im t k (t.probeStart hs)).j≠ .empty:=λm=>by
  induction m with
  | zero=> rintro⟨N,hN,e⟩;exact⟨N,hN,e,λk hk=>by omega⟩
  | succ m ih=>
   rintro⟨N,hN,e⟩;by_cases c:∃N,N≤m∧t.slot (Im t N (t.probeStart hs)).j= .empty
   · obtain⟨N',h1,h2⟩:=ih c;exact⟨N',by omega,h2⟩
   · refine⟨N,hN,e,λk hk z=>c ⟨k,by omega,z⟩⟩
 obtain⟨N,h1,h2,h3⟩:=P k ⟨k,Af _,by rw[ek];exact se⟩;exact⟨N,by omega,h2,h3⟩
end ST
namespace ST
open PySem.SetTable
theorem Xx(t:AV)(p:Probe):(t.advance p).dummy=p.dummy:=by
 unfold DX
 split<;>rfl
theorem Uu(t:AV):∀(k:Nat)(p:Probe),(Im t k p).dummy=p.dummy
 | 0,p=>rfl
 | k+1,p=>by show(Im t k (t.advance p)).dummy=_;rw[Uu t k,Xx]
theorem TR{mask:Nat}(h:i≤mask):runEnd mask i≤mask:=by
 unfold runEnd
 split<;>omega
theorem VA(t:AV)(p:Probe)(h:p.j+p.more≤t.mask):(t.advance p).j+(t.advance p).more≤t.mask:=by
 unfold DX
 split
 · show p.j+1+(p.more - 1)≤_;omega
 · have hi:(leap t.mask p.i p.perturb).1≤t.mask:=by
    have:=DE (p.i*5+1+p.perturb / 32) (show t.mask+1>0 by omega);show(p.i*5+1+p.perturb / 32)%(t.mask+1)≤_;omega
   have hr:=TR hi;have hg:(leap t.mask p.i p.perturb).1≤runEnd t.mask (leap t.mask p.i p.perturb).1:=by
    unfold runEnd
    split<;>omega
   show(leap t.mask p.i p.perturb).1+(runEnd t.mask (leap t.mask p.i p.perturb).1 - (leap t.mask p.i p.perturb).1)≤_;omega
theorem RM(t:AV):∀(k:Nat)(p:Probe),p.j+p.more≤t.mask→(Im t k p).j+(Im t k p).more≤t.mask
 | 0,p,h=>h
 | k+1,p,h=>RM t k _ (VA t p h)
theorem XO(t:AV)(h:Int):(t.probeStart h).j+(t.probeStart h).more≤t.mask:=by
 have hi:bits h%(t.mask+1)≤t.mask:=by have:=DE (bits h) (show t.mask+1>0 by omega);omega
 have hr:=TR hi;have hg:bits h%(t.mask+1)≤runEnd t.mask (bits h%(t.mask+1)):=by
  unfold runEnd
  split<;>omega
 show bits h%(t.mask+1)+(runEnd t.mask (bits h%(t.mask+1)) - bits h%(t.mask+1))≤_;omega
theorem QV{t:AV}(T:Tab t n){hs:Int}{N:Nat}(hN:t.slot (Im t N (t.probeStart hs)).j= .empty)(hb:∀k,k<N→t.slot (Im t k (t.probeStart hs)).j≠ .empty)(hashAt:Nat→Int):∀(d k fuel:Nat),N - k=d→k≤N→d<fuel→
 probe.go t hashAt hs fuel (Im t k (t.probeStart hs))=some (.empty (Im t N (t.probeStart hs)).j none)∨
 ∃m i,k≤m∧m<N∧t.slot (Im t m (t.probeStart hs)).j= .live i∧probe.go t hashAt hs fuel (Im t k (t.probeStart hs))=some (.candidate (Im t m (t.probeStart hs)).j i (Im t (m+1) (t.probeStart hs)))
 | d,k,0,_,_,h=>by omega
 | d,k,fuel+1,hd,hk,hf=>by
  unfold probe.go;by_cases e:k=N
  · subst e
    left
    rw[hN];dsimp only;rw[Uu];rfl
  · have hk':k<N:=by omega
    cases hsl:t.slot (Im t k (t.probeStart hs)).j with
    | empty=>exact absurd hsl (hb k hk')
    | dummy=>exact absurd hsl T.no_dummy
    | live i=>
     dsimp only;by_cases q:(hashAt i==hs)=true
     · right
       rw[if_pos q];exact⟨k,i,Af _,hk',hsl,by rw[NE]⟩
     · rw[if_neg q,←NE];rcases QV T hN hb hashAt (d - 1) (k+1) fuel (by omega) (by omega) (by omega) with z | ⟨m,i',h1,h2,h3,h4⟩
       · exact .inl z
       · exact .inr ⟨m,i',by omega,h2,h3,h4⟩
theorem X7{t:AV}(T:Tab t n){hs:Int}{N:Nat}(hl:N<10*turns t.mask)(hN:t.slot (Im t N (t.probeStart hs)).j= .empty)(hb:∀k,k<N→t.slot (Im t k (t.probeStart hs)).j≠ .empty)(hashAt:Nat→Int){k:Nat}(hk:k≤N):
 t.probe hashAt hs (Im t k (t.probeStart hs))=some (.empty (Im t N (t.probeStart hs)).j none)∨
 ∃m i,k≤m∧m<N∧t.slot (Im t m (t.probeStart hs)).j= .live i∧t.probe hashAt hs (Im t k (t.probeStart hs))=some (.candidate (Im t m (t.probeStart hs)).j i (Im t (m+1) (t.probeStart hs))):=QV T hN hb hashAt _ k _ rfl hk (by omega)
theorem Tab.fits{t:AV}(T:Tab t n):t.fits n=true:=by
 unfold SetTable.fits SetTable.fill;rw[T.size,T.du];have:=T.few;rcases T.mask with e | e
 · rw[e] at this ⊢;simp;omega
 · rw[e] at this ⊢;simp;omega
theorem Tab.stays{t:AV}(T:Tab t n):t.gaveWay=false:=by unfold SetTable.gaveWay;rcases T.mask with e | e<;>rw[e]<;>rfl
theorem YZ{o:Obj}{es:Array (Int×Value)}{ep:Nat}{t:AV}{x:Value}{hs:Int}{Q:SetFound→Shared→Prop}(ho:s.heap.get? a=some o)(hd:o.data= .set es ep t)(T:Tab t es.size)
 (refs:∀e∈es.toList,∃b,e.2= .ref b) (heq:∀e∈es.toList,∀R:Bool→Shared→Prop,R false s→wpAny (model prog w) A (eqBool e.2 x) R E s)
 (hseen:∀ys:List Value,(∀y∈ys,∃e∈es.toList,e.2=y)→∀R:Bool→Shared→Prop,R false s→wpAny (model prog w) A (searchCouldBeSeen x ys) R E s)
 (h:∀j,j≤t.mask→j ∉ t.place.toList→Q (.free j false) s):wpAny (model prog w) A (setSearch a x hs true) Q E s:=by
 obtain⟨N,hl,hN,hb⟩:=T.ends hs;have jl:(Im t N (t.probeStart hs)).j≤t.mask:=by have:=RM t N _ (XO t hs);omega
 have fin:Q (.free (Im t N (t.probeStart hs)).j false) s:=h _ jl (T.slot_of.mp hN);have tl:10*turns t.mask≤460:=by unfold turns;rcases T.mask with e | e<;>rw[e]<;>decide
 have main:∀(d k fuel:Nat)(st:Option Probe),N - k=d→k≤N→d<fuel→st.getD (t.probeStart hs)=Im t k (t.probeStart hs)→wpAny (model prog w) A (setSearchFrom a x hs true fuel st) Q E s:=by
  intro d
  induction d using Nat.strongRecOn with
  | _ d ih=>
   intro k fuel st hk1 hk2 hf hst;cases fuel with
   | zero=>omega
   | succ fuel=>
    unfold setSearchFrom;refine Aa (CM ho hd T.fits ?_);dsimp only;rw[T.stays,hst];simp only[A3,if_false];generalize hp:SetTable.probe t _ hs (Im t k (t.probeStart hs))=pr;obtain⟨hashAt,hf'⟩:∃f,t.probe f hs (Im t k (t.probeStart hs))=pr:=⟨_,hp⟩;rcases X7 T hl hN hb hashAt hk2 with z | ⟨m,i,h1,h2,h3,z⟩
    · rw[hf'] at z;subst z;exact Ac fin
    · rw[hf'] at z;subst z;obtain⟨_,hi⟩:=T.slot_live h3;have ei:es[i]?=some es[i]:=by simp[hi]
      have mi:es[i]∈es.toList:=by simp
      obtain⟨b,eb⟩:=refs _ mi;have HI:wpAny (model prog w) A (setSearchFrom a x hs true fuel (some (Im t (m+1) (t.probeStart hs)))) Q E s:=ih (N - (m+1)) (by omega) (m+1) fuel _ rfl (by omega) (by omega) rfl;by_cases hled:(!t.led)=true
      · dsimp only;rw[if_pos hled];refine Aa (hseen _ (λy hy=>?_) _ ?_)
        · obtain⟨e,he,rfl⟩:=AG.mp hy;exact⟨e,by have:=Dm.mp he;exact Dm.mpr (Array.mem_filter.mp this).1,rfl⟩
        · simp only[A3,if_false];rw[ei];dsimp only;refine Aa (AN (heq _ mi _ ?_));refine Aa (CM ho hd T.fits ?_);simp only[DB,A3,if_false];have sm:t.sameMemory t.moves t.mask=some true:=by
           unfold FZ;simp
          rw[sm];simp only[if_true,h3];rw[ei];dsimp only;rw[eb];refine Aa (wpAny_isSame_ref_self ?_);exact Aa (Ac HI)
      · dsimp only;rw[if_neg hled];rw[ei];dsimp only;refine Aa (AN (heq _ mi _ ?_));refine Aa (CM ho hd T.fits ?_);simp only[DB,A3,if_false];have sm:t.sameMemory t.moves t.mask=some true:=by
         unfold FZ;simp
        rw[sm];simp only[if_true,h3];rw[ei];dsimp only;rw[eb];refine Aa (wpAny_isSame_ref_self ?_);exact Aa (Ac HI)
 exact main _ 0 100000 none rfl (AC _) (by omega) rfl
end ST
namespace ST
open PySem.SetTable
theorem Sc{mask:Nat}{owner:Array (Option Nat)}(hz:owner.size=mask+1){e:Nat}(he:owner[e]?=some none):∀(f i p m:Nat),m<f→i≤mask→(lp mask m (i,p)).1=e→
 ∃j,layClean.free mask owner f i p=some j∧owner[j]?=some none
 | 0,i,p,m,h,_,_=>by omega
 | f+1,i,p,m,h,hi,hm=>by
  unfold layClean.free;cases hf:(AI (runEnd mask i+1 - i)).find? (λk=>(owner.getD (i+k) (some 0)).isNone) with
  | some k=>
   refine⟨_,rfl,?_⟩;have:=List.find?_some hf;rw[BP] at this;cases ho:owner[i+k]? with
   | none=>rw[ho] at this;cases this
   | some q=>
    rw[ho] at this;cases q with
    | none=>rfl
    | some q=>cases this
  | none=>
   dsimp only;cases m with
   | zero=>
    exfalso;have e':i=e:=hm;subst e';have:=Da.mp hf 0 (BJ.mpr (by unfold runEnd;split<;>omega))
    rw[Nat.add_zero,BP,he] at this;exact this rfl
   | succ m=> refine Sc hz he f _ _ m (by omega) ?_ hm;have:=DE (i*5+1+p / 32) (show mask+1>0 by omega);show(i*5+1+p / 32)%(mask+1)≤mask;omega
theorem TU:∀{l:List (Option Nat)},(l.filterMap id).length<l.length→∃e:Nat,l[e]?=some none
 | [],h=>by cases h
 | none::l,h=>⟨0,rfl⟩
 | some x::l,h=>by
  have h':(l.filterMap id).length<l.length:=by simpa using h
  obtain⟨e,he⟩:=TU h';exact⟨e+1,by simpa using he⟩
theorem SO:∀{l:List (Option Nat)}{j k:Nat},l[j]?=some none→((l.set j (some k)).filterMap id).Perm (k::l.filterMap id)
 | [],j,k,h=>by cases h
 | x::l,0,k,h=>by
  cases x with
  | none=>simp
  | some x=>simp at h
 | x::l,j+1,k,h=>by
  have ih:=SO (l:=l) (j:=j) (k:=k) (by simpa using h);cases x with
  | none=>simpa using ih
  | some x=> show(x::(l.set j (some k)).filterMap id).Perm (k::x::l.filterMap id);exact(ih.cons x).trans (List.Perm.swap _ _ _)
structure Own(mask n:Nat)(owner:Array (Option Nat)):Prop where
 size:owner.size=mask+1
 all:(owner.toList.filterMap id).Perm (AI n)
theorem Ru{mask:Nat}(hm:mask=7∨mask=31):∀(hs:List Int)(owner:Array (Option Nat))(n:Nat),Own mask n owner→n+hs.length≤mask→
 ∃ow,Own mask (n+hs.length) ow∧hs.foldl (λ(acc:Option (Array (Option Nat)×Nat))h=>do
  let(owner,k) ←acc
  let j ←layClean.free mask owner (turns mask) (bits h%(mask+1)) (bits h)
  pure (owner.setIfInBounds j (some k),k+1)) (some (owner,n))=some (ow,n+hs.length)
 | [],owner,n,O,_=>⟨owner,O,rfl⟩
 | h::hs,owner,n,O,hl=>by
  rw[A8] at hl;obtain⟨e,he⟩:=TU (l:=owner.toList) (by rw[O.all.length_eq,C2,A0,O.size];omega);rw[AZ] at he;have el:e<mask+1:=by have:=(BU.mp he).1;rw[O.size] at this;exact this
  obtain⟨m,hm2,hr⟩:=QR hm (i:=bits h%(mask+1)) (p:=bits h) (DE _ (by omega)) (RN h) el;obtain⟨j,hj,ho⟩:=Sc O.size he (turns mask) (bits h%(mask+1)) (bits h) m (by unfold turns;omega) (by have:=DE (bits h) (show mask+1>0 by omega);omega) hr;have O':Own mask (n+1) (owner.setIfInBounds j (some n)):=by refine⟨by rw[Array.size_setIfInBounds];exact O.size,?_⟩;rw[Array.toList_setIfInBounds];refine(SO (by rw[AZ];exact ho)).trans ?_;refine(O.all.cons n).trans ?_;rw[Dx];exact List.perm_append_comm (l₁:=[n]) (l₂:=AI n)
  obtain⟨ow,h1,h2⟩:=Ru hm hs _ _ O' (by omega);refine⟨ow,?_,?_⟩
  · rw[A8];have:n+(hs.length+1)=n+1+hs.length:=by omega
    rw[this];exact h1
  · rw[List.foldl_cons,A8];have:n+(hs.length+1)=n+1+hs.length:=by omega
    rw[this,←h2];congr 1;show(layClean.free mask owner (turns mask) (bits h%(mask+1)) (bits h)>>=_)=_;rw[hj];rfl
theorem ZF{mask:Nat}(hm:mask=7∨mask=31){hs:Array Int}(hl:hs.size≤mask):∃ow,Own mask hs.size ow∧layClean mask hs=some ow:=by
 obtain⟨ow,h1,h2⟩:=Ru hm hs.toList (Array.replicate (mask+1) none) 0 ⟨by simp,by simp⟩ (by rw[A0];omega);rw[Eh,A0] at h1 h2;refine⟨ow,h1,?_⟩;unfold layClean;rw[←Array.foldl_toList]
 erw [h2]
 rfl
theorem WO(ow:Array (Option Nat))(hz:ow.size=n):(AI n).filterMap (λj=>ow.getD j none)=ow.toList.filterMap id:=by
 subst hz
 conv=>rhs;rw[←filterMap_getElem?_range ow]
 rw[List.filterMap_filterMap];congr 1;funext j;rw[BP];cases ow[j]?<;>rfl
theorem YU{t:AV}{hs:Array Int}{wanted:Nat}(hm:sizeAbove wanted=32)(hl:hs.size*5<93):
 ∃t' order,t.relaid hs wanted=some (t',order)∧Tab t' hs.size∧order.toList.Perm (AI hs.size)∧t'.led=t.led∧t'.plain=t.plain:=by
 obtain⟨ow,O,e⟩:=ZF (mask:=31) (.inr rfl) (hs:=hs) (by omega);unfold SetTable.relaid;rw[hm];unfold SetTable.laid;rw[show 32 - 1=31 from rfl,e];have ord:((((AI (31+1)).filterMap λj=>(ow.getD j none).map (j, ·)).map (·.2)).toArray).toList.Perm (AI hs.size):=by rw[C8,List.map_filterMap];refine List.Perm.trans (List.Perm.of_eq ?_) O.all;rw[←WO ow O.size];congr 1;funext j;cases ow.getD j none<;>rfl
 refine⟨_,_,rfl,⟨.inr rfl,?_,?_,?_,rfl,by show _*5<31*3;omega⟩,ord,rfl,rfl⟩
 · have:=ord.length_eq;rw[C2] at this;simpa using this
 · show((((AI (31+1)).filterMap λj=>(ow.getD j none).map (j, ·)).map (·.1)).toArray).toList.Pairwise (· < ·);rw[C8,List.map_filterMap,List.pairwise_filterMap];refine List.Pairwise.imp ?_ List.pairwise_lt_range;intro a b hab x hx y hy;cases ha:ow.getD a none with
   | none=>rw[ha] at hx;cases hx
   | some u=>
    cases hb:ow.getD b none with
    | none=>rw[hb] at hy;cases hy
    | some v=> rw[ha] at hx;rw[hb] at hy;cases hx;cases hy;exact hab
 · show ∀j∈((((AI (31+1)).filterMap λj=>(ow.getD j none).map (j, ·)).map (·.1)).toArray).toList,j≤31;rw[C8];intro j hj;obtain⟨x,hx,rfl⟩:=AG.mp hj;obtain⟨k,hk,e⟩:=CY.mp hx;have:=BJ.mp hk;cases ha:ow.getD k none with
   | none=>rw[ha] at e;cases e
   | some u=> rw[ha] at e;cases e;show k≤31;omega
end ST
namespace ST
open PySem.SetTable
theorem Yl{h':Heap}{x:List WP}{vs:List Value}(hx:RefsAre prog w h x vs)(k:∀(b:Addr)o its n,h.get? b=some o→o.data= .seq its n→h'.get? b=some o):RefsAre prog w h' x vs:=by
 induction hx with
 | nil=>exact .nil
 | cons h1 _ ih=> obtain⟨o,its,n,e1,e2,e3,e4⟩:=h1;exact .cons ⟨o,its,n,k _ _ _ _ e1 e3,e2,e3,e4⟩ ih
theorem Uk{h':Heap}{ws:List WP}(x:IsWishKey prog w h ws a)(k:∀(b:Addr)o its n,h.get? b=some o→o.data= .seq its n→h'.get? b=some o):IsWishKey prog w h' ws a:=by obtain⟨o,its,n,e1,e2,e3,e4⟩:=x;exact⟨o,its,n,k _ _ _ _ e1 e3,e2,e3,Yl e4 k⟩
def WSet(prog:AU)(w:World)(h0 h:Heap)(a:Addr)(ks:List (List WP)):Prop:=∃(es:Array (Int×Value))(ep:Nat)(t:AV),
 h.get? a=some {cls:= .type "set",dict:=none,data:= .set es ep t}∧Tab t es.size∧es.size=ks.length∧∀e∈es.toList,∃ws b,ws∈ks∧e.2= .ref b∧IsWishKey prog w h0 ws b
theorem WSet.kept{h0 h':Heap}{ks:List (List WP)}(T:WSet prog w h0 h a ks)(k:∀o,h.get? a=some o→h'.get? a=some o):WSet prog w h0 h' a ks:=by obtain⟨es,ep,t,h1,h2,h3,h4⟩:=T;exact⟨es,ep,t,k _ h1,h2,h3,h4⟩
theorem Ze{h0:Heap}{l:Bool}(e:h.get? a=some {cls:= .type "set",dict:=none,data:= .set #[] 0 (.fresh 0 0 l)}):WSet prog w h0 h a []:=
 ⟨#[],0,_,e,⟨.inl rfl,rfl,.nil,λj hj=>by simp[SetTable.fresh] at hj,rfl,by show 0*5<7*3;decide⟩,rfl,λe he=>by simp at he⟩
theorem WK{p:WP}{Q:Bool→Shared→Prop}(hk:IsTupleKey (M2 prog w) s.heap (KW p) b)(h:∀c,Q c s):wpAny (model prog w) A (hashByValue (n+1) (.ref b)) Q E s:=by
 have ty:=hk.typeIs;obtain⟨o,its,m,h1,_,h2,h3⟩:=hk;unfold hashByValue;refine Aa (BW ty Cj.lookup ?_);dsimp only;refine Aa (Bc h1 h2 (Aa ?_));show wpAny _ _ (forIn its _ _) _ _ s;rw[←Cs];refine Bw _ (λHI r s'=>s'=s∧∀v∈HI,carriedByValue v=true) _ ?step ?done _ _ ⟨rfl,h3.byValue⟩
 case step=>
  rintro v HI r s' ⟨rfl,al⟩;have hv:∃c,hashByValue n v=pure c:=by have:=al v Ah;cases v<;>first | (exact⟨_,by unfold hashByValue;rfl⟩) | (cases this)
  obtain⟨c,hc⟩:=hv;rw[hc];refine Aa (Ac ?_);cases c with
  | false=>exact Ac (Ac (h false))
  | true=>exact Ac ⟨rfl,λu hu=>al u (Ai _ hu)⟩
 case done=>
  rintro⟨r1,r2⟩ s' ⟨rfl,_⟩;cases r1 with
  | none=>exact Ac (h _)
  | some c=>exact Ac (h _)
theorem WL{ws:List WP}{Q:Bool→Shared→Prop}(hk:IsWishKey prog w s.heap ws a)(h:∀c,Q c s):wpAny (model prog w) A (hashByValue 8 (.ref a)) Q E s:=by
 have ty:=hk.typeIs;obtain⟨o,its,m,h1,_,h2,h3⟩:=hk;unfold hashByValue;refine Aa (BW ty Cj.lookup ?_);dsimp only;refine Aa (Bc h1 h2 (Aa ?_));show wpAny _ _ (forIn its _ _) _ _ s;rw[←Cs];refine Bw _ (λHI r s'=>s'=s∧∃ws',RefsAre prog w s.heap ws' HI) _ ?step ?done _ _ ⟨rfl,ws,h3⟩
 case step=>
  rintro v HI r s' ⟨rfl,ws',hl⟩;cases hl with
  | @cons p c ps _ c1 hl'=>
   refine Aa (WK c1 λd=>?_);cases d with
   | false=>exact Ac (Ac (h false))
   | true=>exact Ac ⟨rfl,ps,hl'⟩
 case done=>
  rintro⟨r1,r2⟩ s' ⟨rfl,_⟩;cases r1 with
  | none=>exact Ac (h _)
  | some c=>exact Ac (h _)
theorem WX{p:WP}{Q:Bool→Shared→Prop}(hk:IsTupleKey (M2 prog w) s.heap (KW p) b)(h:Q false s):wpAny (model prog w) A (ofAClassStatement (n+1) (.ref b)) Q E s:=by
 have ty:=hk.typeIs;obtain⟨o,its,m,h1,_,h2,h3⟩:=hk;unfold ofAClassStatement;refine Aa (Dg ty ?_);dsimp only;rw[if_pos (by decide)];refine Aa (Ac ?_);simp only[Ce,A3,if_false];refine Aa (Bc h1 h2 ?_);dsimp only;refine Aa ?_;rw[←Cs];refine Bw _ (λHI r s'=>r.1=none∧s'=s∧∀v∈HI,carriedByValue v=true) _ ?step ?done _ _ ⟨rfl,rfl,h3.byValue⟩
 case step=>
  rintro v HI r s' ⟨hr,rfl,al⟩;have hv:ofAClassStatement n v=pure false:=by have:=al v Ah;cases v<;>first | (unfold ofAClassStatement;rfl) | (cases this)
  rw[hv];refine Aa (Ac ?_);simp only[A3,if_false];exact Ac ⟨rfl,rfl,λu hu=>al u (Ai _ hu)⟩
 case done=> rintro⟨r1,r2⟩ s' ⟨hr,rfl,_⟩;simp only at hr;subst hr;exact Ac h
theorem Tg{ws:List WP}{Q:Bool→Shared→Prop}(hk:IsWishKey prog w s.heap ws a)(h:Q false s):wpAny (model prog w) A (ofAClassStatement 8 (.ref a)) Q E s:=by
 have ty:=hk.typeIs;obtain⟨o,its,m,h1,_,h2,h3⟩:=hk;unfold ofAClassStatement;refine Aa (Dg ty ?_);dsimp only;rw[if_pos (by decide)];refine Aa (Ac ?_);simp only[Ce,A3,if_false];refine Aa (Bc h1 h2 ?_);dsimp only;refine Aa ?_;rw[←Cs];refine Bw _ (λHI r s'=>r.1=none∧s'=s∧∃ws',RefsAre prog w s.heap ws' HI) _ ?step ?done _ _ ⟨rfl,rfl,ws,h3⟩
 case step=>
  rintro v HI r s' ⟨hr,rfl,ws',hl⟩;cases hl with
  | @cons p c ps _ c1 hl'=> refine Aa (WX c1 ?_);simp only[A3,if_false];exact Ac ⟨rfl,rfl,ps,hl'⟩
 case done=> rintro⟨r1,r2⟩ s' ⟨hr,rfl,_⟩;simp only at hr;subst hr;exact Ac h
theorem YN{ws:List WP}{ys:List Value}{Q:Bool→Shared→Prop}(hk:IsWishKey prog w s.heap ws a)(hy:∀y∈ys,∃ws' b,y= .ref b∧IsWishKey prog w s.heap ws' b)(h:Q false s):
 wpAny (model prog w) A (searchCouldBeSeen (.ref a) ys) Q E s:=by
 unfold searchCouldBeSeen;refine Aa ?_;refine Bw _ (λHI r s'=>r.1=none∧s'=s∧∀y∈HI,∃ws' b,y= .ref b∧IsWishKey prog w s.heap ws' b) _ ?step ?done _ _ ⟨rfl,rfl,hy⟩
 case step=>
  rintro v HI r s' ⟨hr,rfl,al⟩;have al':=λu hu=>al u (Ai _ hu);obtain⟨ws',b,rfl,hb⟩:=al v Ah;dsimp only
  split
  · exact Ac ⟨rfl,rfl,al'⟩
  · refine Aa (Pm hk ?_);simp only[Ce,A3,if_false];refine Aa (Pm hb ?_);simp only[Ce,A3,if_false];refine Aa (Tg hk ?_);simp only[A3,if_false];refine Aa (Tg hb ?_);simp only[A3,if_false];exact Ac ⟨rfl,rfl,al'⟩
 case done=> rintro⟨r1,r2⟩ s' ⟨hr,rfl,_⟩;simp only at hr;subst hr;exact Ac h
theorem Tab.put_ok{t:AV}{j:Nat}(T:Tab t n)(hj:j ∉ t.place.toList)(hl:j≤t.mask):
 (t.put j).1.mask=t.mask∧(t.put j).1.place.size=n+1∧(t.put j).1.place.toList.Pairwise (· < ·)∧(∀i∈(t.put j).1.place.toList,i≤t.mask)∧(t.put j).1.dummies=#[]:=by
 refine⟨rfl,?_,Y9 T.ris hj,?_,?_⟩
 · show(insertAt t.place (Bj t.place j) j).size=_;rw[←A0,(DS _ _ _).length_eq,A0,Fm,T.size]
 · intro i hi;rw[show(t.put j).1.place=insertAt t.place (Bj t.place j) j from rfl,(DS _ _ _).mem_iff,EH,AD,Ax] at hi;rcases hi with z | rfl
   · exact T.le i z
   · exact hl
 · show(if has t.dummies j then eraseAt t.dummies (Bj t.dummies j) else t.dummies)=_
   rw[T.du];rfl
theorem Xv{S:Addr}{ks:List (List WP)}{ws:List WP}{hs:Int}{Q:Bool→Shared→Prop}(hu:A.units+1<cLine){h0:Heap}(kp:∀b o,h0.get? b=some o→s.heap.get? b=some o)(T:WSet prog w h0 s.heap S ks)(hk0:IsWishKey prog w h0 ws b)(hn:ws ∉ ks)(hl:ks.length<18)
 (h:∀h',Cw S s.heap h'→WSet prog w h0 h' S (ks++[ws])→Q true {s with heap:=h'}):
 wpAny (model prog w) A (setAddHashed S (.ref b) hs) Q E s:=by
 obtain⟨es,ep,t,ho,tab,hz,hel⟩:=T;have up:∀{x:List WP}{c:Addr},IsWishKey prog w h0 x c→IsWishKey prog w s.heap x c:=λq=>Uk q λb o _ _ e _=>kp b o e;have hk:=up hk0;unfold setAddHashed setAddHashedIn;refine AN (Aa (CM ho rfl tab.fits ?_));dsimp only;rw[if_neg (by unfold byScan;simp[Value.scannable])];refine Aa (YZ ho rfl tab (λe he=>?_) (λe he R hR=>?_) (λys hy R hR=>?_) λj hj1 hj2=>?_)
 · obtain⟨_,c,_,q,_⟩:=hel e he;exact⟨c,q⟩
 · obtain⟨ws',c,q1,q2,q3⟩:=hel e he;rw[q2];refine R_ hu (up q3) hk ?_;have ne:¬ws'=ws:=λz=>hn (z ▸ q1);rw[decide_eq_false ne];exact hR
 · refine YN hk (λy hy'=>?_) hR;obtain⟨e,he,rfl⟩:=hy y hy';obtain⟨ws',c,q1,q2,q3⟩:=hel e he;exact⟨ws',c,q2,up q3⟩
 · dsimp only;refine Aa (CM ho rfl tab.fits ?_);dsimp only;obtain⟨p1,p2,p3,p4,p5⟩:=tab.put_ok hj2 hj1;generalize hP:t.put j=P at p1 p2 p3 p4 p5 ⊢;obtain⟨t1,pp⟩:=P;dsimp only at p1 p2 p3 p4 p5 ⊢;have perm:=DS es pp (hs,Value.ref b);generalize hE:SetTable.insertAt es pp (hs,Value.ref b)=es1 at perm ⊢;have sz1:es1.size=es.size+1:=by rw[←A0,perm.length_eq,A0,Fm]
   have fin:∀(h':Heap)(es2:Array (Int×Value))(ep2:Nat)(t2:AV),Cw S s.heap h'→h'.get? S=some {cls:= .type "set",dict:=none,data:= .set es2 ep2 t2}→es2.toList.Perm es1.toList→Tab t2 es2.size→Q true {s with heap:=h'}:=λh' es2 ep2 t2 sb ho2 p2 T2=>by
    have sz2:es2.size=es1.size:=by rw[←A0,p2.length_eq,A0]
    refine h h' sb ⟨es2,ep2,t2,ho2,T2,by rw[sz2,sz1,hz,Az];rfl,λe he=>?_⟩;have me:=(p2.trans perm).mem_iff.mp he;rw[EH,AD,Ax] at me;rcases me with me | rfl
    · obtain⟨ws',c,q1,q2,q3⟩:=hel e me;exact⟨ws',c,AF _ q1,q2,q3⟩
    · exact⟨ws,b,Ag _ (Ax.mpr rfl),rfl,hk0⟩
   have tail:∀(t2:AV),t2.mask=t.mask→t2.place=t1.place→t2.dummies=#[]→wpAny (model prog w) A (do
    storeSet S es1 t2
    if(!false && t2.tooFull)=true then
     setRelay S (FD (es.size+1))
     pure true
    else pure true) Q E s:=λt2 m1 m2 m3=>by
    refine Aa (wpAny_storeSet_of (es':=es1) (t':=t2) ho rfl ?_ (by rw[sizeLine_eq];omega));have ho2:=RT s.heap S es es1 ep t t2 ho;have sb:=BG s.heap S (Obj.putSet es1 t2);have fl:t2.fill=es1.size:=by unfold SetTable.fill;rw[m2,m3,p2,sz1];rfl
    by_cases tf:t2.tooFull=true
    · rw[if_pos (by rw[tf];rfl)];unfold SetTable.tooFull at tf;rw[fl,m1] at tf;have few:=tab.few;have m7:t.mask=7:=by
       rcases tab.mask with e | e
       · exact e
       · rw[e] at tf;simp at tf;omega
      rw[m7] at tf few;simp at tf;have n4:es.size=4:=by omega
      unfold setRelay;refine Aa (Aa (CM ho2 rfl ?_ ?_))
      · unfold SetTable.fits;rw[fl,m2,m1,p2,sz1,m7,n4];rfl
      · dsimp only;rw[n4,if_neg (by rw[show SetTable.sizeAbove (FD (4+1))=32 from by decide,sizeLine_eq];decide)]
        obtain⟨t3,order,e1,T3,op,_,_⟩:=YU (t:=t2) (hs:=es1.map (·.1)) (wanted:=FD (4+1)) (by decide) (by rw[FE,sz1,n4];decide);rw[e1];have per:(order.filterMap (es1[·]?)).toList.Perm es1.toList:=by rw[Array.toList_filterMap];refine(op.filterMap _).trans (List.Perm.of_eq ?_);rw[FE];exact filterMap_getElem?_range es1
        have sz3:(order.filterMap (es1[·]?)).size=es1.size:=by rw[←A0,per.length_eq,A0]
        have J2:¬((order.filterMap (es1[·]?)).size !=es1.size)=true:=by rw[sz3];simp
        refine Aa ?_;show wpAny _ _ (if((order.filterMap (es1[·]?)).size !=es1.size)=true then _ else _) _ _ _
        rw[if_neg J2];refine Ac ?_;dsimp only;refine wpAny_storeSet_of ho2 rfl ?_ (by rw[sz3,sizeLine_eq];omega);refine Ac (fin _ _ _ t3 (sb.trans (BG _ S _)) (RT _ S es1 _ (ep+1) t2 t3 ho2) per ?_);rw[sz3];rw[FE] at T3;exact T3
    · rw[if_neg (by rw[EW] at tf;rw[tf];exact An)];unfold SetTable.tooFull at tf;rw[fl,m1] at tf;refine Ac (fin _ es1 (ep+1) t2 sb ho2 (DD _) ⟨by rw[m1];exact tab.mask,by rw[m2,p2,sz1],by rw[m2];exact p3,by rw[m2,m1];exact p4,m3,?_⟩);rw[m1];simpa using tf
   by_cases hp:t1.plain=true
   · rw[if_pos hp];refine Aa (WL hk λc=>?_);cases c with
     | true=>exact tail t1 p1 rfl p5
     | false=>exact tail {t1 with plain:=false} p1 rfl p5
   · rw[if_neg hp];exact Aa (Ac (tail t1 p1 rfl p5))
end ST
def hs(S:Addr→Bool)(H:Hp):Hp:=λa=>if S a=true then none else H a
def look:List (Str×V)→Str→Option V
 | [],_=>none
 | (k,v)::r,x=>if x=k then some v else look r x
open ST
section
variable{R:Result→Shared→Prop}{I:Addr}{fp wr:List Addr}{G:Array GenState→Array GenState→Prop}{P:Nat→Value→Prop}{St:Nat→Shared→Prop}
theorem Y4(ts:List (List WP))(W:WalksS prog w A.in1 I fp wr G ts.length P St)(S:Addr)(hSf:S ∉ fp)(hu:A.in1.units+1<cLine){h0:Heap}(hfr:∀b∈S::wr,h0.get? b=none)
 (hval:∀i v,P i v→∃b ws,v= .ref b∧ts[i]?=some ws∧IsWishKey prog w h0 ws b) (nd:ts.Nodup) (hb:ts.length≤18):
 ∀(k i:Nat)(s:Shared),ts.length - i=k→i≤ts.length→St i s→WSet prog w h0 s.heap S (ts.take i)→(∀b o,h0.get? b=some o→s.heap.get? b=some o)→
  (∀s',Moved (S::wr) G s s'→WSet prog w h0 s'.heap S ts→R (.ok (.ret .none)) s')→
  codeAny (model prog w) A (.builtin "set.update.loop" ⟨[.ref S,.ref I],[]⟩) R s:=by
 have hSw:S ∉ wr:=λh=>hSf (W.sub _ h);have hsub:∀b∈wr,b∈S::wr:=λb hb=>Ai _ hb;have old:∀b o,h0.get? b=some o→b ∉ S::wr:=λb o e q=>by rw[hfr b q] at e;cases e
 intro k
 induction k with
 | zero=>
  intro i s hk hi hst hS kp hR;have hin:i=ts.length:=by omega
  subst hin;refine BX D9 ?_;rw[BD CC _];show wpAny _ A.in1 (pyNext (.ref I)>>=_) _ _ s;refine Aa (W.done s _ _ hst λs' hm=>?_);show wpAny _ A.in1 (ret Value.none) _ _ s';rw[Bd] at hS;exact Ac (hR s' (hm.mono hsub) (hS.kept λo e=>hm.heap S _ hSw e))
 | succ k ih=>
  intro i s hk hi hst hS kp hR;have hlt:i<ts.length:=by omega
  refine BX D9 ?_;rw[BD CC _];show wpAny _ A.in1 (pyNext (.ref I)>>=_) _ _ s;refine Aa (W.item i s _ _ hlt hst λv s' hP hst' hm=>?_);obtain⟨b,ws,rfl,hx,hkey⟩:=hval i v hP;have hS':WSet prog w h0 s'.heap S (ts.take i):=hS.kept λo e=>hm.heap S _ hSw e;have kp':∀b o,h0.get? b=some o→s'.heap.get? b=some o:=λb o e=>hm.heap b o (λq=>old b o e (hsub b q)) (kp b o e);have key':IsWishKey prog w s'.heap ws b:=Uk hkey λb o _ _ e _=>kp' b o e;have hni:ws ∉ ts.take i:=λq=>by obtain⟨j,hj,e⟩:=FN.mp q;rw[AA] at hj;rw[List.getElem_take] at e;obtain⟨hi',e2⟩:=Aq.mp hx;have:=(EB.mp nd);have:=(Cu.mp this) j i (by omega) hi' (by omega);exact this (e.trans e2.symm)
  show wpAny _ A.in1 (holding [Value.ref b] (setAdd S (.ref b))>>=_) _ _ s';refine Aa (AN ?_);unfold setAdd;refine AN ?_;refine Aa (TH hu key' ?_);refine Xv (s:={s' with toks:=s'.toks+(4*ws.length+1)}) hu (h0:=h0) kp' hS' hkey hni (by rw[AA];omega) λh' hsb hS2=>?_
  refine Ac ⟨CJ CC _,ih (i+1) _ (by omega) hlt (W.frame _ s' _ _ hst' (by show s'.toks≤s'.toks+_;omega) λb hb o e=>?_) ?_ (λb o e=>?_) λs'' hm'' hS''=>?_⟩
  · rw[hsb.2 b (λh:b=S=>hSf (by rw[←h];exact hb))];exact e
  · rw[Di,hx];exact hS2
  · rw[show Heap.get? h' b=_ from hsb.2 b (λh:b=S=>old b o e (by rw[h];exact Ah))];exact kp' b o e
  · refine hR s'' (Moved.trans W.gtrans ((hm.mono hsub).then_heap (by show s'.toks≤s'.toks+_;omega) λb o hb e=>?_) hm'') hS'';rw[hsb.2 b (λh:b=S=>hb (by rw[h];exact Ah))];exact e
end
set_option maxHeartbeats 3200000 in
theorem zen{l:Addr}{items:Array Value}{ts:List (List WP)}{Q:Value→Shared→Prop}
 (hh:A.handled=none) (hu:A.units+20<cLine) (hl:s.heap.IsList l items) (hsz:items.size=ts.length) (hi:∀(i:Nat)(v:Value),items[i]?=some v→∃b ws,v=Value.ref b∧ts[i]?=some ws∧IsWishKey prog w s.heap ws b) (nd:ts.Nodup) (hb:ts.length≤18)
 (h:∀(h':Heap)(tk:Nat),WSet prog w s.heap h' s.heap.objs.size ts→
  (∀b o,b<s.heap.objs.size→s.heap.get? b=some o→h'.get? b=some o)→Q (.ref s.heap.objs.size) {s with heap:=h',toks:=tk}):
 wpAny (model prog w) A (call (.type "set") [.ref l]) Q E s:=by
 obtain⟨c,tl,hmro⟩:=PySem.F.called_set.mro;have hmade:=PySem.F.called_set.made;have hsub:=PySem.F.called_set.sub;refine EK (Eg ?_);show wpAny _ _ (callAny (.type "set") _) _ _ _;refine Ac ⟨Code.quiet_builtin _ (by decide+kernel),BX PySem.F.entry_type_call ?_⟩;rw[Around.under_plain (weight_type_call_type "set" [.ref l] []) rfl];have h1:=PySem.F.called_set.notType;have h2:=PySem.F.called_set.canCreate;have hct:=PySem.F.typeCall_set_1 (.ref l)
 repeat (any_goals (first | assumption | wp_step))
 refine BS (Za (.ref l) (E:=E) (Q₁:=λobj s₁=>obj= .ref s.heap.objs.size∧s₁={s with heap:=s.heap.push {cls:= .type "set",dict:=none,data:= .set #[] 0 (.fresh 0 0 (!IU w))}}) ⟨rfl,rfl⟩) λr s₁ hr=>?_
 cases r with
 | error e=>exact hr
 | ok fl=>
  cases fl with
  | ret obj=>
   obtain⟨rfl,rfl⟩:=hr;have hS:(s.heap.push {cls:= .type "set",dict:=none,data:= .set #[] 0 (.fresh 0 0 (!IU w))}).get? s.heap.objs.size=some {cls:= .type "set",dict:=none,data:= .set #[] 0 (.fresh 0 0 (!IU w))}:=Au _ rfl;have hT:Shared.TypeIs {s with heap:=s.heap.push {cls:= .type "set",dict:=none,data:= .set #[] 0 (.fresh 0 0 (!IU w))}} (.ref s.heap.objs.size) "set":=⟨_,hS,rfl⟩;have hli:=PySem.F.called_set.init.lookup;have hbi:=PySem.F.called_set.init.bind (.ref s.heap.objs.size)
   repeat (any_goals (first | assumption | wp_step))
   refine BS (Dn (R:=wants (λr s₂=>r= .none∧∃h' tk,s₂={s with heap:=h',toks:=tk}∧WSet prog w s.heap h' s.heap.objs.size ts∧
    (∀b o,b<s.heap.objs.size→s.heap.get? b=some o→h'.get? b=some o)) E) PySem.F.called_set.init.plain PySem.F.entry_set_init (check_set_init_1 hT ?_)) λr₂ s₂ hr₂=>?_
   · obtain⟨ol,hol,hcl,nl,hdl⟩:=hl;obtain⟨ocls,odict,odata,oslots⟩:=ol;simp only at hcl hdl;subst hcl;subst hdl;have hol':(s.heap.push {cls:= .type "set",dict:=none,data:= .set #[] 0 (.fresh 0 0 (!IU w))}).get? l=some {cls:= .type "list",dict:=odict,data:= .seq items nl,slots:=oslots}:=Ae _ hol;have hsls:=PySem.F.sub_list_set;have hslf:=PySem.F.sub_list_frozenset;have hne:(Value.type "list"==Value.type "dict")=false:=by decide
     have hl1:(s.heap.push {cls:= .type "set",dict:=none,data:= .set #[] 0 (.fresh 0 0 (!IU w))}).IsList l items:=⟨_,hol',rfl,nl,rfl⟩;unfold Builtin.«set.__init__» noKeywords Builtin.Frozenset.updateFrom;generalize hPI:pyIter=PI
     wp_walk
     subst hPI;refine ED hl1 ?_;refine Aa (wpAny_runValue ?_);have hlS:l<s.heap.objs.size:=Ao hol;have hh3:A.in1.in1.in1.handled=none:=by simp[hh]
     have hneI:l≠(s.heap.push {cls:= .type "set",dict:=none,data:= .set #[] 0 (.fresh 0 0 (!IU w))}).objs.size:=by rw[BK];exact A5 (DN hlS)
     have hSf:s.heap.objs.size ∉ [(s.heap.push {cls:= .type "set",dict:=none,data:= .set #[] 0 (.fresh 0 0 (!IU w))}).objs.size,l]:=by rw[BK];simp only[As,Ax,AK,or_false,not_or];exact⟨A5 (CT _),Cy hlS⟩
     have hfr:∀b∈[s.heap.objs.size,(s.heap.push {cls:= .type "set",dict:=none,data:= .set #[] 0 (.fresh 0 0 (!IU w))}).objs.size],s.heap.get? b=none:=λb hb=>by
      cases e:s.heap.get? b with
      | none=>rfl
      | some o=>
       have:=Ao e;rw[BK] at hb;simp only[As,AK,or_false] at hb;rcases hb with rfl | rfl
       · exact absurd this (C5 _)
       · exact absurd this (Nat.not_lt.mpr (Dr _))
     have W:=(Walks.list (prog:=prog) (w:=w) hh3 (s.heap.push {cls:= .type "set",dict:=none,data:= .set #[] 0 (.fresh 0 0 (!IU w))}).objs.size l hneI items).toS;rw[hsz] at W;refine Y4 ts W s.heap.objs.size hSf (by show A.units+1+1+1+1<cLine;omega) (h0:=s.heap) hfr hi nd hb (ts.length - 0) 0 _ (by omega) (AC _)
      ⟨⟨_,Au _ rfl,rfl,rfl⟩,(hl1.push _)⟩ (Ze (Ae _ hS)) (λb o e=>Ae _ (Ae _ e)) ?hR
     case hR=>
      intro s' hm hS';obtain⟨h',g',d',tk',os'⟩:=s';have eg:g'=s.gens:=hm.gens;have ed:d'=s.drawn:=hm.drawn;have eo:os'=s.os:=hm.os;subst eg;subst ed;subst eo;show wpAny _ _ _ _ _ _;refine Ac ?_;show wpAny _ _ (ret Value.none) _ _ _;refine Ac ⟨rfl,h',tk',rfl,hS',λb o hb e=>?_⟩;have hb1:b≠s.heap.objs.size:=A5 hb;have hb2:b≠(s.heap.push {cls:= .type "set",dict:=none,data:= .set #[] 0 (.fresh 0 0 (!IU w))}).objs.size:=by rw[BK];exact A5 (DN hb)
      exact hm.heap b o (by simp only[As,Ax,AK,or_false,not_or];exact⟨hb1,hb2⟩) (Ae _ (Ae _ e))
   · cases r₂ with
     | error e=>exact hr₂
     | ok fl₂=>
      cases fl₂ with
      | ret r=>
       obtain⟨rfl,h',tk,rfl,hS',hk'⟩:=hr₂
       repeat (any_goals (first | assumption | wp_step))
       exact h _ _ hS' hk'
      | _=>exact hr₂.elim
  | _=>exact hr.elim
theorem RY{P:Addr×List WP→Prop}:∀{ws:List (Addr×List WP)}{us:List Value},Vals (ws.map λx=>V.ref x.1) us→(∀x∈ws,P x)→∀(i:Nat)(v:Value),us[i]?=some v→∃x,ws[i]?=some x∧P x∧v= .ref x.1
 | [],us,rv,_,i,v,h=>by cases rv;cases h
 | x::ws,us,rv,ok,i,v,h=>by
  rw[Am] at rv;cases rv with
  | @cons _ u _ us r1 r2=>
   cases i with
   | zero=> cases(show u=Value.ref x.1 from r1);cases h;exact⟨x,rfl,ok x Ah,rfl⟩
   | succ i=> obtain⟨y,e,o,q⟩:=RY r2 (λy hy=>ok y (Ai _ hy)) i v (by simpa using h);exact⟨y,by simpa using e,o,q⟩
section
variable{te:TE}{p2 p3 p4:Pos}
def XR(te:TE):TE:=λσ H Q=>te σ H λx H1=>∃a ws,[x]=[V.ref a]∧WsAt H1 a ws∧(ws.map (·.2)).Nodup∧ws.length≤18∧Q (.int ws.length) H1
theorem YJ(hr:J4 X)(hc:X.calm=true)(he:PE X e te)(hg:Gl X "len")(hm:X.mg "len"=none)(hg2:Gl X "set")(hm2:X.mg "set"=none)
 (h1:A6 [e] X.env=(false,eval e X.env)::A6 [] X.env:=by rfl)
 (h2:A6 [.Call (.Name "set" p2) [e] [] p3] X.env=(false,eval (.Call (.Name "set" p2) [e] [] p3) X.env)::A6 [] X.env:=by rfl)
 (h3:(backTo p3 (A6 [] X.env)).any (·.1)=false:=by rfl) (h4:(backTo pos (A6 [] X.env)).any (·.1)=false:=by rfl):
 PE X (.Call (.Name "len" p4) [.Call (.Name "set" p2) [e] [] p3] [] pos) (XR te):=by
 intro pins s σ H Q I h;refine Bs (JV I hg hm ID ?_ (by decide) (by decide));refine CZ ?_ h2 h4;rw[h2];show wpAny _ _ (spliced ((false,eval (.Call (.Name "set" p2) [e] [] p3) X.env)::backTo pos (A6 [] X.env))) _ _ s;refine D0 ?_;refine Bs (JV I hg2 hm2 VH ?_ (by decide) (by decide));refine Bx (HJ (HB he HC h1 p3 pins s σ H (λvs H1=>∃a ws,vs=[V.ref a]∧WsAt H1 a ws∧(ws.map (·.2)).Nodup∧ws.length≤18∧Q (.int ws.length) H1) I ?_) λus s1 ⟨vs,H1,I1,r1,a,ws,hv,hq,nd,hn,q⟩=>?_) h1 h3
 · exact h
 subst hv;obtain⟨u1,rfl,v1⟩:=JT r1;cases v1;obtain⟨its,rv,ht,hz⟩:=I1.list (SqL.of hq.at');have hlen:=rv.length;rw[Ab] at hlen;refine zen (I1.ok.hd hc) (by unfold J4 at hr;omega) ht.isList (ts:=ws.map (·.2)) (by rw[Al,Ab];omega) (λi v hv=>?_) nd (by rw[Ab];exact hn) λh' tk hS kp=>?_
 · obtain⟨x,e,ok,ev⟩:=RY rv hq.ok i v (by simpa using hv);subst ev;exact⟨x.1,x.2,rfl,by rw[Aj,e];rfl,Pc I1.hok ok.1⟩
 · have I2:Inv X pins σ H1 {s1 with heap:=h',toks:=tk}:=I1.kept λb o e=>kp b o (Ao e) e
   refine DK ?_;obtain⟨es,ep,t,ho,T,hsz,_⟩:=hS;rw[Ab] at hsz;refine call_len_set ho ⟨rfl,rfl,rfl⟩ rfl T.fits (by omega) ?_;rw[hsz];exact⟨.int ws.length,H1,I2.kept (t':=tk+1+1) (λb u e=>e),⟨tk+1,rfl⟩,q⟩
end
theorem Zt(kx target iter:Expr)(ifs:List Expr)(scope:Scope)(pos:Pos)(it:Value)(D:Addr)(env:Env):
 compTurn (.SetComp kx [⟨target,iter,ifs,0⟩] scope pos) 0 it (.ref D) env=(do
  standAt iter.pos
  match ←pyNext it with
  | none=>pure (.done .next)
  | some v=>
   BL target it v
   assign target env v
   let mut ok:=true
   for c in ifs do
    if ok then ok ←isTrue c env (eval c env)
   if ok then
    (do
     let v ←eval kx env
     standAt kx.pos
     let _ ←call (.builtin "set.add") [.ref D,v])
   again (.compLoop (.SetComp kx [⟨target,iter,ifs,0⟩] scope pos) 0 it (.ref D) env)):=by rfl
section
variable{R:Result→Shared→Prop}
theorem ZP{kx target iter ifs HI scope pos it acc env}
 (h0:codeAny (model prog w) A (.compLoop (.SetComp kx (⟨target,iter,ifs,0⟩::HI) scope pos) 0 it acc env) R s)
 (h:wpAny (model prog w) A (pyIter it) (λit' s'=>codeAny (model prog w) A (.compLoop (.SetComp kx (⟨target,iter,ifs,0⟩::HI) scope pos) 0 it' acc env) R s')
  (notedBy (model prog w) A env λx s'=>R (.error x) s') s):
 codeAny (model prog w) A (.compStart (.SetComp kx (⟨target,iter,ifs,0⟩::HI) scope pos) 0 it acc env) R s:=by
 refine Eg ?_;show wpAny _ A ((Cr (.SetComp kx (⟨target,iter,ifs,0⟩::HI) scope pos) 0 it acc env).onRaise (λx=>do noteFrame x env;standAt theWindowsPlace)) _ _ s
 refine wpAny_notedAt ?_;unfold Cr;show wpAny _ A (ask>>=_) _ _ s;refine Aa (EY (wpAny_ite ?_))
 split
 · first
    | exact Aa (Ac (Ac (And.intro rfl h0)))
    | exact Ac (And.intro rfl h0)
 · first
    | exact Aa (Cf (Aa (Bu (Aa (Av h (λit' s' h'=>Ac (And.intro rfl h')) λ_ _ x=>x)))))
    | (refine Aa (Cf ?_);show wpAny _ _ (standAt iter.pos>>=_) _ _ s;exact Aa (Bu (Aa (Av h (λit' s' h'=>Ac (And.intro rfl h')) λ_ _ x=>x))))
theorem Zs{kx target iter:Expr}{ifs:List Expr}{scope:Scope}{pos:Pos}{it:Value}{D:Addr}{env:Env}(I:Nat→Shared→Prop)
 (turn:∀n s,I n s→wpAny (model prog w) A (pyNext it) (λr s₁=>match r with
  | none=>R (.ok .next) s₁
  | some v=>wpAny (model prog w) A (BL target it v) (λ_ s₁'=>wpAny (model prog w) A (assign target env v) (λ_ s₂=>
   wpAny (model prog w) A (forIn ifs true λc r=>if r=true then do let ok ←isTrue c env (eval c env);pure (ForInStep.yield ok) else pure (ForInStep.yield r)) (λok s₃=>
    if ok=true then wpAny (model prog w) A (eval kx env) (λkv s₄=> wpAny (model prog w) A (call (.builtin "set.add") [.ref D,kv]) (λ_ s₆=>∃m,m<n∧I m s₆) (λ_ _=>False) s₄) (λ_ _=>False) s₃
    else ∃m,m<n∧I m s₃) (λ_ _=>False) s₂) (λ_ _=>False) s₁') (λ_ _=>False) s₁) (λ_ _=>False) s)
 (n:Nat) (h:I n s):
 codeAny (model prog w) A (.compLoop (.SetComp kx [⟨target,iter,ifs,0⟩] scope pos) 0 it (.ref D) env) R s:=by
 refine Ed rfl I (λn s hI=>?_) n h;show wpAny _ A ((compTurn (.SetComp kx [⟨target,iter,ifs,0⟩] scope pos) 0 it (.ref D) env).onRaise (λx=>do noteFrame x env;theTreesLotGoes x)) _ _ s
 refine Ey ?_;rw[Zt];refine Aa (Bu (Aa (Av (turn n s hI) (λr s₁ h₁=>?_) λ_ _ z=>z.elim)));cases r with
 | none=>exact Ac h₁
 | some v=>
  refine Aa (Av h₁ (λ_ s₁' h₁'=>?_) λ_ _ z=>z.elim);refine Aa (Av h₁' (λ_ s₂ h₂=>Aa (Av h₂ (λok s₃ h₃=>?_) λ_ _ z=>z.elim)) λ_ _ z=>z.elim);cases ok with
  | false=>exact Ac ⟨rfl,h₃⟩
  | true=> refine Aa (Aa (Av h₃ (λkv s₄ h₄=>Aa (Bu (Aa (Av h₄ (λ_ s₆ h₆=>?_) λ_ _ z=>z.elim)))) λ_ _ z=>z.elim));exact Ac (Ac ⟨rfl,h₆⟩)
end
def IE(P:AU)(w:World)(d:Addr)(ks:List Str):Heap→Prop:=λh=>h.SetOf (strKind P w) d (λk=>decide (k∈ks)) ks.length
def JE(ks:List Str)(k:Str):List Str:=if k∈ks then ks else ks++[k]
section
variable{d:Addr}{ks:List Str}
theorem Sb{P':AU}{w':World}(x:IE P w d ks h):ObjOk P' w' H h d (.ext (IE P w d ks)):=⟨x,let⟨o,_,_,_,e,_⟩:=x;⟨o,e⟩,λh1 h2 ⟨o,es,ep,t,e,r⟩ k=>⟨o,es,ep,t,k o e,r⟩⟩
theorem XG(x:h.SetOf (strKind P w) d (λ_=>false) 0):IE P w d [] h:=SetOf_congr x (λ_=>by simp) rfl
theorem XH{k:Str}(x:h.SetOf (strKind P w) d (λk'=>decide (k'∈ks) || decide (k'=k)) (if decide (k∈ks) then ks.length else ks.length+1)):IE P w d (JE ks k) h:=by
 unfold IE JE;by_cases c:k∈ks
 · rw[if_pos c];refine SetOf_congr x (λy=>?_) (by simp[c]);by_cases e:y=k
   · subst e;simp[c]
   · simp[e]
 · rw[if_neg c];refine SetOf_congr x (λy=>?_) (by simp[c]);simp
end
def Ov(J:It)(p:Addr)(js:IC)(g:TG)(tc:TT)(tk:TE)(σ:St)(H:Hp)(Q:Nat→Hp→Prop):Prop:=
 ∃W:Nat→Nat→St→List Str→Hp→Prop,(∃m,∀φ,W 0 m (Jf js σ) [] (HD H p (.ext φ)))∧∀i m σ' ks H,W i m σ' ks H→ks.length≤900∧
  ((J.stop i H∧Q ks.length H)∨(J.go i H∧∀x H',J.yld i H x H'→g x σ' H' λσ2 H2=>tc σ2 H2 λb H3=>
    if b=true then tk σ2 H3 λk H4=>∃t:Str,k= .str t∧H4 p=H p∧∀φ,∃m',m'<m∧W (i+1) m' σ2 (JE ks t) (HD H4 p (.ext φ))
    else H3 p=H p∧∃m',m'<m∧W (i+1) m' σ2 ks H3))
def WS(wi:TI)(js:IC)(g:TG)(tc:TT)(tk:TE):TE:=λσ H Q=>wi σ H λJ H1=>∀p,H1 p=none→Ov J p js g tc tk σ H1 λn H2=>Q (.int n) H2
section
variable{tg iter kx:Expr}{ifs:List Expr}{wi:TI}{js:IC}{g:TG}{tc:TT}{tk:TE}{N':List Str}{p2 p3:Pos}
theorem XI{pins:List (Addr×Obj)}{σ:St}{H:Hp}{s:Shared}{E:Value→Shared→Prop}{Q:Nat→Hp→Prop}{J:It}{it:Addr}{fp:List Addr}{tn:Nat→Heap→Prop}{cl:List (Str×Addr)}
 (hc:X.calm=true) (ok:CapOk X N' js scope)
 (h2:∀x c,cl.lookup x=some c→X.env.cells.lookup x=some c) (h3:∀p∈scope.names,p.2= .free→(cl.lookup p.1).isSome=true)
 (hg:∀cl C s₀ H₀ ex,PG (Ij X N' scope cl C s₀ H₀ ex) tg g) (ht:∀cl C s₀ H₀ ex,Ir (Ij X N' scope cl C s₀ H₀ ex) ifs tc) (he:∀cl C s₀ H₀ ex,PE (Ij X N' scope cl C s₀ H₀ ex) kx tk)
 (I:Inv X pins σ H s) (T:Turn X.prog X.w X.K tg J fp it tn) (st:tn 0 s.heap) (hf:∀b∈fp,HS X pins H b)
 (hw:∀p,H p=none→Ov J p js g tc tk σ H Q):
 wpAny (model X.prog X.w) X.A (newSet (.type "set")) (λacc s₃=>wpAny (model X.prog X.w) X.A (newFunctionEnv scope X.env.globals cl [] X.env.qual none .none (some X.env)) (λcenv s₄=>
  codeAny (model X.prog X.w) X.A (.compStart (.SetComp kx [⟨tg,iter,ifs,0⟩] scope pos) 0 (.ref it) acc {cenv with scope:=relabel scope X.env})
   (λr s'=>r= .ok .next∧(∃m,s'.heap.Ns cenv.locals m)∧∃(p:Addr)(H':Hp)(ks:List Str),acc= .ref p∧Inv X pins σ H' s'∧HS X pins H' cenv.locals∧H' p=some (.ext (IE X.prog X.w p ks))∧Q ks.length H') s₄) E s₃) E s:=by
 have objs:=T.obj _ _ st;refine wpAny_newSet_of (knd:=strKind X.prog X.w) λled hnew=>?_;obtain⟨W,⟨m0,w0⟩,turn⟩:=hw s.heap.objs.size (I.hok.fresh (Af _));generalize hp:s.heap.objs.size=p at*;have kp:∀b u,s.heap.get? b=some u→(s.heap.push {cls:= .type "set",dict:=none,data:= .set #[] 0 (.fresh 0 0 led)}).get? b=some u:=λb u e=>Ae _ e;have I3:Inv X pins σ (HD H p (.ext (IE X.prog X.w p []))) {s with heap:=s.heap.push {cls:= .type "set",dict:=none,data:= .set #[] 0 (.fresh 0 0 led)}}:=by subst hp;exact I.laid (t':=s.toks) kp (Af _) (Sb (XG hnew))
 have fne:∀b∈fp,b≠p:=λb hb=>by obtain⟨o,e,_⟩:=objs b hb;have:=Ao e;rw[←hp];exact A5 this
 have hf3:∀b∈fp,HS X pins (HD H p (.ext (IE X.prog X.w p []))) b:=λb hb=>⟨by rw[HV (fne b hb)];exact(hf b hb).1,(hf b hb).2⟩;have st3:tn 0 (s.heap.push {cls:= .type "set",dict:=none,data:= .set #[] 0 (.fresh 0 0 led)}):=T.keep _ _ _ st λb _ o e=>kp b o e;have lt3:∀b∈fp,b<(s.heap.push {cls:= .type "set",dict:=none,data:= .set #[] 0 (.fresh 0 0 led)}).objs.size:=λb hb=>by obtain⟨o,e,_⟩:=objs b hb;exact Ao (kp b o e)
 generalize hs3:({s with heap:=s.heap.push {cls:= .type "set",dict:=none,data:= .set #[] 0 (.fresh 0 0 led)}}:Shared)=s3 at*
 have eh:s.heap.push {cls:= .type "set",dict:=none,data:= .set #[] 0 (.fresh 0 0 led)}=s3.heap:=by rw[←hs3]
 rw[eh] at st3 lt3;refine ME ok.cells λcl h₁ hns₁ k4 oc=>?_;have I4:=M6 (cl:=cl) (h₁:=h₁) (t':=s3.toks+([]:List (Str×Value)).length) ok I3 h2 h3 hf3 lt3 k4 hns₁ oc;have st4:tn 0 h₁:=T.keep _ _ _ st3 λb _ o e=>k4 b o e;generalize hX:Ij X N' scope cl s3.heap.objs.size s3 (HD H p (.ext (IE X.prog X.w p []))) fp=X' at I4;have hg':PG X' tg g:=by rw[←hX];exact hg _ _ _ _ _
 have ht':Ir X' ifs tc:=by rw[←hX];exact ht _ _ _ _ _
 have he':PE X' kx tk:=by rw[←hX];exact he _ _ _ _ _
 have eP:X'.prog=X.prog:=by rw[←hX];rfl
 have ew:X'.w=X.w:=by rw[←hX];rfl
 have eK:X'.K=X.K:=by rw[←hX];rfl
 have ec:X'.calm=true:=by rw[←hX];exact hc
 have eA:X'.A=X.A:=by rw[←hX];rfl
 have ex:X'.xe=λ_ _=>False:=by rw[←hX];rfl
 have eE:X'.env=compEnvC scope cl s3.heap.objs.size X.env:=by rw[←hX];rfl
 have eEx:X'.ex=fp:=by rw[←hX];rfl
 have eN:X'.pn=[]:=by rw[←hX];rfl
 have stat:∀{H':Hp},(∀b∈fp,H' b=none)→∀b∈fp,HS X' [] H' b:=λ{H'}hn b hb=>by have okc:=I4.ok;refine⟨hn b hb,(okc.exf b (by rw[eEx];exact hb)).1,okc.exfs b (by rw[eEx];exact hb),.inl (by rw[eEx];exact hb),(okc.exf b (by rw[eEx];exact hb)).2,λq hq=>?_⟩;rw[eN] at hq;cases hq
 have loop:∀s₄:Shared,s₄={s3 with heap:=h₁,toks:=s3.toks+([]:List (Str×Value)).length}→
  codeAny (model X.prog X.w) X.A (.compLoop (.SetComp kx [⟨tg,iter,ifs,0⟩] scope pos) 0 (.ref it) (.ref p) (compEnvC scope cl s3.heap.objs.size X.env))
   (λr s'=>r= .ok .next∧(∃m,s'.heap.Ns s3.heap.objs.size m)∧∃(p':Addr)(H':Hp)(ks:List Str),Value.ref p= .ref p'∧Inv X pins σ H' s'∧HS X pins H' s3.heap.objs.size∧H' p'=some (.ext (IE X.prog X.w p' ks))∧Q ks.length H') s₄:=by
  rintro s₄ rfl;refine Zs (λn s'=>∃i σ' ys H',Inv X' [] σ' H' s'∧tn i s'.heap∧(∀b∈fp,H' b=none)∧H' p=some (.ext (IE X.prog X.w p ys))∧W i n σ' ys H') ?_ m0 ⟨0,_,[],_,I4,st4,λb hb=>(hf3 b hb).1,HH,w0 _⟩;rintro n s5 ⟨i,σ5,ys,H5,I5,st5,fr5,hp5,w5⟩;obtain⟨lk5,tu⟩:=turn i n σ5 ys H5 w5;rcases tu with⟨stop,qn⟩ | ⟨go,step⟩
  · have D:=T.done X' eP ew eK ec i [] s5 σ5 H5 (λ_ _=>False) I5 (stat fr5) st5 stop;rw[eA] at D;refine HJ D λr s6 ⟨hr,I6⟩=>?_;subst hr;refine⟨rfl,?_,p,H5,ys,rfl,?_,?_,hp5,qn⟩
    · obtain⟨m,hm,_⟩:=I6.loc;rw[eE] at hm;exact⟨m,hm⟩
    · have b6:=I6.base;have ho:=I6.os;have hk:=I6.hok;have hb:=I6.bare;subst hX;exact I3.call' (ch:=fp) ho b6 hk hb λb hb'=>⟨(hf b hb').2.2.2.1,(hf b hb').2.1,(hf b hb').2.2.2.2.1,(hf b hb').2.2.2.2.2⟩
    · have fr:=I6.free;rw[eE] at fr;exact I3.fpOk (Af _) fr
  · have D:=T.item X' eP ew eK ec i [] s5 σ5 H5 (λ_ _=>False) I5 (stat fr5) st5 go;rw[eA] at D;refine HJ D λr s6 ⟨u,hr,h6⟩=>?_;subst hr;refine HJ h6 λ_ s7 ⟨x,H7,I7,r7,y7,st7,fr7⟩=>?_;have I7':=I7.pinned (stat fr7) (T.obj _ _ st7);have G:=hg' _ s7 σ5 H7 x u _ I7' r7 (step x H7 y7);rw[eP,ew,eA,ex,eE] at G;refine HJ G λ_ s8 ⟨σ8,H8,I8,q8⟩=>?_;have Tt:=ht' _ s8 σ8 H8 _ I8 q8;rw[eP,ew,eA,ex,eE] at Tt;refine HJ Tt λb s9 ⟨H9,I9,q9⟩=>?_;have again:∀{s':Shared}{ys':List Str}{H':Hp},Inv X' ([]++Ky fp s7.heap) σ8 H' s'→H' p=some (.ext (IE X.prog X.w p ys'))→(∃m',m'<n∧W (i+1) m' σ8 ys' H')→
     ∃m,m<n∧∃i σ' ys H',Inv X' [] σ' H' s'∧tn i s'.heap∧(∀b∈fp,H' b=none)∧H' p=some (.ext (IE X.prog X.w p ys))∧W i m σ' ys H':=λ{s' ys' H'}I' hp' ⟨m',hm,w'⟩=>by
     refine⟨m',hm,i+1,σ8,ys',H',I'.unpinned,T.keep _ _ _ st7 λb hb o e=>(I'.pin (b,o) (Ag _ (Ag _ (JK hb e)))).1,λb hb=>?_,hp',w'⟩;obtain⟨o,e,d⟩:=T.obj _ _ st7 b hb;exact(I'.pin (b,o) (Ag _ (Ag _ (JK hb e)))).2.1
    cases b with
    | false=> obtain⟨e9,q9⟩:=q9;exact again I9 (e9.trans hp5) q9
    | true=> have Ee:=he' _ s9 σ8 H9 _ I9 q9;rw[eP,ew,eA,ex,eE] at Ee;show wpAny _ _ _ _ _ _;refine HJ Ee λkv s10 ⟨kk,H10,I10,r10,q10⟩=>?_;obtain⟨t,ek,hp10,q11⟩:=q10;subst ek;obtain⟨tok,rfl⟩:=(show ∃tk,kv=Value.str t tk from r10);have hp11':=hp10.trans hp5;have ph:=(show ObjOk X'.prog X'.w H10 s10.heap p (.ext (IE X.prog X.w p ys)) from I10.hok p _ hp11').1;refine call_set_add (knd:=strKind X.prog X.w) (k:=t) (key:= .str t tok) (Ww t tok) rfl ph (by unfold scanBound;omega) λh' hs' hS=>?_;have he0:∃q,h'.get? p=some q:=let⟨q,_,_,_,hq,_⟩:=hS;⟨q,hq⟩;have I12:=OE (t':=s10.toks+1) (ob:= .ext (IE X.prog X.w p (JE ys t))) I10 (by rw[hp11'];exact True.intro) hs' he0 (Sb (XH hS));exact again I12 HH (q11 _)
 exact ZP (loop _ rfl) (T.self _ 0 _ _ _ st4 (loop _ rfl))
theorem X4{p4:Pos}(hc:X.calm=true)(ok:CapOk X N' js scope)(hi:PI X tg iter wi)
 (hg:∀cl C s₀ H₀ ex,PG (Ij X N' scope cl C s₀ H₀ ex) tg g) (ht:∀cl C s₀ H₀ ex,Ir (Ij X N' scope cl C s₀ H₀ ex) ifs tc) (he:∀cl C s₀ H₀ ex,PE (Ij X N' scope cl C s₀ H₀ ex) kx tk)
 (hgl:Gl X "len") (hm:X.mg "len"=none) (hs:∀x,Bp iter X.env x=pure x:=by intro _;rfl)
 (h2:A6 [.SetComp kx [⟨tg,iter,ifs,0⟩] scope pos] X.env=(false,eval (.SetComp kx [⟨tg,iter,ifs,0⟩] scope pos) X.env)::A6 [] X.env:=by rfl)
 (h4:(backTo p2 (A6 [] X.env)).any (·.1)=false:=by rfl):
 PE X (.Call (.Name "len" p4) [.SetComp kx [⟨tg,iter,ifs,0⟩] scope pos] [] p2) (WS wi js g tc tk):=by
 intro pins s σ H Q I h;refine Bs (JV I hgl hm ID ?_ (by decide) (by decide));refine CZ ?_ h2 h4;rw[h2];show wpAny _ _ (spliced ((false,eval (.SetComp kx [⟨tg,iter,ifs,0⟩] scope pos) X.env)::backTo p2 (A6 [] X.env))) _ _ s;refine D0 ?_;obtain⟨cl,c1,c2,c3⟩:=Mb (scope:=scope) I.ok.has ok.free;show wpAny _ X.A (comprehension (.SetComp kx [⟨tg,iter,ifs,0⟩] scope pos) scope X.env _ (newSet (.type "set")) false (eval iter X.env)) _ _ s;refine Cc (use:=none) rfl hs c1 ok.kind ok.names (HJ (hi pins s σ H _ I h) λv s1 h1=>HJ h1 λitv s2 h2=>?_);obtain⟨it,fp,tn,J,H2,e,I2,T,st2,f2,hw⟩:=h2;subst e;refine Av (XI (iter:=iter) (pos:=pos) hc ok c2 c3 hg ht he I2 T st2 f2 hw) (λacc s3 h3=>Av h3 (λcenv s4 h4=>?_) λ_ _ z=>z) λ_ _ z=>z;refine BS h4 λr s5 h5=>?_;obtain⟨rfl,⟨m,hm⟩,p,H5,ks,rfl,I5,f5,hp,q5⟩:=h5;refine⟨m,hm,λh' sb=>?_⟩;obtain⟨f0,f1,_,f3,f4,f6⟩:=f5;have I6:=I5.turned (t':=s5.toks) (h':=h') (λb o hb e=>(sb.2 b hb).trans e) f0 f1 f3 f4 f6;refine DK ?_;have ph:=(show ObjOk X.prog X.w H5 h' p (.ext (IE X.prog X.w p ks)) from I6.hok p _ hp).1;obtain⟨o,es,ep,t,ho,hex,hd,_,_,hb,hf,hsz⟩:=ph;refine call_len_set ho hex hd hf (by unfold scanBound at hb;omega) ?_;rw[hsz];exact⟨.int ks.length,H5,I6.kept (t':=s5.toks+1+1) (λb u e=>e),⟨s5.toks+1,rfl⟩,q5⟩
end
structure Stand where
 a:Addr
 hand:Str
 post:Int
 l:Addr
 ws:List (Addr×List WP)
structure StAt(H:Hp)(W:List Int)(x:Stand):Prop where
 at':H x.a=some (.tup [.str x.hand,.int x.post,.ref x.l])
 ws:WsAt H x.l x.ws
 nd:(x.ws.map (·.2)).Nodup
 few:x.ws.length≤10
 name:FieldOk x.hand
 post:WB.Post W x.post
structure StsAt(H:Hp)(W:List Int)(l:Addr)(xs:List Stand):Prop where
 at':H l=some (.lst (xs.map λx=>V.ref x.a))
 ok:∀x∈xs,StAt H W x
 nd:(xs.map (·.hand)).Nodup
 len:xs.length≤30
theorem StAt.same{H':Hp}{W:List Int}{x:Stand}(h:StAt H W x)(s:Same H H'):StAt H' W x:=⟨s _ _ h.at',h.ws.same s,h.nd,h.few,h.name,h.post⟩
theorem StsAt.same{H':Hp}{W:List Int}{l:Addr}{xs:List Stand}(h:StsAt H W l xs)(s:Same H H'):StsAt H' W l xs:=⟨s _ _ h.at',λx hx=>(h.ok x hx).same s,h.nd,h.len⟩
theorem Yk{xs:List Stand}(nd:(xs.map (·.hand)).Nodup){x:Stand}(e:xs[i]?=some x):JE ((xs.map (·.hand)).take i) x.hand=(xs.map (·.hand)).take (i+1):=by
 have e2:(xs.map (·.hand))[i]?=some x.hand:=by rw[Aj,e];rfl
 unfold JE;rw[if_neg,Di,e2]
 · rfl
 · intro q;obtain⟨j,hj,e3⟩:=FN.mp q;rw[AA] at hj;rw[List.getElem_take] at e3;obtain⟨hi',e4⟩:=Aq.mp e2;have:=(Cu.mp (EB.mp nd)) j i (by omega) hi' (by omega);exact this (e3.trans e4.symm)
def SZ:Sp:=λvs H Q _=>∃(l:Addr)(ws:List (Addr×List WP)),vs=[.ref l]∧WsAt H l ws∧(ws.map (·.2)).Nodup∧ws.length≤18∧∀H',Same H H'→Q (.bl true) H'
def TY:Sp:=λvs H Q _=>∃(a:Addr)(W:List Int)(x:Stand),vs=[.ref a,.ref x.a]∧WebAt H a W∧StAt H W x∧∀H',Same H H'→Q (.bl true) H'
def UA:Sp:=λvs H Q _=>∃(a l:Addr)(W:List Int)(xs:List Stand),vs=[.ref a,.ref l]∧WebAt H a W∧StsAt H W l xs∧∀H',Same H H'→Q (.bl true) H'
def UB:Sp:=λvs H Q _=>∃(a l:Addr)(W:List Int)(xs:List Stand),vs=[.ref a,.ref l]∧WebAt H a W∧StsAt H W l xs∧∀H',Same H H'→Q .non H'
section
variable{K:Ad}{p:Addr}{g:TG}{tc:TT}{te:TE}{Q:Nat→Hp→Prop}
theorem Ws{js:IC}(Pv:Nat→St→List Str→Hp→Prop)(h0:∀φ,Pv 0 (Jf js σ) [] (HD H p (.ext φ)))
 (hl:∀i σ ks H,i≤xs.length→Pv i σ ks H→SqL K H a xs∧ks.length≤900)
 (hs:∀(i:Nat)x σ ks H(N:St→List Str→Hp→Prop),xs[i]?=some x→Pv i σ ks H→(∀σ' ks' H',Pv (i+1) σ' ks' H'→N σ' ks' H')→
  g x σ H λσ2 H2=>tc σ2 H2 λb H3=>if b=true then te σ2 H3 λk H4=>∃t:Str,k= .str t∧H4 p=H p∧∀φ,N σ2 (JE ks t) (HD H4 p (.ext φ)) else H3 p=H p∧N σ2 ks H3)
 (hd:∀σ ks H,Pv xs.length σ ks H→Q ks.length H):Ov (Ku K a) p js g tc te σ H Q:=by
 refine⟨λi m σ ks H=>m=xs.length - i∧i≤xs.length∧Pv i σ ks H,⟨xs.length,λφ=>⟨by simp,AC _,h0 φ⟩⟩,?_⟩;rintro i m σ ks H ⟨rfl,hi,pv⟩;obtain⟨q1,q2⟩:=hl i σ ks H hi pv;refine⟨q2,?_⟩;by_cases lt:i<xs.length
 · refine .inr ⟨⟨xs,xs[i],q1,by simp[lt]⟩,λx H' y=>?_⟩;obtain⟨e,y⟩:=y;subst e;exact hs i x σ ks _ (λσ2 ks2 H2=>∃m',m'<xs.length - i∧m'=xs.length - (i+1)∧i+1≤xs.length∧Pv (i+1) σ2 ks2 H2) (y xs q1) pv λσ' ks' H' p'=>⟨xs.length - (i+1),by omega,rfl,lt,p'⟩
 · have e:i=xs.length:=by omega
   subst e;exact .inl ⟨⟨xs,q1,Af _⟩,hd σ ks H pv⟩
end
theorem zfA(K:Ad)(h:X.K=K):JA X (.type "list") (λxs H Q=>∃p ys,xs=[.ref p]∧(SqL K H p ys∨SqT K H p ys)∧∀l,H l=none→Q (.ref l) (HD H l (.lst ys))):=by subst h;exact NT
theorem Y3{M:Nat}(h:M≤23):WB.Web ((AI M).map (λ(i:Nat)=>(i:Int))):=by
 refine⟨by simp;omega,λi n e=>?_⟩;rw[Aj] at e;by_cases c:i<M
 · rw[FV c] at e;cases e;show 0≤(i:Int)∧(i:Int)≤(i:Int);exact⟨by omega,by omega⟩
 · rw[Dk (by simp;omega)] at e;cases e
theorem Tc{L:List Int}{x:Int}(h:∀(j:Nat)y,L[j]?=some y→0≤y∧y≤(j:Int))(x0:0≤x)(x1:x≤(L.length:Int)):∀(j:Nat)y,(L++[x])[j]?=some y→0≤y∧y≤(j:Int):=λj y e=>by
 by_cases c:j<L.length
 · rw[Ct c] at e;exact h j y e
 · rw[Cn (by omega)] at e;have:j - L.length=0:=by
    cases q:j - L.length with
    | zero=>rfl
    | succ m=>rw[q] at e;simp at e
   rw[this] at e;cases e;exact⟨x0,by omega⟩
def TX:Sp:=λvs H Q _=>∃(b g l:Addr)(n many:Int),vs=[.ref b,.int many]∧Well H b g l n∧n≤10^7∧1≤many∧many≤30∧
 ∀(r:Addr)(fs:List Str)(H':Hp),H r=none→H' r=some (.lst (fs.map V.str))→fs.Pairwise Jy→(∀f∈fs,FieldOk f)→1≤fs.length→(fs.length:Int)≤many→Well H' b g l (n+1000)→SameB b g H H'→Q (.ref r) H'
def RF:Sp:=λvs H Q _=>∃(b g l a t:Addr)(n lo sz wide many:Int)(fs:List Str),vs=[.ref b,.ref a,.ref t,.int wide,.int many]∧Well H b g l n∧n≤10^6∧NamesAt H b g a fs∧H t=some (.tup [.int lo,.int sz])∧1≤sz∧sz≤10^10∧1≤wide∧wide≤100∧0≤many∧many≤90∧
 ∀(r:Addr)(ws:List (Addr×List WP))(H':Hp),H r=none→WsAt H' r ws→(ws.length:Int)≤many→(ws.map (·.2)).Nodup→Well H' b g l (n+40*many)→SameB b g H H'→Q (.ref r) H'
def SX:Sp:=λvs H Q _=>∃(b g l a:Addr)(n:Int)(xs:List V),vs=[.ref b,.ref a]∧Well H b g l n∧n≤10^6∧H a=some (.lst xs)∧a≠b∧a≠g∧xs.length≤90∧
 ∀(r:Addr)(ys zs:List V)(H':Hp),H r=none→H' r=some (.lst ys)→(ys++zs).Perm xs→Well H' b g l (n+100)→SameB b g H H'→Q (.ref r) H'
def Rk:Sp:=λvs H Q _=>∃(b g l:Addr)(n most:Int),vs=[.ref b,.int most]∧Well H b g l n∧n≤10^6∧1≤most∧most≤24∧
 ∀(r:Addr)(W:List Int)(H':Hp),H r=none→WebAt H' r W→Well H' b g l (n+30)→SameB b g H H'→Q (.ref r) H'
def I0(x:Stand):Str×Int×List (Addr×List WP):=(x.hand,x.post,x.ws)
def RA:Sp:=λvs H Q _=>∃(l:Addr)(W:List Int)(xs:List Stand),vs=[.ref l]∧StsAt H W l xs∧∀(r:Addr)(ys:List Stand)(H':Hp),H r=none→Same H H'→StsAt H' W r ys→ys.map I0=xs.map I0→Q (.ref r) H'
theorem StAt.sameW{H':Hp}{g m:Addr}{n:Int}{W:List Int}{x:Stand}(h:StAt H W x)(B:Well H b g m n)(f:x.l≠b∧x.l≠g)(s:SameB b g H H'):StAt H' W x:=⟨B.tup s h.at',h.ws.sameW B f.1 f.2 s,h.nd,h.few,h.name,h.post⟩
theorem StsAt.sameW{H':Hp}{g m:Addr}{n:Int}{W:List Int}{l:Addr}{xs:List Stand}(h:StsAt H W l xs)(B:Well H b g m n)(lb:l≠b)(lg:l≠g)(f:∀x∈xs,x.l≠b∧x.l≠g)(s:SameB b g H H'):StsAt H' W l xs:=⟨s _ _ h.at' lb lg,λx hx=>(h.ok x hx).sameW B (f x hx) s,h.nd,h.len⟩
def hw(x:Stand):Str×List (Addr×List WP):=(x.hand,x.ws)
structure IsTop(ws qs:List (List WP)):Prop where
 nd:qs.Nodup
 mem:∀w,w∈qs↔w∈ws∧∀o∈ws,IK o w=true→o=w
theorem IsTop.some{ws qs:List (List WP)}(h:IsTop ws qs)(h2:2≤qs.length):∀w∈qs,w≠[]:=λw hw e=>by
 subst e;have all:∀v∈qs,v=[]:=λv hv=>(((h.mem v).mp hv).2 [] ((h.mem []).mp hw).1 rfl).symm
 match qs,h2,h.nd,all with
 | a::b::r,_,nd,all=> have e1:=all a Ah;have e2:=all b (Ai _ Ah);exact(BC.mp nd).1 (by rw[e1,e2];exact Ah)
def JH(qs:List (List WP)):Prop:=qs.Pairwise λx y=>Lk y x=false
theorem Y6{x y:List WP}(h1:Lk x y=false)(h2:Lk y x=false):x=y:=by
 by_cases e:x.map ky=y.map ky
 · exact List.map_inj_right (λ_ _ z=>Vn z) |>.mp e
 · rcases sto_ky.tot _ _ e with z | z
   · rw[show Lk x y=true from z] at h1;cases h1
   · rw[show Lk y x=true from z] at h2;cases h2
theorem Ta{ws qs qs':List (List WP)}(h:IsTop ws qs)(h':IsTop ws qs')(s:JH qs)(s':JH qs'):qs=qs':=
 List.Perm.eq_of_pairwise (λa b _ _ h1 h2=>Y6 h2 h1) s s' ((List.perm_ext_iff_of_nodup h.nd h'.nd).mpr λw=>by rw[h.mem,h'.mem])
theorem IsTop.perm{ws qs qs':List (List WP)}(h:IsTop ws qs)(p:qs'.Perm qs):IsTop ws qs':=⟨p.nodup_iff.mpr h.nd,λw=>by rw[p.mem_iff];exact h.mem w⟩
theorem WV{ws us:List (List WP)}(nd:us.Nodup)(hm:∀w,w∈us↔w∈ws)(f:List WP→Bool)(hf:∀w∈us,f w=true↔∀o∈us,IK o w=true→o=w):IsTop ws (us.filter f):=
 ⟨nd.filter _,λw=>by
  rw[BB];constructor
  · rintro⟨h1,h2⟩;exact⟨(hm w).mp h1,λo ho=>(hf w h1).mp h2 o ((hm o).mpr ho)⟩
  · rintro⟨h1,h2⟩;have h1:=(hm w).mpr h1;exact⟨h1,(hf w h1).mpr λo ho=>h2 o ((hm o).mp ho)⟩⟩
theorem YQ{w:List WP}{p:WP}{f:Str}(e:w[i]?=some p)(hf:p.1=f)(hn:∀q∈w.take i,q.1≠f):IY w f=some p.2:=by
 have hi:i<w.length:=(Aq.mp e).1;unfold IY;have:w.find? (λq=>decide (q.1=f))=some p:=by rw[←List.take_append_drop i w,List.find?_append,Da.mpr λq hq z=>hn q hq (of_decide_eq_true z),BY hi];rw[show w[i]=p from(Aq.mp e).2];rw[List.find?_cons_of_pos (by simpa using hf)];rfl
 rw[this];rfl
def Jj(p:WP):PD:= .tup [.str p.1,.bl p.2.1.isSome,.int (p.2.1.getD 0),.bl p.2.2.isNone,.int (p.2.2.getD 0)]
def K5(w:List WP):PD:= .tup (w.map Jj)
def KR(p:WP):List V:=[.str p.1,.bl p.2.1.isSome,.int (p.2.1.getD 0),.bl p.2.2.isNone,.int (p.2.2.getD 0)]
theorem SM{K:Ad}:∀qs:List (Addr×WP),(∀q∈qs,H q.1=some (.tup (KR q.2)))→Reps K H ((qs.map (·.2)).map Jj) (qs.map λq=>V.ref q.1)
 | [],_=>by show Reps K H [] [];rw[Reps]
 | q::qs,h=>by show Reps K H (Jj q.2::_) (V.ref q.1::_);rw[Reps];refine⟨_,_,rfl,?_,SM qs λx hx=>h x (Ai _ hx)⟩;unfold Jj;rw[Rep];refine⟨q.1,_,rfl,SqT.of (h q Ah),?_⟩;unfold KR;simp only[Reps,Rep];exact⟨_,_,rfl,rfl,_,_,rfl,rfl,_,_,rfl,rfl,_,_,rfl,rfl,_,_,rfl,rfl,rfl⟩
theorem X9(p q:WP):HL (Jj p) (Jj q)=decide (ky p=ky q):=by obtain⟨f,lo,hi⟩:=p;obtain⟨f',lo',hi'⟩:=q;unfold Jj ky;rw[HL,Ix,Ix,Ix,Ix,Ix,Ix,HL,HL,HL,HL,HL,Bb];cases lo<;>cases lo'<;>cases hi<;>cases hi'<;>simp[JP,JQ]
theorem XB(p q:WP)(hn:ky p≠ky q):HZ (Jj p) (Jj q)=Jt (ky p) (ky q):=by
 obtain⟨f,lo,hi⟩:=p;obtain⟨f',lo',hi'⟩:=q;unfold Jj Jt Jc;unfold ky at*;rw[HZ,IH,IH,IH,IH,IH,IH];simp only[HL,HZ];by_cases h:f=f'
 · subst h;cases lo<;>cases lo'<;>cases hi<;>cases hi'<;>simp[JP,JQ,JL,Jc,Lv] at hn ⊢ <;>(try split)<;>(try simp_all)<;>(try rfl)<;>(try (congr 1))
 · simp[h,Oc]
theorem Xz(p q:WP):HR (Jj p) (Jj q)=true:=by
 unfold Jj;rw[HR,IS,IS,IS,IS,IS,IS]
 all_goals simp[HR]
theorem Tj:∀w w':List WP,IS (w.map Jj) (w'.map Jj)=true
 | [],w'=>by rw[Bq,IS];all_goals simp
 | x::r,[]=>by rw[Bq,IS];all_goals simp
 | x::r,y::r'=>by rw[Am,Am,IS,Xz,Tj r r'];simp
theorem Ts:∀w w':List WP,IH (w.map Jj) (w'.map Jj)=IF Jt (w.map ky) (w'.map ky)
 | [],[]=>by rw[Bq,IH];rfl
 | [],y::r=>by rw[Bq,Am,IH];rfl
 | x::r,[]=>by rw[Bq,Am,IH];rfl
 | x::r,y::r'=>by
  rw[Am,Am,IH,X9,Ts r r',Am,Am,IF];by_cases h:ky x=ky y
  · rw[if_pos (decide_eq_true h),if_pos h]
  · rw[if_neg (by simpa using h),if_neg h,XB x y h]
theorem Wl(w w':List WP):HZ (K5 w) (K5 w')=Lk w w':=by unfold K5 Lk;rw[HZ,Ts]
theorem Xd(w:List WP):Iw (K5 w)≤2:=by
 have:∀w:List WP,IR (w.map Jj)≤1:=λw=>by
  induction w with
  | nil=>show IR []≤1;rw[IR];omega
  | cons p w ih=>
   rw[Am,IR];have:Iw (Jj p)=1:=by unfold Jj;simp[Iw,IR]
   omega
 unfold K5;rw[Iw];have:=this w;omega
structure Dd(us ks:List (Addr×List WP)):Prop where
 sub:∀k∈ks,k∈us
 nd:(ks.map (·.2)).Nodup
 mem:∀w,w∈ks.map (·.2)↔w∈us.map (·.2)
 len:ks.length≤us.length
theorem Dd.nil:Dd [] []:=⟨λ_ h=>h,Ew,λ_=>Iff.rfl,Af _⟩
theorem Dd.put{us ks:List (Addr×List WP)}(h:Dd us ks)(x:Addr×List WP):Dd (us++[x]) (JD ks x.1 x.2):=by
 unfold JD;by_cases c:(ks.any λk=>decide (k.2=x.2))=true
 · rw[if_pos c];obtain⟨k,hk,e⟩:=Cq.mp c;have e:=of_decide_eq_true e;have hx:x.2∈us.map (·.2):=(h.mem _).mp (by rw[←e];exact Ba hk);refine⟨λk hk=>AF _ (h.sub k hk),h.nd,λw=>?_,by rw[Az];have:=h.len;omega⟩;rw[h.mem,Ar,AD];refine⟨.inl,λz=>z.elim id λz=>?_⟩;rw[Am,Bq,Ax] at z;rw[z];exact hx
 · rw[if_neg c];have nx:x.2 ∉ ks.map (·.2):=λhx=>by
    obtain⟨k,hk,e⟩:=AG.mp hx;exact c (Cq.mpr ⟨k,hk,decide_eq_true e⟩)
   refine⟨λk hk=>?_,?_,λw=>?_,by rw[Az,Az];have:=h.len;simp;omega⟩
   · rcases AD.mp hk with z | z
     · exact AF _ (h.sub k z)
     · exact Ag _ z
   · rw[Ar,Ck];refine⟨h.nd,by simp,λa ha b hb e=>?_⟩;rw[Am,Bq,Ax] at hb;rw[e,hb] at ha;exact nx ha
   · rw[Ar,Ar,AD,AD,h.mem]
theorem Zu{α:Type}(f:α→Bool)(l:List α):(l.filter f).isEmpty=!l.any f:=by rw[Bb];simp[List.isEmpty_iff,List.filter_eq_nil_iff]
def IZ(ks:List (Addr×List WP))(w:List WP):Bool:=!(ks.any λk=>IK k.2 w && !decide (k.2=w))
theorem Dd.top{ws ks:List (Addr×List WP)}(h:Dd ws ks):IsTop (ws.map (·.2)) ((ks.filter λk=>IZ ks k.2).map (·.2)):=by
 have:=WV h.nd h.mem (IZ ks) λw hw=>by
  unfold IZ;rw[De,List.any_eq_false];constructor
  · intro z o ho r;obtain⟨k,hk,rfl⟩:=AG.mp ho;have:=z k hk;rw[r] at this;simpa using this
  · intro z k hk;have:=z k.2 (Ba hk);cases r:IK k.2 w with
    | false=>simp
    | true=>simpa using this r
 rw[List.filter_map] at this;exact this
theorem Tv{M:Nat}{K:Ad}{sp:Sp}{t:Addr}{qs:List (Addr×List WP)}{Q:VK}(hn:qs.length≤M)(D:List WP→PD)(hW:WsAt H t qs)
 (hsp:∀x∈qs,∀H1,Same H H1→∀Q1:VK,(∀kv H2,Same H1 H2→Rep K H2 (D x.2) kv→Q1 kv H2)→sp [.ref x.1] H1 Q1 E0) (hf:O8 qs.length λi=>D (qs.getD i (0,[])).2)
 (hd:∀w,Iw (D w)≤20) (hok:∀w w',HR (D w) (D w')=true) (hlt:∀w w',HZ (D w) (D w')=Lk w w')
 (q:∀(r:Addr)(rs:List (Addr×List WP))(H':Hp),Same H H'→H r=none→rs.Perm qs→JH (rs.map (·.2))→H' r=some (.lst (rs.map λx:Addr×List WP=>V.ref x.1))→Q (.ref r) H'):Mg M K sp [.ref t] H Q:=by
 have lm:(qs.map λx=>V.ref x.1).length=qs.length:=Ab _;have O:KS.Ord λi j=>HZ (D (qs.getD i (0,[])).2) (D (qs.getD j (0,[])).2):=by have:=sto_ky.ord λi=>(qs.getD i (0,[])).2.map ky;simp only[hlt];exact this
 refine⟨t,_,λi=>D (qs.getD i (0,[])).2,rfl,SqL.of hW.at',by rw[lm];exact hn,?refs,?cons,?_,by rw[lm];exact hf,λi=>hd _,λi j _ _=>hok _ _,O,?_⟩
 case refs=> intro v hv;obtain⟨x,_,rfl⟩:=AG.mp hv;exact⟨_,rfl⟩
 case cons=>
  intro i j hi hj e;rw[lm] at hi hj;rw[Aj,Aj] at e;have ei:qs[i]?=some qs[i]:=by simp
  have ej:qs[j]?=some qs[j]:=by simp
  rw[ei,ej] at e;have ea:qs[i].1=qs[j].1:=by have:=A4 e;injection this
  have w1:=(hW.ok _ (Ak ei)).1;have w2:=(hW.ok _ (Ak ej)).1;rw[ea] at w1;have:=w1.inj w2;show D (qs.getD i (0,[])).2=D (qs.getD j (0,[])).2;rw[A7,A7,ei,ej];show D qs[i].2=D qs[j].2;rw[this]
 · intro i v hv H2 s2 Q1 hQ;rw[Aj] at hv;cases e1:qs[i]? with
   | none=>rw[e1] at hv;cases hv
   | some P1=>
    rw[e1] at hv;obtain rfl:V.ref P1.1=v:=A4 hv;have e2:qs.getD i (0,[])=P1:=by rw[A7,e1];rfl
    exact hsp P1 (Ak e1) H2 s2 Q1 λv' H' s' r'=>hQ v' H' s' (by show Rep K H' (D (qs.getD i (0,[])).2) v';rw[e2];exact r')
 · intro r p H' ok srt s2 nr e';rw[lm] at ok srt;have hsz:=ok.size;have em:(p.toList.map λi=>(qs.map λx=>V.ref x.1).getD i .non)=(p.toList.map λi=>qs.getD i (0,[])).map λx=>V.ref x.1:=by
    rw[Cd];refine FY λi hi=>?_;have hi':i<qs.length:=BJ.mp (ok.perm.mem_iff.mp hi);rw[XS (λx:Addr×List WP=>V.ref x.1) (0,[]) V.non qs hi'];rfl
   rw[em] at e';refine q r _ H' s2 nr (X5 (0,[]) ok) ?_ e';unfold JH;rw[List.pairwise_map,List.pairwise_iff_getElem];intro i j hi hj hij;simp only[Ab,A0] at hi hj;simp only[DW,Do];have h1:=srt i j hij (by omega);have k1:KS.K p i=p[i]:=by show p.getD i 0=_;simp[Array.getD,hi]
   have k2:KS.K p j=p[j]:=by show p.getD j 0=_;simp[Array.getD,hj]
   rw[k1,k2] at h1;exact(hlt _ _).symm.trans h1
def SB:Sp:=λvs H Q _=>∃(a d:Addr)(w:List WP)(ks:List (Addr×List WP)),vs=[.ref a,.ref d]∧WishAt H a w∧WOk w∧V8 H d ks∧(∀k∈ks,WOk k.2)∧∀H',Same H H'→Q (.bl (ks.any λk=>IK k.2 w && !decide (k.2=w))) H'
def TopAt(H:Hp)(r:Addr)(ws qs:List (Addr×List WP)):Prop:=H r=some (.lst (qs.map λx=>V.ref x.1))∧(∀x∈qs,x∈ws)∧IsTop (ws.map (·.2)) (qs.map (·.2))∧qs.length≤ws.length
def SA:Sp:=λvs H Q _=>∃(l:Addr)(ws:List (Addr×List WP)),vs=[.ref l]∧WsAt H l ws∧∀(r:Addr)(qs:List (Addr×List WP))(H':Hp),Same H H'→H r=none→TopAt H' r ws qs→Q (.ref r) H'
def RE:Sp:=λvs H Q _=>∃(a:Addr)(w:List WP)(f:Str),vs=[.ref a,.str f]∧WishAt H a w∧WOk w∧∀v H',Same H H'→(match IY w f with | none=>v= .non | some p=>∃t,v= .ref t∧H' t=some (.tup [eV p.1,eV p.2]))→Q v H'
def RB:Sp:=λvs H Q _=>∃(a b:Addr)(w w':List WP),vs=[.ref a,.ref b]∧WishAt H a w∧WishAt H b w'∧WOk w∧WOk w'∧∀H',Same H H'→Q (.bl (IK w w')) H'
def Sw(K:Ad):Sp:=λvs H Q _=>∃(a:Addr)(w:List WP),vs=[.ref a]∧WishAt H a w∧WOk w∧∀v H',Same H H'→Rep K H' (K5 w) v→Q v H'
theorem XJ{K:Ad}{H1 H':Hp}{g:Addr}(h:SqL K H a xs)(nb:H b=none)(ng:H g=none)(s1:Same H H1)(s:SameB b g H1 H'):SqL K H' a xs:=by
 have ne:∀o,H a=some o→a≠b∧a≠g:=λo e=>⟨λz=>(by rw[z,nb] at e;cases e),λz=>(by rw[z,ng] at e;cases e)⟩;rcases h with(h | ⟨o,h⟩) | h
 · exact .inl (.inl (s _ _ (s1 _ _ h) (ne _ h).1 (ne _ h).2))
 · exact .inl (.inr ⟨o,s _ _ (s1 _ _ h) (ne _ h).1 (ne _ h).2⟩)
 · exact .inr h
theorem Uz:∀ts:List Int,RepYs H (ts.map DY.int) (ts.map V.int)
 | []=>RepYs.nil
 | t::ts=>RepYs.cons (by rw[RepY]) (Uz ts)
def JG(c:Str×Int×List (Addr×List WP)):DY:= .tup [.str c.1,.int c.2.1,.lst ((c.2.2.map (·.2)).map KZ)]
theorem Wq{W:List Int}{x:Stand}(h:StAt H W x):RepY H (JG (I0 x)) (.ref x.a):=by refine Mh h.at' (RepYs.cons ?_ (RepYs.cons (by rw[RepY];rfl) (RepYs.cons h.ws.repY RepYs.nil))) (by simp);rw[RepY];exact⟨rfl,A2 h.name.eight (by decide)⟩
theorem Up{W:List Int}:∀xs:List Stand,(∀x∈xs,StAt H W x)→RepYs H ((xs.map I0).map JG) (xs.map λx=>V.ref x.a)
 | [],_=>RepYs.nil
 | x::xs,h=>RepYs.cons (Wq (h x Ah)) (Up xs λy hy=>h y (Ai _ hy))
def Lb(W:List Int)(cs:List (Str×Int×List (Addr×List WP))):DY:= .tup [.lst (W.map DY.int),.lst (cs.map JG)]
theorem SL{t l:Addr}{W:List Int}{xs:List Stand}(ht:H t=some (.tup [.ref a,.ref l]))(ha:WebAt H a W)(hl:StsAt H W l xs):RepY H (Lb W (xs.map I0)) (.ref t):=by
 refine Mh ht (RepYs.cons (OH ha.1 (Uz W) ?_) (RepYs.cons (OH hl.at' (Up xs hl.ok) ?_) RepYs.nil)) (by simp)
 · have:=ha.2.1;rw[Ab];omega
 · have:=hl.len;rw[Ab];omega
theorem Xg(c:Str×Int×List (Addr×List WP)):Iu (JG c)≤4:=by
 unfold JG;rw[Iu];have:=Pj (c.2.2.map (·.2));have:Jp [.str c.1,.int c.2.1,.lst ((c.2.2.map (·.2)).map KZ)]≤3:=Ln λd hd=>by
  simp only[As,AK,or_false] at hd;rcases hd with rfl | rfl | rfl
  · rw[Iu]<;>first | omega | simp
  · rw[Iu]<;>first | omega | simp
  · exact this
 omega
theorem Xc(W:List Int)(cs:List (Str×Int×List (Addr×List WP))):Iu (Lb W cs)≤6:=by
 unfold Lb;rw[Iu];have h1:Jp (W.map DY.int)≤1:=Ln λd hd=>by obtain⟨t,_,rfl⟩:=AG.mp hd;rw[Iu]<;>first | omega | simp
 have h2:Jp (cs.map JG)≤4:=Ln λd hd=>by obtain⟨t,_,rfl⟩:=AG.mp hd;exact Xg t
 have:Jp [.lst (W.map DY.int),.lst (cs.map JG)]≤5:=Ln λd hd=>by
  simp only[As,AK,or_false] at hd;rcases hd with rfl | rfl
  · rw[Iu];omega
  · rw[Iu];omega
 omega
def Jr(f:Int→Bool)(xs:List Stand):List (Addr×List WP):=(xs.filter λx=>f x.post).flatMap (·.ws)
theorem Zo{f:Int→Bool}{xs:List Stand}{x:Stand}(e:xs[i]?=some x):Jr f (xs.take (i+1))=Jr f (xs.take i)++(if f x.post=true then x.ws else []):=by
 unfold Jr;rw[Di,e,Bi,F_];congr 1;show(([x]:List Stand).filter _).flatMap _=_;by_cases h:f x.post=true
 · rw[if_pos h,DG (by exact h)];simp
 · rw[if_neg h,DH (by exact h)];rfl
theorem OW:∀xs:List Stand,(∀x∈xs,x.ws.length≤10)→(xs.flatMap (·.ws)).length≤10*xs.length
 | [],_=>by simp
 | x::xs,h=>by rw[EI,Az,A8];have h1:=h x Ah;have h2:=OW xs λq hq=>h q (Ai _ hq);omega
theorem Ui{f:Int→Bool}{xs:List Stand}(h:∀x∈xs,x.ws.length≤10):(Jr f xs).length≤10*xs.length:=by unfold Jr;have h1:=OW (xs.filter λx=>f x.post) λx hx=>h x (BB.mp hx).1;have h2:=AE (λx:Stand=>f x.post) xs;omega
theorem Uj{f:Int→Bool}{xs:List Stand}{y:Addr×List WP}(h:y∈Jr f xs):∃x∈xs,y∈x.ws:=by unfold Jr at h;obtain⟨x,hx,hy⟩:=List.mem_flatMap.mp h;exact⟨x,(BB.mp hx).1,hy⟩
theorem Xs{f g:Int→Bool}{xs ys:List Stand}(h:ys.map I0=xs.map I0)(hf:∀x∈xs,f x.post=g x.post):Jr f ys=Jr g xs:=by
 induction xs generalizing ys with
 | nil=>cases ys with
  | nil=>rfl
  | cons y ys=>cases h
 | cons x xs ih=>
  cases ys with
  | nil=>cases h
  | cons y ys=>
   rw[Am,Am,Dv] at h;have e1:y.post=x.post:=congrArg (λc=>c.2.1) h.1;have e2:y.ws=x.ws:=congrArg (λc=>c.2.2) h.1;have e3:=hf x Ah;have:=ih h.2 λz hz=>hf z (Ai _ hz);unfold Jr at this ⊢;rw[←e1] at e3;by_cases c:f y.post=true
   · rw[DG (by exact c),DG (by rw[←e1,←e3];exact c),EI,EI,e2,this]
   · rw[DH (by exact c),DH (by rw[←e1,←e3];exact c),this]
theorem WsAt.wants{W:List Int}{l r:Addr}{xs:List Stand}{f:Int→Bool}(h:StsAt H W l xs)(e:H r=some (.lst ((Jr f xs).map λx=>V.ref x.1))):WsAt H r (Jr f xs):=
 ⟨e,λy hy=>by
  obtain⟨x,hx,hy'⟩:=Uj hy;exact(h.ok x hx).ws.ok y hy',by
  have:=Ui (f:=f) λx hx=>(h.ok x hx).few;have:=h.len;omega⟩
theorem XZ{K:Ad}{p:Addr}{Q:VK}{js:IC}{wi1:TI}{te:TE}{W:List Int}(qs:List Stand)(hq:SqL K H a (qs.map λq=>V.ref q.l))(hp:H p=none)(hσ:Jf js σ=[none,none])
 (hn:qs.length≤30) (hw:∀q∈qs,StAt H W q)
 (hi:∀q∈qs,∀(y:Option V)(H':Hp)(R:It→Hp→Prop),(∃xs,SqL K H' q.l xs)→R (Ku K q.l) H'→wi1 [some (.ref q.l),y] H' R)
 (he:∀(u:Option V)(v:V)(H':Hp)(R:VK),R v H'→te [u,some v] H' R)
 (hQ:∀(H':Hp),Same H H'→H' p=some (.lst ((qs.flatMap (·.ws)).map λz=>V.ref z.1))→Q (.ref p) H'):
 O9 (Ku K a) p js (JS 0) Km wi1 (JS 1) Km te σ H Q:=by
 have s0:=HN hp (.lst []);have lq:(qs.map λq=>V.ref q.l).length=qs.length:=Ab _;refine⟨λi m σ' ys H'=>m=qs.length - i∧i≤qs.length∧(∃y0 y1,σ'=[y0,y1])∧Same H H'∧H' p=some (.lst ys)∧ys=((qs.take i).flatMap (·.ws)).map (λz=>V.ref z.1),⟨qs.length,by simp,AC _,⟨none,none,hσ⟩,s0,HH,rfl⟩,?_⟩;rintro i m σ' ys H1 ⟨rfl,hi1,⟨y0,y1,rfl⟩,s1,e1,rfl⟩;refine⟨e1,?_⟩;by_cases hlt:i<qs.length
 · right
   have eq:qs[i]?=some qs[i]:=by simp
   have hx:(qs.map λq=>V.ref q.l)[i]?=some (V.ref qs[i].l):=by rw[Aj,eq];rfl
   have hm:=Ak eq;generalize qs[i]=q at*;refine⟨⟨_,_,s1.seq hq,hx⟩,?_⟩;rintro x H2 ⟨rfl,hx2⟩;have:some (V.ref q.l)=some x:=hx.symm.trans (hx2 _ (s1.seq hq));cases this;refine Tl ?_;have sq:=(hw q hm).ws.at';refine hi q hm y1 H2 _ ⟨_,SqL.of (s1 _ _ sq)⟩ ?_;refine⟨λj m1 σ3 zs' H5=>m1=q.ws.length - j∧j≤q.ws.length∧(∃y1,σ3=[some (.ref q.l),y1])∧Same H H5∧H5 p=some (.lst zs')∧zs'=((qs.take i).flatMap (·.ws)++q.ws.take j).map (λz=>V.ref z.1),⟨q.ws.length,by simp,AC _,⟨_,rfl⟩,s1,e1,by simp⟩,?_⟩;rintro j m1 σ3 zs' H5 ⟨rfl,hj,⟨y1',rfl⟩,s5,e5,rfl⟩;refine⟨e5,?_⟩;have b5:=s5 _ _ sq;by_cases hjl:j<q.ws.length
   · right
     have er:q.ws[j]?=some q.ws[j]:=by simp
     have hy:(q.ws.map λx=>V.ref x.1)[j]?=some (V.ref q.ws[j].1):=by rw[Aj,er];rfl
     refine⟨⟨_,_,SqL.of b5,hy⟩,?_,?_⟩
     · have h1:=OW (qs.take i) λx hx=>(hw x (CP hx)).few;have h2:=(hw q hm).few;rw[AA] at h1;rw[Ab,Az,AA];exact IB (by omega)
     rintro x H6 ⟨rfl,hx6⟩;have:some (V.ref q.ws[j].1)=some x:=hy.symm.trans (hx6 _ (SqL.of b5));cases this;refine Tl ?_;refine he _ _ _ _ ⟨e5,q.ws.length - (j+1),by omega,rfl,hjl,⟨_,rfl⟩,Jh s5 hp,HH,?_⟩;rw[J0 er,←BV,Ar (l₂:=[q.ws[j]])];rfl
   · left
     have e:j=q.ws.length:=by omega
     subst e;refine⟨⟨_,SqL.of b5,by rw[Ab];exact Af _⟩,qs.length - (i+1),by omega,rfl,hlt,⟨_,_,rfl⟩,s5,e5,?_⟩;rw[Bd,J0 eq,F_];simp
 · left
   have e:i=qs.length:=by omega
   subst e;refine⟨⟨_,s1.seq hq,by rw[lq];exact Af _⟩,hQ H1 s1 ?_⟩;rw[e1,Bd]
def SR:Sp:=λvs H Q _=>∃(a l:Addr)(W:List Int)(xs:List Stand)(p q:Int),vs=[.ref a,.ref l,.int p,.int q]∧WebAt H a W∧StsAt H W l xs∧WB.Post W p∧WB.Post W q∧
 ∀(r:Addr)(H':Hp),Same H H'→H r=none→WsAt H' r (Jr (λx=>WB.has (WB.wayB W x p) q) xs)→Q (.ref r) H'
def TV:Sp:=λvs H Q _=>∃(a:Addr)(W:List Int)(p q:Int),vs=[.ref a,.int p,.int q]∧WebAt H a W∧WB.Post W p∧WB.Post W q∧q∈WB.roads W p∧
 ∀(r:Addr)(F:List Int)(H':Hp),Same H H'→H r=none→H' r=some (.lst (F.map V.int))→(∀x,x∈F↔x∈WB.sideL W p q)→F.length≤24→Q (.ref r) H'
def Ub:Sp:=λvs H Q _=>∃(l c:Addr)(W:List Int)(xs:List Stand)(F:List Int),vs=[.ref l,.ref c]∧StsAt H W l xs∧H c=some (.lst (F.map V.int))∧
 ∀(r:Addr)(H':Hp),Same H H'→H r=none→WsAt H' r (Jr (WB.has F) xs)→Q (.ref r) H'
theorem XN{W F:List Int}{p q x:Int}(h:∀x,x∈F↔x∈WB.sideL W p q)(hx:WB.Post W x):WB.has (WB.wayB W x p) q=WB.has F x:=by rw[Bb,WB.has_iff,WB.has_iff,h,WB.side_mem];exact⟨λz=>⟨hx,z⟩,λz=>z.2⟩
def QL(ws:List (Addr×List WP)):Prop:=∃pool:List (List WP),pool.length≤63∧∀x∈ws,x.2∈pool
theorem SF{α:Type}:∀(l m:List α),l.Nodup→(∀x∈l,x∈m)→l.length≤m.length
 | [],m,_,_=>AC _
 | x::l,m,nd,h=>by
  obtain⟨a,b,e⟩:=E4 (h x Ah);have nd:=BC.mp nd;have:=SF l (a++b) nd.2 λy hy=>by
   have:=h y (Ai _ hy);rw[e] at this;rcases AD.mp this with z | z
   · exact AF _ z
   · rcases As.mp z with rfl | z
     · exact absurd hy nd.1
     · exact Ag _ z
  rw[e,Az,A8,A8];rw[Az] at this;omega
theorem TopAt.few{r:Addr}{ws qs:List (Addr×List WP)}(h:TopAt H r ws qs)(f:QL ws):qs.length≤63:=by
 obtain⟨pool,h1,h2⟩:=f;have:=SF (qs.map (·.2)) pool h.2.2.1.nd λw hw=>by obtain⟨x,hx,rfl⟩:=AG.mp hw;exact h2 x (h.2.1 x hx)
 rw[Ab] at this;omega
def Rj:Sp:=λvs H Q _=>∃(l:Addr)(ws:List (Addr×List WP)),vs=[.ref l]∧WsAt H l ws∧QL ws∧∀(r:Addr)(qs:List (Addr×List WP))(H':Hp),Same H H'→H r=none→TopAt H' r ws qs→JH (qs.map (·.2))→Q (.ref r) H'
def RD:Sp:=λvs H Q _=>∃(l:Addr)(ws:List (Addr×List WP)),vs=[.ref l]∧WsAt H l ws∧ws.length≤63∧∀(r:Addr)(rs:List (Addr×List WP))(H':Hp),Same H H'→H r=none→H' r=some (.lst (rs.map λx=>V.ref x.1))→rs.Perm ws→JH (rs.map (·.2))→Q (.ref r) H'
def FewS(xs:List Stand):Prop:=∃pool:List (List WP),pool.length≤63∧∀x∈xs,∀y∈x.ws,y.2∈pool
theorem FewS.wants{f:Int→Bool}{xs:List Stand}(h:FewS xs):QL (Jr f xs):=by obtain⟨pool,h1,h2⟩:=h;exact⟨pool,h1,λy hy=>by obtain⟨x,hx,hy⟩:=Uj hy;exact h2 x hx y hy⟩
theorem FewS.keep{xs ys:List Stand}(h:FewS xs)(e:ys.map I0=xs.map I0):FewS ys:=by
 obtain⟨pool,h1,h2⟩:=h;refine⟨pool,h1,λy hy z hz=>?_⟩;have:I0 y∈xs.map I0:=by rw[←e];exact Ba hy
 obtain⟨x,hx,ex⟩:=AG.mp this;have e2:x.ws=y.ws:=congrArg (λc=>c.2.2) ex;exact h2 x hx z (by rw[e2];exact hz)
def Rh:Sp:=λvs H Q _=>∃(a l:Addr)(W:List Int)(xs:List Stand)(p q:Int),vs=[.ref a,.ref l,.int p,.int q]∧WebAt H a W∧StsAt H W l xs∧FewS xs∧WB.Post W p∧WB.Post W q∧q∈WB.roads W p∧
 ∀(r:Addr)(qs:List (Addr×List WP))(H':Hp),Same H H'→H r=none→TopAt H' r (Jr (λx=>WB.has (WB.wayB W x p) q) xs) qs→JH (qs.map (·.2))→Q (.ref r) H'
def Ua:Sp:=λvs H Q _=>∃(b g l a c:Addr)(n many:Int)(W:List Int)(ws:List (Addr×List WP)),vs=[.ref b,.ref a,.ref c,.int many]∧Well H b g l n∧n≤10^5∧WebAt H a W∧a≠b∧a≠g∧WsAt H c ws∧c≠b∧c≠g∧(ws.map (·.2)).Nodup∧ws.length≤63∧1≤many∧many≤30∧
 ∀(r:Addr)(xs:List Stand)(H':Hp),H r=none→StsAt H' W r xs→FewS xs→(∀x∈xs,H x.l=none)→Well H' b g l (n+5000)→SameB b g H H'→Q (.ref r) H'
structure Bfs(W:List Int)(p q:Int)(fs:List Int):Prop where
 nd:fs.Nodup
 inS:∀x∈fs,x∈WB.sideL W p q
 has:q∈fs
theorem Bfs.len{W:List Int}(w:WB.Web W){p q:Int}{fs:List Int}(h:Bfs W p q fs):fs.length≤24:=by
 have:=WB.nodup_len (W.length+1) fs h.nd λx hx=>by obtain⟨⟨h1,h2⟩,_⟩:=WB.side_mem.mp (h.inS x hx);exact⟨h1,by omega⟩
 have:=w.1;omega
theorem Bfs.put{W:List Int}{p q y:Int}{fs:List Int}(h:Bfs W p q fs)(hn:y ∉ fs)(hy:y∈WB.sideL W p q):Bfs W p q (fs++[y]):=
 ⟨by
  rw[Ck];refine⟨h.nd,by simp,λa ha b hb e=>?_⟩;rw[Ax.mp hb] at e;exact hn (e ▸ ha),λx hx=>by
  rcases AD.mp hx with z | z
  · exact h.inS x z
  · rw[Ax.mp z];exact hy,AF _ h.has⟩
theorem Bfs.done{W:List Int}(w:WB.Web W){p q:Int}(hp:WB.Post W p)(hq:WB.Post W q)(ha:WB.Adj W p q){fs:List Int}(h:Bfs W p q fs)(hc:∀x∈fs,∀y∈WB.roads W x,y=p∨y∈fs):∀x,x∈fs↔x∈WB.sideL W p q:=
 λx=>⟨h.inS x,WB.side_all w hp hq ha h.has hc x⟩
end L2
set_option maxHeartbeats 4000000
namespace K61
open PySem PySem.Spec PyProof.Rows L2
theorem Iy{α:Type}{l:List (Addr×α)}{x:V}(h:(l.map λy=>V.ref y.1)[i]?=some x):∃y,l[i]?=some y∧x=V.ref y.1:=by
 rw[Aj] at h;cases e:l[i]? with
 | none=>rw[e] at h;cases h
 | some y=>rw[e] at h;exact⟨y,rfl,(A4 h).symm⟩
def top(i:Nat):Stmt:=PySem.Challenge.pw_newsways_k61_known_at_rest.main.body.getD i (.Pass ⟨0,0,0,0⟩)
abbrev Pp:Stmt:=top 6
abbrev OZ:Stmt:=top 7
abbrev Ps:Stmt:=top 8
abbrev PV:Stmt:=top 9
abbrev NJ:Stmt:=top 12
abbrev PR:Stmt:=top 13
abbrev NS:Stmt:=top 14
abbrev NN:Stmt:=top 15
abbrev NV:Stmt:=top 16
abbrev P_:Stmt:=top 17
abbrev Oa:Stmt:=top 18
abbrev PY:Stmt:=top 19
abbrev PZ:Stmt:=top 21
abbrev PU:Stmt:=top 22
abbrev Nx:Stmt:=top 20
abbrev Pu:Stmt:=top 24
abbrev Po:Stmt:=top 27
abbrev MC:Stmt:=top 26
abbrev PM:Stmt:=top 29
abbrev NH:Stmt:=top 32
abbrev P7:Stmt:=top 33
abbrev Pw:Stmt:=top 34
abbrev NY:Stmt:=top 36
abbrev PN:Stmt:=top 35
abbrev PL:Stmt:=top 37
abbrev MD:Stmt:=top 38
abbrev Pn:Stmt:=top 43
abbrev MB:Stmt:=top 44
abbrev PQ:Stmt:=top 45
abbrev MG:Stmt:=top 46
abbrev PX:Stmt:=top 42
abbrev MF:Stmt:=top 48
abbrev PH:Stmt:=top 49
abbrev NK:Stmt:=top 50
abbrev Pz:Stmt:=top 51
abbrev Pq:Stmt:=top 52
abbrev Pr:Stmt:=top 53
abbrev PF:Stmt:=top 54
abbrev PJ:Stmt:=top 55
abbrev P4:Stmt:=top 56
abbrev P8:Stmt:=top 57
abbrev Py:Stmt:=top 58
abbrev PB:Stmt:=top 59
abbrev Mk:Stmt:=top 60
abbrev N_:Stmt:=top 61
abbrev P9:Stmt:=top 62
abbrev NW:Stmt:=top 63
abbrev NO:Stmt:=top 64
abbrev NL:Stmt:=top 65
abbrev Px:Stmt:=top 66
abbrev NX:Stmt:=top 67
abbrev P0:Stmt:=top 68
abbrev P3:Stmt:=top 69
abbrev Ob:Stmt:=top 70
abbrev L6:Stmt:=top 71
def OL(m:Nat):Sp:=λvs H Q _=>∃(v v':V)(d:DY),vs=[v,v']∧m≤9∧RepY H d v∧RepY H d v'∧Iu d≤m∧∀H',Same H H'→Q (.bl true) H'
def Qo:Sp:=λvs H Q _=>∃(a:Addr)(p:List PP),vs=[.ref a]∧M0 H a p∧POk p∧∀H',Same H H'→Q (.bl true) H'
def spPoints:Sp:=λvs H Q _=>∃(a t:Addr)(fs:List Str)(lo sz wide:Int),vs=[.ref a,.ref t,.int wide]∧H a=some (.lst (fs.map V.str))∧fs.length≤3∧(∀f∈fs,FieldOk f)∧fs.Pairwise Jy∧H t=some (.tup [.int lo,.int sz])∧1≤sz∧sz≤10^10∧1≤wide∧wide≤9∧
 ∀(r:Addr)(qs:List (Addr×List PP))(H':Hp),Same H H'→H' r=some (.lst (qs.map λq=>V.ref q.1))→qs.length≤8000→(∀q∈qs,M0 H' q.1 q.2∧POk q.2)→Q (.ref r) H'
def Qp:Sp:=λvs H Q _=>∃(a l c:Addr)(w:List WP)(os:List (Addr×List WP))(p:List PP),vs=[.ref a,.ref l,.ref c]∧WishAt H a w∧WsAt H l os∧M0 H c p∧POk p∧∀H',Same H H'→Q (.bl (Ro w p && os.all λo=>!Ro o.2 p)) H'
def La(p:PP):DY:= .tup [.str p.1,.int p.2]
def K_(p:List PP):DY:= .tup (p.map La)
theorem Tx:∀ps:List (Addr×PP),(∀p∈ps,H p.1=some (.tup [.str p.2.1,.int p.2.2]))→(∀p∈ps,p.2.1.length≤8)→RepYs H ((ps.map (·.2)).map La) (ps.map λp=>V.ref p.1)
 | [],_,_=>RepYs.nil
 | p::ps,h,hl=>by refine RepYs.cons ?_ (Tx ps (λx hx=>h x (Ai _ hx)) λx hx=>hl x (Ai _ hx));refine Mh (h p Ah) (RepYs.cons ?_ (RepYs.cons (by rw[RepY]) RepYs.nil)) (by simp);rw[RepY];exact⟨rfl,A2 (hl p Ah) (by decide)⟩
theorem Wp{p:List PP}(h:M0 H a p)(ok:POk p):RepY H (K_ p) (.ref a):=by obtain⟨ps,rfl,e,f⟩:=h;refine Mh e (Tx ps f λp hp=>?_) (by have:=ok.len;rw[Ab] at*;omega);exact(ok.ok p.2 (Ba hp)).eight
theorem Xe(p:List PP):Iu (K_ p)≤2:=by
 unfold K_;rw[Iu];have:Jp (p.map La)≤1:=Ln λd hd=>by obtain⟨p,_,rfl⟩:=AG.mp hd;unfold La;simp only[Iu,Jp];omega
 omega
def US:List (List WP)→DY
 | []=> .non
 | p::_=>K_ (Me p)
theorem Mn{v:V}{ps:List (List WP)}(h:V9 H v ps)(ok:∀p∈ps,WOk p):RepY H (US ps) v:=by
 cases ps with
 | nil=> have:v= .non:=h;subst this;show RepY H .non .non;rw[RepY]
 | cons p ps=> obtain⟨t,rfl,h⟩:=h;exact Wp h (YL (ok p Ah))
theorem LO(ps:List (List WP)):Iu (US ps)≤2:=by
 cases ps with
 | nil=>show Iu .non≤2;rw[Iu];omega;all_goals simp
 | cons p ps=>exact Xe _
section
variable{K:Ad}{mg:Str→Option Value}{base:Heap}
theorem Ic{N P:List Str}{sc:Scope}(h1:sc.kind= .function:=by rfl)(h2:sc.isCoroutine=false:=by rfl)(h3:sc.isGenerator=false:=by rfl)(h4:N.Nodup:=by decide+kernel)(h5:N.take P.length=P:=by rfl)(h6:∀x∈P,sc.names.lookup x=some .local∨sc.names.lookup x=some .cell:=by decide+kernel)(h7:∀y∈sc.names,y.2≠ .free:=by decide+kernel):FnScope N P sc:=⟨h1,h2,h3,h4,h5,h6,h7⟩
theorem ZD:FnScope ["thing"] ["thing"] (HQ Pp):=Ic
theorem YW:FnScope ["thing"] ["thing"] (HQ OZ):=Ic
theorem Ga:FnScope ["thing","low","high"] ["thing"] (HQ Ps):=Ic
theorem Gb:FnScope ["one","other","low","high","other_low","other_high","reaches_down","reaches_up"] ["one","other"] (HQ PV):=Ic
theorem ZC:FnScope ["thing"] ["thing"] (HQ NJ):=Ic
theorem Gc:FnScope ["thing","field","low","high"] ["thing"] (HQ PR):=Ic
theorem zdH:FnScope ["parts"] ["parts"] (HQ NS):=Ic
theorem Zj:FnScope ["thing"] ["thing"] (HQ NN):=Ic
theorem zeX:FnScope ["thing"] ["thing"] (HQ NV):=Ic
theorem zcD:FnScope ["thing"] ["thing"] (HQ P_):=Ic
theorem zc2:FnScope ["wish"] ["wish"] (HQ Oa):=Ic
theorem Gd:FnScope ["one","other_spans","field","low","high"] ["one","other_spans"] (HQ PY):=Ic
theorem zeu:FnScope ["low"] ["low"] (HQ PZ):=Ic
theorem zdW:FnScope ["high"] ["high"] (HQ PU):=Ic
theorem Wt:FnScope ["wish"] ["wish"] (HQ Nx):=Ic
theorem Zh:FnScope ["thing"] ["thing"] (HQ Pu):=Ic
theorem Ge:FnScope ["wish","others","spans","other"] ["wish","others"] (HQ Po):=Ic
theorem Gf:FnScope ["wishes","unlike"] ["wishes"] (HQ MC):=Ic
theorem zcP:FnScope ["wishes"] ["wishes"] (HQ PM):=Ic
theorem YX:FnScope ["thing"] ["thing"] (HQ NH):=Ic
theorem zfY:FnScope ["thing"] ["thing"] (HQ P7):=Ic
theorem Zi:FnScope ["web","thing"] ["web","thing"] (HQ Pw):=Ic
theorem Gg:FnScope ["web","p","back"] ["web","p"] (HQ NY):=Ic
theorem zdY:FnScope ["web","p","q"] ["web","p","q"] (HQ PN):=Ic
theorem Gh:FnScope ["web","p","posts"] ["web","p"] (HQ PL):=Ic
theorem Gi:FnScope ["web","p","q","back_from_p","back_from_q","ahead","behind","turn"] ["web","p","q"] (HQ MD):=Ic
theorem Gj:FnScope ["web","thing","hand","place","wishes"] ["web","thing"] (HQ Pn):=Ic
theorem zeY:FnScope ["web","thing"] ["web","thing"] (HQ MB):=Ic
theorem zdX:FnScope ["web","stands"] ["web","stands"] (HQ PQ):=Ic
theorem Gk:FnScope ["web","stands","p","q","beyond"] ["web","stands","p","q"] (HQ MG):=Ic
theorem zdG:FnScope ["web","stands","p","q"] ["web","stands","p","q"] (HQ PX):=Ic
theorem Gm:FnScope ["script","great","small","seed","number"] ["script"] (HQ MF):=Ic
theorem Gn:FnScope ["well","many","number","cell"] ["well","many"] (HQ PH):=Ic
theorem Go:FnScope ["well","most","letters"] ["well","most"] (HQ NK):=Ic
theorem Gp:FnScope ["well","many","letters","found","k","pick","first","letter","at","word"] ["well","many"] (HQ Pz):=Ic
theorem Gq:FnScope ["well","pick","sign","number"] ["well"] (HQ Pq):=Ic
theorem Gr:FnScope ["well","pick","size"] ["well"] (HQ Pr):=Ic
theorem Gs:FnScope ["well","grid","wide","pick","low","high"] ["well","grid","wide"] (HQ PF):=Ic
theorem Gu:FnScope ["well","names","grid","wide","parts","field","low","high"] ["well","names","grid","wide"] (HQ PJ):=Ic
theorem Gv:FnScope ["well","names","grid","wide","many","found","k","pick","wish","old","at"] ["well","names","grid","wide","many"] (HQ P4):=Ic
theorem Gw:FnScope ["wish","field","other","low","high"] ["wish","field"] (HQ P8):=Ic
theorem Gx:FnScope ["one","other","field","low","high","there"] ["one","other"] (HQ Py):=Ic
theorem Gy:FnScope ["wish","found","field","low","high"] ["wish"] (HQ PB):=Ic
theorem Gz:FnScope ["wishes","some","wish","top"] ["wishes"] (HQ Mk):=Ic
theorem U8:FnScope ["found","due"] ["found","due"] (HQ N_):=Ic
theorem G0:FnScope ["well","names","grid","wide","many","found","wish"] ["well","names","grid","wide","many"] (HQ P9):=Ic
theorem G1:FnScope ["well","row","left","many"] ["well","row"] (HQ NW):=Ic
theorem G2:FnScope ["well","most","pick","many"] ["well","most"] (HQ NO):=Ic
theorem G3:FnScope ["web","p","found"] ["web","p"] (HQ NL):=Ic
theorem G4:FnScope ["web","p","q","found","at","post"] ["web","p","q"] (HQ Px):=Ic
theorem G5:FnScope ["well","row","left"] ["well","row"] (HQ NX):=Ic
theorem G6:FnScope ["well","web","pool","many","found","hand"] ["well","web","pool","many"] (HQ P0):=Ic
theorem G7:FnScope ["stands","posts","found","hand","post","wishes"] ["stands","posts"] (HQ P3):=Ic
theorem zcQ:FnScope ["stands"] ["stands"] (HQ Ob):=Ic
theorem G8:FnScope ["script","well","large","web","names","grid","pool","stands","k","p","beside","q","due","handed","found"] ["script"] (HQ L6):=Ic
section
variable(P:AU)(w:World)(K:Ad)(mg:Str→Option Value)(base:Heap)
abbrev Γ0:=Ib P w K mg base 1 "is_whole" ["thing"] (SC K)
abbrev Γ1:=Ib P w K mg base 2 "is_end" ["thing"] (Q_ K)
abbrev Γ4:=Ib P w K mg base 1 "is_field" ["thing"] (N6)
abbrev Γ2:=Ib P w K mg base 3 "is_span" ["thing"] (SV K)
abbrev Γ6:=Ib P w K mg base 1 "fields_ascend" ["parts"] (SQ)
abbrev Γ5:=Ib P w K mg base 4 "is_wish_part" ["thing"] (U2)
abbrev Γ7:=Ib P w K mg base 5 "is_wish" ["thing"] (SW)
abbrev Γ8:=Ib P w K mg base 6 "are_wishes" ["thing"] (Su)
abbrev Γ3:=Ib P w K mg base 1 "span_reaches" ["one","other"] (Sz)
abbrev Γ12:=Ib P w K mg base 1 "rank_of_low" ["low"] (Rf)
abbrev Γ13:=Ib P w K mg base 1 "rank_of_high" ["high"] (Sy)
abbrev Γ10:=Ib P w K mg base 1 "spans_by_field" ["wish"] (T_)
abbrev Γ11:=Ib P w K mg base 2 "reaches_spans" ["one","other_spans"] (TZ)
abbrev Γ16:=Ib P w K mg base 3 "is_under" ["wish","others"] (SB)
abbrev Γ14:=Ib P w K mg base 2 "rank" ["wish"] (Rg K)
abbrev Γ19:=Ib P w K mg base 2 "is_web" ["thing"] (Sv)
abbrev Γ21:=Ib P w K mg base 2 "is_post" ["web","thing"] (SU)
abbrev Γ22:=Ib P w K mg base 1 "roads_from" ["web","p"] (NA)
abbrev Γ24:=Ib P w K mg base 1 "way_back" ["web","p"] (Uc)
abbrev Γ15:=Ib P w K mg base 2 "is_name" ["thing"] (N6)
abbrev Γ9:=Ib P w K mg base 7 "are_unlike_wishes" ["thing"] (SZ)
abbrev Γ26:=Ib P w K mg base 8 "is_stand" ["web","thing"] (TY)
abbrev Γ20:=Ib P w K mg base 3 "check_web" ["thing"] (SS)
abbrev Γ27:=Ib P w K mg base 9 "are_stands" ["web","thing"] (UA)
abbrev Γ25:=Ib P w K mg base 2 "way_between" ["web","p","q"] (Ra)
abbrev Γ28:=Ib P w K mg base 10 "check_stands" ["web","stands"] (UB)
abbrev Γ23:=Ib P w K mg base 3 "check_joined" ["web","p","q"] (TW)
abbrev Γ18:=Ib P w K mg base 5 "wishes_in_order" ["wishes"] (RD)
abbrev Γ17:=Ib P w K mg base 4 "greatest_of" ["wishes"] (SA)
abbrev Γ29:=Ib P w K mg base 3 "wishes_beyond" ["web","stands","p","q"] (SR)
abbrev Γ32:=Ib P w K mg base 1 "_law_take" ["well","many"] (Ri)
abbrev Γ33:=Ib P w K mg base 2 "_law_name" ["well","most"] (RC)
abbrev Γ35:=Ib P w K mg base 2 "_law_base" ["well"] (R8)
abbrev Γ37:=Ib P w K mg base 2 "_law_span" ["well","grid","wide"] (S9)
abbrev Γ38:=Ib P w K mg base 3 "_law_wish" ["well","names","grid","wide"] (SD)
abbrev Γ40:=Ib P w K mg base 1 "_law_part" ["wish","field"] (RE)
abbrev Γ42:=Ib P w K mg base 1 "_law_rank" ["wish"] (Sw K)
abbrev Γ41:=Ib P w K mg base 2 "_law_covers" ["one","other"] (RB)
abbrev Γ39:=Ib P w K mg base 4 "_law_wishes" ["well","names","grid","wide","many"] (Ud)
abbrev Γ48:=Ib P w K mg base 1 "_law_near" ["web","p"] (NA)
abbrev Γ50:=Ib P w K mg base 2 "_law_turned" ["well","row"] (SY)
abbrev Γ34:=Ib P w K mg base 3 "_law_fields" ["well","many"] (TX)
abbrev Γ46:=Ib P w K mg base 2 "_law_picked" ["well","row"] (SX)
abbrev Γ31:=Ib P w K mg base 1 "_law_well" ["script"] (Rl K)
abbrev Γ47:=Ib P w K mg base 2 "_law_web" ["well","most"] (Rk)
abbrev Γ36:=Ib P w K mg base 3 "_law_grid" ["well"] (R9)
abbrev Γ45:=Ib P w K mg base 5 "_law_pool" ["well","names","grid","wide","many"] (RF)
abbrev Γ51:=Ib P w K mg base 4 "_law_stands" ["well","web","pool","many"] (Ua)
abbrev Γ43:=Ib P w K mg base 4 "_law_greatest" ["wishes"] (Rj)
abbrev Γ30:=Ib P w K mg base 11 "known_at_rest" ["web","stands","p","q"] (Rh)
abbrev Γ52:=Ib P w K mg base 1 "_law_wanted" ["stands","posts"] (Ub)
abbrev Γ53:=Ib P w K mg base 1 "_law_stands_kept" ["stands"] (RA)
abbrev Γ44:=Ib P w K mg base 11 "_law_alike" ["found","due"] (O6 9 OL)
abbrev Γ49:=Ib P w K mg base 2 "_law_beyond" ["web","p","q"] (TV)
end
theorem zq0:0≤Aw:=by decide
theorem LW:1≤Aw:=by decide
theorem QN:4≤Aw:=by decide
theorem No:5≤Aw:=by decide
theorem zq6:6≤Aw:=by decide
theorem zq8:8≤Aw:=by decide
theorem Q4:A_ (["sign"]:List Str):=by decide+kernel
theorem Nb:A_ (["ahead","behind"]:List Str):=by decide+kernel
theorem Q3:A_ (["part"]:List Str):=by decide+kernel
theorem MU:A_ (["wish"]:List Str):=by decide+kernel
theorem JO:A_ (["field","low","high"]:List Str):=by decide+kernel
theorem Q2:A_ (["wish","unlike"]:List Str):=by decide+kernel
theorem MT:A_ (["at","post"]:List Str):=by decide+kernel
theorem MS:A_ (["at","post","p"]:List Str):=by decide+kernel
theorem Q0:A_ (["post","back_from_q"]:List Str):=by decide+kernel
theorem Qz:A_ (["post","back_from_p"]:List Str):=by decide+kernel
theorem Na:A_ (["stand","web"]:List Str):=by decide+kernel
theorem Kq:A_ (["hand","place","wishes"]:List Str):=by decide+kernel
theorem Kp:A_ (["hand","place","wishes","web","p","q"]:List Str):=by decide+kernel
theorem Lu:A_ (["wishes","wish"]:List Str):=by decide+kernel
theorem Ls:A_ (["cell"]:List Str):=by decide+kernel
theorem M_:A_ (["k","well","letters"]:List Str):=by decide+kernel
theorem MZ:A_ (["wish","some"]:List Str):=by decide+kernel
theorem MY:A_ (["one","wish"]:List Str):=by decide+kernel
theorem MX:A_ (["k","found","due"]:List Str):=by decide+kernel
theorem Lr:A_ (["k","well","left"]:List Str):=by decide+kernel
theorem MW:A_ (["place","well","pick"]:List Str):=by decide+kernel
theorem MV:A_ (["place","web","p"]:List Str):=by decide+kernel
theorem Ko:A_ (["hand","post","wishes"]:List Str):=by decide+kernel
theorem IJ:2≤Aw:=by decide
theorem Ms:3≤Aw:=by decide
variable{f:Addr}{fd:Bv}(B:Bl mg){tML':Tok}(qML':mg "MOST_LETTERS"=some (.int 8 tML')){tMR':Tok}(qMR':mg "MOST_ROADS"=some (.int 23 tMR')){tMH':Tok}(qMH':mg "MOST_HANDS"=some (.int 30 tMH')){tMW':Tok}(qMW':mg "MOST_WISHES"=some (.int 10 tMW'))
include B qML' qMR' qMH' qMW'
theorem Zy(F:Fun K "is_whole" "is_whole" Pp f fd)  :FnOk P w K mg base H_ 1 f fd ["thing"] (SC K):=by
 refine F.ok ZD (λvs H Q E h=>?_) (λcdv A outer s H vs Q E hr h=>?_)
 · obtain⟨v,t,rfl,hty,q⟩:=h;rfl
 obtain⟨v,t,rfl,hty,q⟩:=h;refine⟨_,(HM (HX (J7 (Ia (Jw (n:="")) rfl B.isinstance_ Jl (HB (pv 0) (HB (Jd (v:= .ty "int") rfl B.int_ Oz rfl) HC))) (Jv (Vy (Ia (Jw (n:="")) rfl B.isinstance_ Jl (HB (pv 0) (HB (Jd (v:= .ty "bool") rfl B.bool_ OD rfl) HC)))))))),?_⟩;cases hty
 all_goals first
  | exact⟨_,rfl,_,"int","int",true,rfl,.int _,rfl,_,rfl,HG ⟨_,rfl,_,"int","bool",false,rfl,.int _,rfl,_,rfl,q⟩⟩
  | exact⟨_,rfl,_,"bool","int",true,rfl,.bl _,rfl,_,rfl,HG ⟨_,rfl,_,"bool","bool",true,rfl,.bl _,rfl,_,rfl,q⟩⟩
  | exact⟨_,rfl,_,_,"int",false,rfl,(by first | exact .non | exact .str _ | exact .flt _ | (exact .lst (by assumption)) | (exact .frz (by assumption)) | (exact .tup (by assumption)) | (exact .dK (by assumption)) | (exact .dT (by assumption))),rfl,_,rfl,HE q⟩
theorem Yd(F:Fun K "is_end" "is_end" OZ f fd)(G9:Γ0 P w K mg base):FnOk P w K mg base H_ 2 f fd ["thing"] (Q_ K):=by
 refine F.ok YW (λvs H Q E h=>?_) (λcdv A outer s H vs Q E hr h=>?_)
 · obtain⟨v,t,rfl,hty,q⟩:=h;rfl
 obtain⟨v,t,rfl,hty,q⟩:=h;refine⟨_,(HM (HX (Mv (Kf (Jz (pv 0))) (Jv (HP G9 (hr.mono (by decide)) rfl (HB (pv 0) HC)))))),?_⟩;refine⟨_,rfl,_,rfl,?_⟩;cases hty
 case non=>exact HG q
 all_goals refine HE ?_
 case int i=>exact⟨_,rfl,_,_,rfl,.int _,q⟩
 all_goals exact⟨_,rfl,_,_,rfl,(by first | exact .bl _ | exact .str _ | exact .flt _ | (exact .lst (by assumption)) | (exact .frz (by assumption)) | (exact .tup (by assumption)) | (exact .dK (by assumption)) | (exact .dT (by assumption))),q⟩
theorem YF(F:Fun K "is_span" "is_span" Ps f fd)(GA:Γ1 P w K mg base):FnOk P w K mg base H_ 3 f fd ["thing"] (SV K):=by
 refine F.ok Ga (λvs H Q E h=>?_) (λcdv A outer s H vs Q E hr h=>?_)
 · obtain⟨v,t,rfl,hty,hp,q⟩:=h;rfl
 obtain⟨v,t,rfl,hty,hp,q⟩:=h;refine⟨_,(HK (Ip (PW.pt (JB (Ji (Ja (Ia (Jw (n:="")) rfl B.isinstance_ Jl (HB (pv 0) (HB (Jd (v:= .ty "tuple") rfl B.tuple_ Lo rfl) HC))))) (JJ (Ig L5 (Ia IN rfl B.len_ ID (HB (pv 0) HC)) HF (Ie _))))) (HM (HX IV)) Io)
  (HK (KC (pv 0) (JW rfl (Ih (HW (i:=1) Ga.nd rfl (Or.inl rfl)) (Ih (HW (i:=2) Ga.nd rfl (Or.inl rfl)) Jq))))
  (HK (Ip (PW.pt (JB (Ji (Ja (HP GA (hr.mono (by decide)) rfl (HB (pv 1) HC)))) (JJ (Ji (Ja (HP GA (hr.mono (by decide)) rfl (HB (pv 2) HC))))))) (HM (HX IV)) Io)
  (HM (HX (Mv (Kf (Jz (pv 1))) (Mv (Kf (Jz (pv 2))) (Jv (K2 Kw (pv 1) (pv 2) (Ie _)))))))))),?_⟩
 have q0:J_ H v=false→Q (.bl false) H:=λh=>by rw[←h];exact q
 cases hty
 case tup a xs e=>
  refine⟨_,rfl,_,"tuple","tuple",true,rfl,.tup e,rfl,_,rfl,HE ⟨_,rfl,a,_,rfl,.inr (SqT.of e),rfl,_,rfl,?_⟩⟩;by_cases hl:xs.length=2
  · match xs,hl with
    | [x,y],_=>
     refine HE ⟨_,rfl,a,_,rfl,SqT.of e,rfl,_,_,rfl,_,_,rfl,rfl,?_⟩;obtain⟨t1,t2,h1,h2⟩:=hp a x y rfl e;have es:J_ H (.ref a)=(J3 x && J3 y && Q7 x y):=by unfold J_;simp only[e]
     rw[es] at q;refine⟨_,rfl,_,_,rfl,h1,_,rfl,?_⟩;cases ex:J3 x with
     | false=> rw[ex] at q;exact HG q
     | true=>
      rw[ex] at q;refine HE ⟨_,rfl,_,_,rfl,h2,_,rfl,?_⟩;cases ey:J3 y with
      | false=> rw[ey] at q;exact HG q
      | true=>
       rw[ey] at q;refine HE ⟨_,rfl,_,rfl,?_⟩;cases x with
       | non=>exact HG q
       | int i=>
        refine HE ⟨_,rfl,_,rfl,?_⟩;cases y with
        | non=>exact HG q
        | int j=>exact HE ⟨_,rfl,_,rfl,_,_,rfl,rfl,q⟩
        | _=>exact absurd ey An
       | _=>exact absurd ex An
  · have es:J_ H (.ref a)=false:=by
     unfold J_;simp only[e]
     match xs,hl with
     | [],_=>rfl
     | [_],_=>rfl
     | [_,_],h=>exact absurd rfl h
     | _::_::_::_,_=>rfl
    have ed:(!decide (V.int ((xs.length:Nat):Int)=V.int 2))=true:=by
     have:¬V.int ((xs.length:Nat):Int)=V.int 2:=λz=>by injection z with z;omega
     rw[decide_eq_false this];rfl
    rw[es] at q;show if(!decide (V.int ((xs.length:Nat):Int)=V.int 2))=true then _ else _
    rw[ed];exact HG q
 case non=>exact⟨_,rfl,_,_,"tuple",false,rfl,.non,rfl,_,rfl,HG (q0 rfl)⟩
 case bl b=>exact⟨_,rfl,_,_,"tuple",false,rfl,(.bl b),rfl,_,rfl,HG (q0 rfl)⟩
 case int i=>exact⟨_,rfl,_,_,"tuple",false,rfl,(.int i),rfl,_,rfl,HG (q0 rfl)⟩
 case str x=>exact⟨_,rfl,_,_,"tuple",false,rfl,(.str x),rfl,_,rfl,HG (q0 rfl)⟩
 case flt x=>exact⟨_,rfl,_,_,"tuple",false,rfl,(.flt x),rfl,_,rfl,HG (q0 rfl)⟩
 case lst a xs e=>exact⟨_,rfl,_,_,"tuple",false,rfl,(.lst e),rfl,_,rfl,HG (q0 (by unfold J_;simp only[e]))⟩
 case frz a o xs e=>exact⟨_,rfl,_,_,"tuple",false,rfl,(.frz e),rfl,_,rfl,HG (q0 (by unfold J_;simp only[e]))⟩
 case dK a kvs e=>exact⟨_,rfl,_,_,"tuple",false,rfl,(.dK e),rfl,_,rfl,HG (q0 (by unfold J_;simp only[e]))⟩
 case dT a kvs e=>exact⟨_,rfl,_,_,"tuple",false,rfl,(.dT e),rfl,_,rfl,HG (q0 (by unfold J_;simp only[e]))⟩
theorem zd8(F:Fun K "span_reaches" "span_reaches" PV f fd)  :FnOk P w K mg base H_ 1 f fd ["one","other"] (Sz):=by
 refine F.ok Gb (λvs H Q E h=>?_) (λcdv A outer s H vs Q E hr h=>?_)
 · obtain⟨v,w,lo,hi,lo2,hi2,rfl,S1,S2,q⟩:=h;rfl
 obtain⟨v,w,lo,hi,lo2,hi2,rfl,S1,S2,q⟩:=h;refine⟨_,(HK (KC (pv 0) (JW rfl (Ih (HW (i:=2) Gb.nd rfl (Or.inl rfl)) (Ih (HW (i:=3) Gb.nd rfl (Or.inl rfl)) Jq))))
  (HK (KC (pv 1) (JW rfl (Ih (HW (i:=4) Gb.nd rfl (Or.inl rfl)) (Ih (HW (i:=5) Gb.nd rfl (Or.inl rfl)) Jq))))
  (HK (HY (i:=6) Gb.nd rfl (Or.inl rfl) (Mv (Kf (Jz (pv 2))) (Jv (J7 (Kf (M3 (pv 4))) (Jv (K2 Kw (pv 2) (pv 4) (Ie _)))))))
  (HK (HY (i:=7) Gb.nd rfl (Or.inl rfl) (Mv (Kf (Jz (pv 3))) (Jv (J7 (Kf (M3 (pv 5))) (Jv (K2 Kw (pv 5) (pv 3) (Ie _)))))))
  (HM (HX (J7 (pv 6) (Jv (pv 7))))))))),?_⟩
 obtain⟨a,rfl,e1⟩:=S1;obtain⟨c,rfl,e2⟩:=S2;refine⟨_,rfl,a,_,rfl,SqT.of e1,rfl,_,_,rfl,_,_,rfl,rfl,?_⟩;refine⟨_,rfl,c,_,rfl,SqT.of e2,rfl,_,_,rfl,_,_,rfl,rfl,?_⟩;cases lo<;>cases lo2<;>cases hi<;>cases hi2
 all_goals
  refine⟨_,rfl,_,rfl,?_⟩
  first
   | refine HG ?_
   | (refine HE ⟨_,rfl,_,rfl,?_⟩;first | refine HE ?_ | refine HG ⟨_,rfl,_,rfl,_,_,rfl,rfl,?_⟩)
  refine⟨_,rfl,_,rfl,?_⟩
  first
   | refine HG ?_
   | (refine HE ⟨_,rfl,_,rfl,?_⟩;first | refine HE ?_ | refine HG ⟨_,rfl,_,rfl,_,_,rfl,rfl,?_⟩)
  refine⟨_,rfl,_,rfl,?_⟩
  first
   | exact HE q
   | exact HG ⟨_,rfl,q⟩
   | exact Il (λh=>⟨_,rfl,by rw[Kg,K9,h] at q;exact q⟩) (λh=>by rw[Kg,K9,EJ.mpr h] at q;exact q)
theorem ZK(F:Fun K "is_field" "is_field" NJ f fd)  :FnOk P w K mg base H_ 1 f fd ["thing"] (N6):=by
 refine F.ok ZC (λvs H Q E h=>?_) (λcdv A outer s H vs Q E hr h=>?_)
 · obtain⟨x,rfl,F1,q⟩:=h;rfl
 obtain⟨x,rfl,F1,q⟩:=h;refine⟨_,(HK (Ip (PW.pt (JB (Ji (Ja (Ia (Jw (n:="")) rfl B.isinstance_ Jl (HB (pv 0) (HB (Jd (v:= .ty "str") rfl B.str_ O2 rfl) HC))))) (JJ (Ji (X8 Kw Kw HF (Ia UE rfl B.len_ ID (HB (pv 0) HC)) (M4 (v:= .int 8) rfl qML' ⟨_,rfl⟩)))))) (HM (HX IV)) Io)
  (HM (HX (Ia (LD rfl) rfl B.all_ L9 (HB (J6 (N':=["sign"]) (js:=[none]) rfl (IQ (N:=["thing"]) (outer:=HQ NJ) (by decide+kernel)) (V1 (pv 0)) (λ_ _ _ _ _=>(HW (i:=0) Q4 rfl (Or.inl rfl))) (λ_ _ _ _ _=>Jx) (λ_ _ _ _ _=>(Pe TQ TQ Mz (pv 0) Mz))) HC))))),?_⟩
 have l1:(1:Int)≤(x.length:Int):=by have:=F1.one;omega
 have l8:(x.length:Int)≤8:=by have:=F1.eight;omega
 refine⟨_,rfl,_,"str","str",true,rfl,.str x,rfl,_,rfl,HE ⟨_,rfl,x,rfl,L7 (by have:=F1.eight;omega),_,_,rfl,rfl,_,rfl,?_⟩⟩;rw[decide_eq_true l1];refine HG ⟨_,_,rfl,rfl,_,rfl,?_⟩;rw[decide_eq_true l8];refine HE ⟨_,rfl,x,rfl,λp hp=>?_⟩;have s0:=HN hp (.lst []);have sl:(L2.signs x).length=x.length:=by unfold L2.signs;rw[Ab,A0];rfl
 refine Vo (xs:=L2.signs x) (λi σ' ys H'=>(∃v,σ'=[v])∧Same H H'∧H' p=some (.lst ys)∧ys=AH i (V.bl true)) ⟨⟨none,rfl⟩,s0,HH,rfl⟩ ?_ ?_ ?_
 · rintro i σ' ys H' hi ⟨_,_,h1,h2⟩;refine⟨h1,?_⟩;rw[h2,By];have:=F1.eight;exact IB (by omega)
 · rintro i y σ' ys H' N hy ⟨⟨v,rfl⟩,s,h1,h2⟩ hN;unfold L2.signs at hy;rw[Aj] at hy;cases hc:x.cps.toList[i]? with
   | none=>rw[hc] at hy;cases hy
   | some c=>
    rw[hc] at hy;obtain rfl:V.str ⟨#[c]⟩=y:=A4 hy;have ok:=F1.all c (Ak hc);refine⟨_,rfl,_,_,rfl,rfl,_,rfl,?_⟩;rw[QD ok];refine HG ⟨_,_,rfl,rfl,?_⟩;rw[Q6 ok];refine⟨h1,hN _ _ _ ⟨⟨_,rfl⟩,?_,HH,by rw[h2];exact BR.symm⟩⟩;intro b o q';have:b≠p:=λz=>by rw[z,hp] at q';cases q'
    rw[HV this];exact s b o q'
 · rintro σ' ys H' ⟨_,s,h1,h2⟩;refine⟨p,AH (L2.signs x).length true,rfl,SqL.of (by rw[h1,h2,CD]),?_⟩;have:(AH (L2.signs x).length true).all id=true:=by simp
   rw[this];exact q H' s
theorem zeb(F:Fun K "is_wish_part" "is_wish_part" PR f fd)(GB:Γ4 P w K mg base)(GC:Γ2 P w K mg base):FnOk P w K mg base H_ 4 f fd ["thing"] (U2):=by
 refine F.ok Gc (λvs H Q E h=>?_) (λcdv A outer s H vs Q E hr h=>?_)
 · obtain⟨p,f,lo,hi,rfl,hp,F1,hle,q⟩:=h;rfl
 obtain⟨p,f,lo,hi,rfl,hp,F1,hle,q⟩:=h;refine⟨_,(HK (Ip (PW.pt (JB (Ji (Ja (Ia (Jw (n:="")) rfl B.isinstance_ Jl (HB (pv 0) (HB (Jd (v:= .ty "tuple") rfl B.tuple_ Lo rfl) HC))))) (JJ (Ig L5 (Ia IN rfl B.len_ ID (HB (pv 0) HC)) HF (Ie _))))) (HM (HX IV)) Io)
  (HK (KC (pv 0) (JW rfl (Ih (HW (i:=1) Gc.nd rfl (Or.inl rfl)) (Ih (HW (i:=2) Gc.nd rfl (Or.inl rfl)) (Ih (HW (i:=3) Gc.nd rfl (Or.inl rfl)) Jq)))))
  (HM (HX (J7 (HP GB (hr.mono (by decide)) rfl (HB (pv 1) HC)) (Jv (HP GC (hr.mono (by decide)) rfl (HB (I_ (HB (pv 2) (HB (pv 3) HC))) HC)))))))),?_⟩
 refine⟨_,rfl,_,"tuple","tuple",true,rfl,.tup hp,rfl,_,rfl,HE ⟨_,rfl,p,_,rfl,.inr (SqT.of hp),rfl,_,rfl,?_⟩⟩;refine HE ⟨_,rfl,p,_,rfl,SqT.of hp,rfl,_,_,rfl,_,_,rfl,_,_,rfl,rfl,?_⟩;refine⟨_,rfl,f,rfl,F1,λH1 s1=>⟨_,rfl,HG ⟨_,rfl,_,rfl,IJ,λt ht=>?_⟩⟩⟩;have S:SpanAt (HD H1 t (.tup [eV lo,eV hi])) (.ref t) lo hi:=⟨t,rfl,HH⟩;refine⟨.ref t,"tuple",rfl,S.ty.1,S.ty.2,?_⟩;rw[Ys S,hle];exact q _ (s1.trans (HN ht _))
theorem zdL(F:Fun K "fields_ascend" "fields_ascend" NS f fd)  :FnOk P w K mg base H_ 1 f fd ["parts"] (SQ):=by
 refine F.ok zdH (λvs H Q E h=>?_) (λcdv A outer s H vs Q E hr h=>?_)
 · obtain⟨a,ps,rfl,ha,hl,hp,hlt,q⟩:=h;rfl
 obtain⟨a,ps,rfl,ha,hl,hp,hlt,q⟩:=h;refine⟨_,(HM (HX (Ia (LD rfl) rfl B.all_ L9 (HB (J6 (N':=["ahead","behind"]) (js:=[none,none]) rfl (IQ (N:=["parts"]) (outer:=HQ NS) (by decide+kernel)) (V2 rfl B.zip_ (HB (pv 0) (HB (KH Ss (pv 0) (KI HF) KA) HC))) (λ_ _ _ _ _=>(Ll K rfl (n:=2) rfl (Ih (HW (i:=0) Nb rfl (Or.inl rfl)) (Ih (HW (i:=1) Nb rfl (Or.inl rfl)) Jq)))) (λ_ _ _ _ _=>Jx) (λ_ _ _ _ _=>(K2 Yf (Ii (Se K rfl) (pv 0) HF (λ_ _=>rfl)) (Ii (Se K rfl) (pv 1) HF (λ_ _=>rfl)) (Ie _)))) HC)))),?_⟩;refine⟨_,rfl,_,rfl,_,rfl,?_⟩;dsimp only[SG];refine Wu (SqT.of ha) λp1 H1 s1 q1=>?_;refine⟨a,p1,rfl,⟨_,s1.seqT (SqT.of ha)⟩,⟨_,q1⟩,λp hp'=>?_⟩;have s0:=HN hp' (.lst []);have ld:((ps.map λp=>V.ref p.1).drop 1).length=ps.length - 1:=by rw[DV,Ab]
 refine Vq (n:=ps.length - 1) (xs:=ps.map λp=>V.ref p.1) (ys:=(ps.map λp=>V.ref p.1).drop 1) (by rw[Ab];omega) (by rw[ld];exact Af _) (.inr (by rw[ld];exact Af _))
  (λi σ' ys H'=>(∃v w,σ'=[v,w])∧Same H1 H'∧H' p=some (.lst ys)∧ys=AH i (V.bl true)) ⟨⟨none,none,rfl⟩,s0,HH,rfl⟩ ?_ ?_ ?_
 · rintro i σ' zs H' hi ⟨_,s,h1,h2⟩;refine⟨(s1.trans s).seqT (SqT.of ha),s.seqT q1,h1,?_⟩;rw[h2,By];exact IB (by omega)
 · rintro i x y σ' zs H' r N hx hy hr' ⟨⟨v,w',rfl⟩,s,h1,h2⟩ hN;rw[Aj] at hx;rw[E6,Aj,Nat.add_comm] at hy;cases e1:ps[i]? with
   | none=>rw[e1] at hx;cases hx
   | some P1=>
    cases e2:ps[i+1]? with
    | none=>rw[e2] at hy;cases hy
    | some P2=>
     rw[e1] at hx;rw[e2] at hy;obtain rfl:V.ref P1.1=x:=A4 hx;obtain rfl:V.ref P2.1=y:=A4 hy;have s3:=HN hr' (.tup [V.ref P1.1,V.ref P2.1]);have t3:=(s1.trans s).trans s3;have f1:=t3 _ _ (hp P1 (Ak e1));have f2:=t3 _ _ (hp P2 (Ak e2));refine⟨r,_,rfl,SqT.of HH,rfl,_,_,rfl,_,_,rfl,rfl,?_⟩;refine⟨_,rfl,P1.1,_,0,_,rfl,rfl,SqT.of f1,QF,_,rfl,P2.1,_,0,_,rfl,rfl,SqT.of f2,QF,_,_,rfl,rfl,?_⟩;rw[decide_eq_true (show P1.2.1.cps.toList<P2.2.1.cps.toList from hlt i P1 P2 e1 e2)];refine⟨s3 _ _ h1,hN _ _ _ ⟨⟨_,_,rfl⟩,?_,HH,by rw[h2];exact BR.symm⟩⟩;intro b o q';have:b≠p:=λz=>by rw[z,hp'] at q';cases q'
     rw[HV this];exact s3 _ _ (s b o q')
 · rintro σ' zs H' ⟨_,s,h1,h2⟩;refine⟨p,AH (ps.length - 1) true,rfl,SqL.of (by rw[h1,h2,CD]),?_⟩;have:(AH (ps.length - 1) true).all id=true:=by simp
   rw[this];exact q H' (s1.trans s)
theorem YG(F:Fun K "is_wish" "is_wish" NN f fd)(GD:Γ6 P w K mg base)(GE:Γ5 P w K mg base):FnOk P w K mg base H_ 5 f fd ["thing"] (SW):=by
 refine F.ok Zj (λvs H Q E h=>?_) (λcdv A outer s H vs Q E hr h=>?_)
 · obtain⟨a,w',rfl,hw,wok,q⟩:=h;rfl
 obtain⟨a,w',rfl,hw,wok,q⟩:=h;refine⟨_,(HK (Ip (Ji (Ja (Ia (Jw (n:="")) rfl B.isinstance_ Jl (HB (pv 0) (HB (Jd (v:= .ty "tuple") rfl B.tuple_ Lo rfl) HC))))) (HM (HX IV)) Io)
  (HM (HX (J7 (Ia (LD rfl) rfl B.all_ L9 (HB (J6 (N':=["part"]) (js:=[none]) rfl (IQ (N:=["thing"]) (outer:=HQ NN) (by decide+kernel)) (LC (pv 0)) (λ_ _ _ _ _=>(HW (i:=0) Q3 rfl (Or.inl rfl))) (λ_ _ _ _ _=>Jx) (λ_ _ _ _ _=>(HP GE (hr.mono (by decide)) rfl (HB (pv 0) HC)))) HC)) (Jv (HP GD (hr.mono (by decide)) rfl (HB (pv 0) HC))))))),?_⟩
 obtain⟨ps,rfl,hA,hP⟩:=hw;have ll:ps.length≤100:=by have:=wok.len;rw[Ab] at this;exact this
 refine⟨_,rfl,_,"tuple","tuple",true,rfl,.tup hA,rfl,_,rfl,HE ?_⟩;refine⟨_,rfl,a,rfl,⟨_,SqT.of hA⟩,λp hp=>?_⟩;refine Rv (xs:=ps.map λp=>V.ref p.1) (λi σ' ys H'=>(∃v,σ'=[v])∧Same H H'∧H' p=some (.lst ys)∧ys=AH i (V.bl true)) ⟨⟨none,rfl⟩,HN hp _,HH,rfl⟩ ?_ ?_ ?_
 · rintro i σ' ys H' hi ⟨_,s,h1,h2⟩;refine⟨s.seqT (SqT.of hA),h1,?_⟩;rw[h2,By];rw[Ab] at hi;exact IB (by omega)
 · rintro i x σ' ys H' N hx ⟨⟨v,rfl⟩,s,h1,h2⟩ hN;obtain⟨P1,e1,rfl⟩:=Iy hx;have hm:=Ak e1;obtain⟨o1,o2⟩:=wok.ok P1.2 (Ba hm);refine⟨_,rfl,P1.1,P1.2.1,P1.2.2.1,P1.2.2.2,rfl,s _ _ (hP P1 hm),o1,o2,λH2 s2=>?_⟩;refine⟨s2 _ _ h1,hN _ _ _ ⟨⟨_,rfl⟩,Jh (s.trans s2) hp,HH,by rw[h2];exact BR.symm⟩⟩
 · rintro σ' ys H' ⟨_,s,h1,h2⟩;refine⟨p,AH (ps.map λp=>V.ref p.1).length true,rfl,SqL.of (by rw[h1,h2,CD]),_,rfl,?_⟩;rw[show(AH (ps.map λp=>V.ref p.1).length true).all id=true by simp];refine HG ⟨_,rfl,a,ps.map (λp=>(p.1,p.2.1,[eV p.2.2.1,eV p.2.2.2])),rfl,?_,by rw[Ab];exact ll,?_,?_,λH2 s2=>q H2 (s.trans s2)⟩
   · rw[Cd];exact s _ _ hA
   · intro r hr;rw[AG] at hr;obtain⟨P1,hm,rfl⟩:=hr;exact s _ _ (hP P1 hm)
   · intro i r1 r2 h3 h4;rw[Aj] at h3 h4;cases e1:ps[i]? with
     | none=>rw[e1] at h3;cases h3
     | some P1=>
      cases e2:ps[i+1]? with
      | none=>rw[e2] at h4;cases h4
      | some P2=> rw[e1] at h3;rw[e2] at h4;obtain rfl:=A4 h3;obtain rfl:=A4 h4;have l2:=(Aq.mp e2).1;have:=Cu.mp wok.asc i (i+1) (by simp;omega) (by simp;omega) (by omega);simp only[DW] at this;rw[(Aq.mp e1).2,(Aq.mp e2).2] at this;exact this
theorem ZU(F:Fun K "are_wishes" "are_wishes" NV f fd)(GF:Γ7 P w K mg base):FnOk P w K mg base H_ 6 f fd ["thing"] (Su):=by
 refine F.ok zeX (λvs H Q E h=>?_) (λcdv A outer s H vs Q E hr h=>?_)
 · obtain⟨l,ws,rfl,hw,q⟩:=h;rfl
 obtain⟨l,ws,rfl,hw,q⟩:=h;refine⟨_,(HM (HX (J7 (Ia (Jw (n:="")) rfl B.isinstance_ Jl (HB (pv 0) (HB (Jd (v:= .ty "list") rfl B.list_ JY rfl) HC))) (Jv (Ia (LD rfl) rfl B.all_ L9 (HB (J6 (N':=["wish"]) (js:=[none]) rfl (IQ (N:=["thing"]) (outer:=HQ NV) (by decide+kernel)) (Jm (pv 0)) (λ_ _ _ _ _=>(HW (i:=0) MU rfl (Or.inl rfl))) (λ_ _ _ _ _=>Jx) (λ_ _ _ _ _=>(HP GF (hr.mono (by decide)) rfl (HB (pv 0) HC)))) HC)))))),?_⟩;have hA:=hw.at';refine⟨_,rfl,_,"list","list",true,rfl,.lst hA,rfl,_,rfl,HG ?_⟩;refine⟨_,rfl,l,rfl,⟨_,SqL.of hA⟩,λp hp=>?_⟩;refine LI (xs:=ws.map λx=>V.ref x.1) (λi σ' ys H'=>(∃v,σ'=[v])∧Same H H'∧H' p=some (.lst ys)∧ys=AH i (V.bl true)) ⟨⟨none,rfl⟩,HN hp _,HH,rfl⟩ ?_ ?_ ?_
 · rintro i σ' ys H' hi ⟨_,s,h1,h2⟩;refine⟨s.seq (SqL.of hA),h1,?_⟩;rw[h2,By];rw[Ab] at hi;have:=hw.len;exact IB (by omega)
 · rintro i x σ' ys H' N hx ⟨⟨v,rfl⟩,s,h1,h2⟩ hN;obtain⟨P1,e1,rfl⟩:=Iy hx;obtain⟨o1,o2⟩:=hw.ok P1 (Ak e1);refine⟨_,rfl,P1.1,P1.2,rfl,o1.same s,o2,λH2 s2=>?_⟩;refine⟨s2 _ _ h1,hN _ _ _ ⟨⟨_,rfl⟩,Jh (s.trans s2) hp,HH,by rw[h2];exact BR.symm⟩⟩
 · rintro σ' ys H' ⟨_,s,h1,h2⟩;refine⟨p,AH (ws.map λx=>V.ref x.1).length true,rfl,SqL.of (by rw[h1,h2,CD]),?_⟩;rw[show(AH (ws.map λx=>V.ref x.1).length true).all id=true by simp];exact q _ s
theorem zcF(F:Fun K "are_unlike_wishes" "are_unlike_wishes" P_ f fd)(GG:Γ8 P w K mg base):FnOk P w K mg base H_ 7 f fd ["thing"] (SZ):=by
 refine F.ok zcD (λvs H Q E h=>?_) (λcdv A outer s H vs Q E hr h=>?_)
 · obtain⟨l,ws,rfl,hw,nd,le,q⟩:=h;rfl
 obtain⟨l,ws,rfl,hw,nd,le,q⟩:=h;refine⟨_,(HM (HX (J7 (HP GG (hr.mono (by decide)) rfl (HB (pv 0) HC)) (Jv (K2 Jg (YJ (Kc hr) rfl (pv 0) rfl B.len_ rfl B.set_) (Ia IN rfl B.len_ ID (HB (pv 0) HC)) (Ie _)))))),?_⟩;refine⟨_,rfl,l,ws,rfl,hw,λH1 s1=>?_⟩;have hw1:=hw.same s1;refine⟨_,rfl,HG ?_⟩;refine⟨_,rfl,l,ws,rfl,hw1,nd,le,_,rfl,l,_,rfl,.inl (SqL.of hw1.at'),rfl,?_⟩;rw[Ab,decide_eq_true rfl];exact q H1 s1
theorem zdo(F:Fun K "spans_by_field" "spans_by_field" Oa f fd)  :FnOk P w K mg base H_ 1 f fd ["wish"] (T_):=by
 refine F.ok zc2 (λvs H Q E h=>?_) (λcdv A outer s H vs Q E hr h=>?_)
 · obtain⟨a,w',rfl,hw,wok,q⟩:=h;rfl
 obtain⟨a,w',rfl,hw,wok,q⟩:=h;refine⟨_,(HM (HX (Vj (N':=["field","low","high"]) (js:=[none,none,none]) rfl (IQ (N:=["wish"]) (outer:=HQ Oa) (by decide+kernel)) (LC (pv 0)) (λ_ _ _ _ _=>(Ll K rfl (n:=3) rfl (Ih (HW (i:=0) JO rfl (Or.inl rfl)) (Ih (HW (i:=1) JO rfl (Or.inl rfl)) (Ih (HW (i:=2) JO rfl (Or.inl rfl)) Jq))))) (λ_ _ _ _ _=>Jx) (λ_ _ _ _ _=>(pv 0)) (λ_ _ _ _ _=>(I_ (HB (pv 1) (HB (pv 2) HC))))))),?_⟩;obtain⟨ps,rfl,hA,hP⟩:=hw;have ll:ps.length≤100:=by have:=wok.len;rw[Ab] at this;exact this
 refine⟨_,rfl,a,rfl,⟨_,SqT.of hA⟩,λd hd=>?_⟩;refine VJ (xs:=ps.map λp=>V.ref p.1) (λi σ' kvs H'=>(∃v1 v2 v3,σ'=[v1,v2,v3])∧Same H H'∧H' d=some (.dK kvs)∧kvs.length≤i∧∀f:Str,match IY ((ps.map (·.2)).take i) f with
  | none=>Ik kvs (.inr f)=none
  | some s=>∃t,Ik kvs (.inr f)=some (.ref t)∧H' t=some (.tup [eV s.1,eV s.2])) ⟨⟨none,none,none,rfl⟩,HN hd _,HH,AC _,λf=>rfl⟩ ?_ ?_ ?_
 · rintro i σ' kvs H' hi ⟨_,s,h1,h2,_⟩;rw[Ab] at hi;exact⟨s.seqT (SqT.of hA),h1,IB (by omega)⟩
 · rintro i x σ' kvs H' N hx ⟨⟨v1,v2,v3,rfl⟩,s,h1,h2,h3⟩ hN;obtain⟨P1,e1,rfl⟩:=Iy hx;have hm:=Ak e1;refine⟨P1.1,_,rfl,SqT.of (s _ _ (hP P1 hm)),rfl,_,_,rfl,_,_,rfl,_,_,rfl,rfl,?_⟩;refine⟨_,rfl,_,rfl,_,rfl,IJ,λu hu=>?_⟩;have su:=HN hu (.tup [eV P1.2.2.1,eV P1.2.2.2]);have eu:(HD H' u (.tup [eV P1.2.2.1,eV P1.2.2.2])) u=some (.tup [eV P1.2.2.1,eV P1.2.2.2]):=HH;have h1':=su _ _ h1;generalize HD H' u (.tup [eV P1.2.2.1,eV P1.2.2.2])=H2 at*;have du:u≠d:=Mt eu h1' (by intro z;cases z);refine⟨Sum.inr P1.2.1,rfl,h1',hN _ _ _ ⟨⟨_,_,_,rfl⟩,Jh (s.trans su) hd,HH,?_,λf=>?_⟩⟩
   · have:=Ut kvs (Sum.inr P1.2.1:Iq) (V.ref u);omega
   · have ew:(ps.map (·.2))[i]?=some P1.2:=by rw[Aj,e1];rfl
     have fr:=wok.fresh ew;rw[J0 ew,ZE _ _ _ fr,Xo];by_cases hf:f=P1.2.1
     · subst hf;rw[if_pos rfl,if_pos rfl];exact⟨u,rfl,by rw[HV du];exact eu⟩
     · rw[if_neg hf,if_neg (λz=>hf (by injection z))];have:=h3 f;cases hs:IY ((ps.map (·.2)).take i) f with
       | none=>rw[hs] at this;exact this
       | some sp=> rw[hs] at this;obtain⟨t,t1,t2⟩:=this;exact⟨t,t1,by rw[HV (Mt (su _ _ t2) h1' (by intro z;cases z))];exact su _ _ t2⟩
 · rintro σ' kvs H' ⟨_,s,h1,h2,h3⟩;have et:(ps.map (·.2)).take (ps.map λp=>V.ref p.1).length=ps.map (·.2):=AO (by simp);refine q d H' s hd ⟨kvs,h1,by simpa using h2,λf=>?_⟩;have:=h3 f;rw[et] at this;exact this
theorem zdJ(F:Fun K "reaches_spans" "reaches_spans" PY f fd)(GH:Γ3 P w K mg base):FnOk P w K mg base H_ 2 f fd ["one","other_spans"] (TZ):=by
 refine F.ok Gd (λvs H Q E h=>?_) (λcdv A outer s H vs Q E hr h=>?_)
 · obtain⟨a,d,w',w2,rfl,hw,hd,q⟩:=h;rfl
 obtain⟨a,d,w',w2,rfl,hw,hd,q⟩:=h;refine⟨_,(HK (JC AT rfl (LC (pv 0)) (JW rfl (Ih (HW (i:=2) Gd.nd rfl (Or.inl rfl)) (Ih (HW (i:=3) Gd.nd rfl (Or.inl rfl)) (Ih (HW (i:=4) Gd.nd rfl (Or.inl rfl)) Jq)))) (HM (Ip (PW.pt (JB (JX (Yg (QW hr) (pv 2) (pv 1)) (by with_unfolding_all rfl)) (JJ (Ji (Ja (HP GH (hr.mono (by decide)) rfl (HB (I_ (HB (pv 3) (HB (pv 4) HC))) (HB (Wi (QW hr) (pv 1) (pv 2) (λ_ _=>rfl)) HC)))))))) (HM (HX IV)) Io)))
  (HM (HX IV))),?_⟩
 obtain⟨ps,rfl,hA,hP⟩:=hw;refine⟨_,rfl,a,rfl,⟨_,SqT.of hA⟩,N2 (K:=K) (a:=a) (xs:=ps.map λp=>V.ref p.1) (λi σ H'=>(∃y2 y3 y4,σ=[some (.ref a),some (.ref d),y2,y3,y4])∧Same H H'∧IK ((ps.map (·.2)).take i) w2=true) ⟨⟨none,none,none,rfl⟩,Same.refl _,rfl⟩ (λi σ H' _ ⟨_,s,_⟩=>s.seqT (SqT.of hA)) ?_ ?_⟩
 · rintro i x σ H' hx ⟨⟨y2,y3,y4,rfl⟩,s,hr'⟩;obtain⟨P1,e1,rfl⟩:=Iy hx;have hm:=Ak e1;have ew:(ps.map (·.2))[i]?=some P1.2:=by rw[Aj,e1];rfl
   obtain⟨kvs,k1,k2,k3⟩:=hd.same s;have kf:=k3 P1.2.1;refine⟨P1.1,_,rfl,SqT.of (s _ _ (hP P1 hm)),rfl,_,_,rfl,_,_,rfl,_,_,rfl,rfl,?_⟩;have out:Li w2 P1.2=false→IK (ps.map (·.2)) w2=false:=λh=>by unfold IK;rw[List.all_eq_false];exact⟨P1.2,Ba hm,by rw[h];exact An⟩
   refine⟨_,rfl,_,rfl,d,_,rfl,DGet.k (k:=Sum.inr P1.2.1) k1,_,rfl,?_⟩;cases hs:IY w2 P1.2.1 with
   | none=> rw[hs] at kf;rw[kf];refine HG ?_;have o1:=out (UH hs);rw[o1] at q;exact q _ s
   | some sp=>
    rw[hs] at kf;obtain⟨t,t1,t2⟩:=kf;rw[t1];refine HE ⟨_,rfl,_,rfl,IJ,λu hu=>?_⟩;have su:=HN hu (.tup [eV P1.2.2.1,eV P1.2.2.2]);have gd:DGet (HD H' u (.tup [eV P1.2.2.1,eV P1.2.2.2])) d (.str P1.2.1) (some (.ref t)):=by have:=DGet.k (k:=Sum.inr P1.2.1) (su _ _ k1);rw[t1] at this;exact this
    refine⟨_,rfl,_,rfl,d,_,rfl,gd,.ref u,.ref t,P1.2.2.1,P1.2.2.2,sp.1,sp.2,rfl,⟨u,rfl,HH⟩,⟨t,rfl,su _ _ t2⟩,_,rfl,?_⟩;cases hb:Kg P1.2.2.1 P1.2.2.2 sp.1 sp.2 with
    | false=> refine HG ?_;have o1:=out ((P6 hs).trans hb);rw[o1] at q;exact q _ (s.trans su)
    | true=> refine HE ⟨⟨_,_,_,rfl⟩,s.trans su,?_⟩;rw[J0 ew];unfold IK at*;rw[List.all_append,hr',Bool.true_and,C6,List.all_nil,P6 hs,hb];rfl
 · rintro σ H' ⟨_,s,hr'⟩;rw[show(ps.map (·.2)).take (ps.map λp=>V.ref p.1).length=ps.map (·.2) from AO (by simp)] at hr';rw[hr'] at q;exact q _ s
theorem zey(F:Fun K "rank_of_low" "rank_of_low" PZ f fd)  :FnOk P w K mg base H_ 1 f fd ["low"] (Rf):=by
 refine F.ok zeu (λvs H Q E h=>?_) (λcdv A outer s H vs Q E hr h=>?_)
 · obtain⟨o,rfl,q⟩:=h;rfl
 obtain⟨o,rfl,q⟩:=h;refine⟨_,(HM (HX (KG (JX (Jz (pv 0))) (I_ (HB HF (HB HF HC))) (I_ (HB HF (HB (pv 0) HC)))))),?_⟩;cases o with
 | none=>exact⟨_,rfl,_,rfl,HG ⟨IJ,λt ht=>q t _ (HN ht _) HH⟩⟩
 | some l=>exact⟨_,rfl,_,rfl,HE ⟨_,rfl,IJ,λt ht=>q t _ (HN ht _) HH⟩⟩
theorem zd9(F:Fun K "rank_of_high" "rank_of_high" PU f fd)  :FnOk P w K mg base H_ 1 f fd ["high"] (Sy):=by
 refine F.ok zdW (λvs H Q E h=>?_) (λcdv A outer s H vs Q E hr h=>?_)
 · obtain⟨o,rfl,q⟩:=h;rfl
 obtain⟨o,rfl,q⟩:=h;refine⟨_,(HM (HX (KG (JX (Jz (pv 0))) (I_ (HB HF (HB HF HC))) (I_ (HB HF (HB (pv 0) HC)))))),?_⟩;cases o with
 | none=>exact⟨_,rfl,_,rfl,HG ⟨IJ,λt ht=>q t _ (HN ht _) HH⟩⟩
 | some l=>exact⟨_,rfl,_,rfl,HE ⟨_,rfl,IJ,λt ht=>q t _ (HN ht _) HH⟩⟩
theorem We(F:Fun K "rank" "rank" Nx f fd)(GI:Γ12 P w K mg base)(GJ:Γ13 P w K mg base):FnOk P w K mg base H_ 2 f fd ["wish"] (Rg K):=by
 refine F.ok Wt (λvs H Q E h=>?_) (λcdv A outer s H vs Q E hr h=>?_)
 · obtain⟨a,w',rfl,hw,wok,q⟩:=h;rfl
 obtain⟨a,w',rfl,hw,wok,q⟩:=h;refine⟨_,(HM (HX (J6 (N':=["field","low","high"]) (js:=[none,none,none]) rfl (IQ (N:=["wish"]) (outer:=HQ Nx) (by decide+kernel)) (LC (pv 0)) (λ_ _ _ _ _=>(Ll K rfl (n:=3) rfl (Ih (HW (i:=0) JO rfl (Or.inl rfl)) (Ih (HW (i:=1) JO rfl (Or.inl rfl)) (Ih (HW (i:=2) JO rfl (Or.inl rfl)) Jq))))) (λ_ _ _ _ _=>Jx) (λ_ _ _ _ _=>(I_ (HB (pv 0) (HB (HP GI (hr.mono (by decide)) rfl (HB (pv 1) HC)) (HB (HP GJ (hr.mono (by decide)) rfl (HB (pv 2) HC)) HC)))))))),?_⟩;obtain⟨ps,rfl,hA,hP⟩:=hw;have ll:ps.length≤100:=by have:=wok.len;rw[Ab] at this;exact this
 refine⟨_,rfl,a,rfl,⟨_,SqT.of hA⟩,λp hp=>?_⟩;refine Rv (xs:=ps.map λp=>V.ref p.1) (λj σ' ys H2=>(∃v1 v2 v3,σ'=[v1,v2,v3])∧Same H H2∧H2 p=some (.lst ys)∧∃qs:List (Addr×Addr×Addr×WP),ys=qs.map (λq=>V.ref q.1)∧qs.map (·.2.2.2)=(ps.map (·.2)).take j∧∀q∈qs,RkAt H2 q) ⟨⟨none,none,none,rfl⟩,HN hp _,HH,[],rfl,rfl,λq hq=>by simp at hq⟩ ?_ ?_ ?_
 · rintro j σ' ys H2 hj ⟨_,s2,h1,qs,rfl,h3,_⟩;refine⟨s2.seqT (SqT.of hA),h1,?_⟩;have:=congrArg Db h3;rw[Ab,AA,Ab] at this;rw[Ab];exact IB (by omega)
 · rintro j y σ' ys H2 N hy ⟨⟨v1,v2,v3,rfl⟩,s2,h1,qs,rfl,h3,h4⟩ hN;obtain⟨P2,e2,rfl⟩:=Iy hy;have hm2:=Ak e2;have ep:(ps.map (·.2))[j]?=some P2.2:=by rw[Aj,e2];rfl
   refine⟨P2.1,_,rfl,SqT.of (s2 _ _ (hP P2 hm2)),rfl,_,_,rfl,_,_,rfl,_,_,rfl,rfl,?_⟩;refine⟨_,rfl,_,rfl,P2.2.2.1,rfl,λt1 H3 s3 e3=>?_⟩;refine⟨_,rfl,P2.2.2.2,rfl,λt2 H4 s4 e4=>?_⟩;refine⟨Ms,λt ht=>?_⟩;have st:=HN ht (.tup [V.str P2.2.1,.ref t1,.ref t2]);have s5:=(s3.trans s4).trans st;have h5:=s5 _ _ h1;have tl:=NI (o:= .lst (qs.map (λq=>V.ref q.1)++[V.ref t])) h5;refine⟨h5,hN _ _ _ ⟨⟨_,_,_,rfl⟩,Jh (s2.trans s5) hp,HH,qs++[(t,t1,t2,P2.2)],?_,?_,?_⟩⟩
   · rw[Ar];rfl
   · rw[Ar,h3,J0 ep];rfl
   · intro q hq;rcases AD.mp hq with z | z
     · exact(h4 q z).keep (s5.tups.trans tl)
     · rw[Ax.mp z];exact⟨tl _ _ HH,tl _ _ (st _ _ (s4 _ _ e3)),tl _ _ (st _ _ e4)⟩
 · rintro σ' ys H2 ⟨_,s2,h1,qs,rfl,h3,h4⟩;have et:(ps.map (·.2)).take (ps.map λp=>V.ref p.1).length=ps.map (·.2):=AO (by simp);rw[et] at h3;have:=V6 (K:=K) h1 h4;rw[h3] at this;exact q _ _ s2 this
theorem YD(F:Fun K "is_name" "is_name" Pu f fd)(GB:Γ4 P w K mg base):FnOk P w K mg base H_ 2 f fd ["thing"] (N6):=by
 refine F.ok Zh (λvs H Q E h=>?_) (λcdv A outer s H vs Q E hr h=>?_)
 · obtain⟨x,rfl,hx,q⟩:=h;rfl
 obtain⟨x,rfl,hx,q⟩:=h;refine⟨_,(HM (HX (HP GB (hr.mono (by decide)) rfl (HB (pv 0) HC)))),?_⟩;exact⟨_,rfl,x,rfl,hx,λH' s=>q H' s⟩
theorem Zx(F:Fun K "is_under" "is_under" Po f fd)(GK:Γ10 P w K mg base)(GL:Γ11 P w K mg base):FnOk P w K mg base H_ 3 f fd ["wish","others"] (SB):=by
 refine F.ok Ge (λvs H Q E h=>?_) (λcdv A outer s H vs Q E hr h=>?_)
 · obtain⟨a,d,w',ks,rfl,hw,wok,hd,kok,q⟩:=h;rfl
 obtain⟨a,d,w',ks,rfl,hw,wok,hd,kok,q⟩:=h;refine⟨_,(HK (HY (i:=2) Ge.nd rfl (Or.inl rfl) (HP GK (hr.mono (by decide)) rfl (HB (pv 0) HC)))
  (HK (JC AT rfl (R1 (pv 1)) (HW (i:=3) Ge.nd rfl (Or.inl rfl)) (HM (Ip (PW.pt (Ma (Ja (HP GL (hr.mono (by decide)) rfl (HB (pv 3) (HB (pv 2) HC)))) (Mf (Ig (Nv (Kc hr)) (pv 3) (pv 0) (Ie _))))) (HM (HX IV)) Io)))
  (HM (HX IV)))),?_⟩
 refine⟨_,rfl,a,w',rfl,hw,wok,λsd H1 s1 hsd D1=>?_⟩;obtain⟨⟨ep,ed⟩,hk⟩:=hd;refine⟨_,rfl,d,_,ep,rfl,s1 _ _ ed,WI (λi σ H'=>(∃y,σ=[some (.ref a),some (.ref d),some (.ref sd),y])∧Same H1 H'∧((ks.take i).any λk=>IK k.2 w' && !decide (k.2=w'))=false) ⟨⟨none,rfl⟩,Same.refl _,rfl⟩ (λi σ H' _ ⟨_,s,_⟩=>s _ _ (s1 _ _ ed)) ?_ ?_⟩
 · rintro i x σ H' hx ⟨⟨y,rfl⟩,s,hr'⟩;rw[Aj] at hx;cases e1:ks[i]? with
   | none=>rw[e1] at hx;cases hx
   | some K1=>
    rw[e1] at hx;obtain rfl:K1.1=x:=A4 hx;have hm:=Ak e1;have w1:=(hk K1 hm).same (s1.trans s);have step:(IK K1.2 w' && !decide (K1.2=w'))=false→((ks.take (i+1)).any λk=>IK k.2 w' && !decide (k.2=w'))=false:=λh=>by rw[J0 e1,List.any_append,hr',Bool.false_or,Co,List.any_nil,h];rfl
    refine⟨_,rfl,_,rfl,K1.1,sd,K1.2,w',rfl,w1,D1.same s,λH2 s2=>⟨_,rfl,?_⟩⟩;cases rc:IK K1.2 w' with
    | false=> refine HE ⟨⟨_,rfl⟩,s.trans s2,step ?_⟩;rw[rc];rfl
    | true=>
     refine HG ⟨_,rfl,_,rfl,dW K1.2,dW w',Lg (w1.same s2),Lg (hw.same (s1.trans (s.trans s2))),BO (Ny _) (by decide),?_⟩;rw[Nw];by_cases e:K1.2=w'
     · rw[decide_eq_true e];refine⟨_,rfl,HE ⟨⟨_,rfl⟩,s.trans s2,step ?_⟩⟩;rw[rc,decide_eq_true e];rfl
     · rw[decide_eq_false e];refine⟨_,rfl,HG ?_⟩;have:(ks.any λk=>IK k.2 w' && !decide (k.2=w'))=true:=Cq.mpr ⟨K1,hm,by rw[rc,decide_eq_false e];rfl⟩;rw[this] at q;exact q _ (s1.trans (s.trans s2))
 · rintro σ H' ⟨_,s,hr'⟩;rw[Ab,Bd] at hr';rw[hr'] at q;exact q _ (s1.trans s)
theorem zez(F:Fun K "greatest_of" "greatest_of" MC f fd)(GM:Γ16 P w K mg base):FnOk P w K mg base H_ 4 f fd ["wishes"] (SA):=by
 refine F.ok Gf (λvs H Q E h=>?_) (λcdv A outer s H vs Q E hr h=>?_)
 · obtain⟨l,ws,rfl,hw,q⟩:=h;rfl
 obtain⟨l,ws,rfl,hw,q⟩:=h;refine⟨_,(HK (HY (i:=1) Gf.nd rfl (Or.inr rfl) (Vw (Kc hr) (N':=["wish"]) (js:=[none]) rfl (IQ (N:=["wishes","unlike"]) (outer:=HQ MC) (by decide+kernel)) (Jm (pv 0)) (λ_ _ _ _ _=>(HW (i:=0) MU rfl (Or.inl rfl))) (λ_ _ _ _ _=>Jx) (λ_ _ _ _ _=>(pv 0)) (λ_ _ _ _ _=>IV)))
  (HM (HX (J6 (N':=["wish","unlike"]) (js:=[none,some 1]) rfl (IQ (N:=["wishes","unlike"]) (outer:=HQ MC) (by decide+kernel)) (R1 (pv 1)) (λ_ _ _ _ _=>(HW (i:=0) Q2 rfl (Or.inl rfl))) (λ_ _ _ _ _=>Kz (Ji (Ja (HP GM (hr.mono (by decide)) rfl (HB (pv 0) (HB (pv 1) HC)))))) (λ_ _ _ _ _=>(pv 0)))))),?_⟩
 have hA:=hw.at';refine⟨_,rfl,l,rfl,⟨_,SqL.of hA⟩,λp hp=>⟨λi m σ' ks H'=>m=ws.length - i∧i≤ws.length∧(∃v,σ'=[v])∧Dd (ws.take i) ks∧Same H H',⟨ws.length,λφ=>⟨by simp,AC _,⟨none,rfl⟩,Dd.nil,HN hp _⟩⟩,?_⟩⟩;rintro i m σ' ks H1 ⟨rfl,hi,⟨v,rfl⟩,dd,s1⟩;have wk:∀k∈ks,WishAt H1 k.1 k.2:=λk hk=>((hw.ok k (CP (dd.sub k hk))).1).same s1;have lk:ks.length≤800:=by have h1:=dd.len;have h2:=hw.len;rw[AA] at h1;omega
 refine⟨wk,by omega,?_⟩;by_cases hlt:i<ws.length
 · refine .inr ⟨⟨_,_,SqL.of (s1 _ _ hA),by rw[Aj,Ay hlt];rfl⟩,λx H2 y=>?_⟩;obtain⟨rfl,y⟩:=y;have y:=y _ (SqL.of (s1 _ _ hA));rw[Aj,Ay hlt] at y;obtain rfl:V.ref ws[i].1=x:=A4 y;simp only[Km,if_true];refine⟨_,rfl,ws[i].1,ws[i].2,rfl,rfl,((hw.ok _ (EV hlt)).1).same s1,wk,rfl,λφ=>⟨ws.length - (i+1),by omega,rfl,hlt,⟨_,rfl⟩,?_,Jh s1 hp⟩⟩;rw[J0 (Ay hlt)];exact dd.put _
 · obtain rfl:i=ws.length:=by omega
   rw[Bd] at dd;refine .inl ⟨⟨_,SqL.of (s1 _ _ hA),by rw[Ab];exact Af _⟩,λep=>?_⟩;have s2:=Jh (o:= .ext (Jk p (ks.map (·.1)) ep)) s1 hp;have e2:(HD H1 p (.ext (Jk p (ks.map (·.1)) ep))) p=some (.ext (Jk p (ks.map (·.1)) ep)):=HH;have wk2:∀k∈ks,WishAt (HD H1 p (.ext (Jk p (ks.map (·.1)) ep))) k.1 k.2∧WOk k.2:=λk hk=>⟨((hw.ok k (dd.sub k hk)).1).same s2,(hw.ok k (dd.sub k hk)).2⟩;generalize HD H1 p (.ext (Jk p (ks.map (·.1)) ep))=H2 at*;refine⟨_,rfl,p,_,ep,rfl,e2,λr hr'=>?_⟩;refine Vp (λi σ' ys H'=>(∃v,σ'=[v,some (.ref p)])∧Same H2 H'∧H' r=some (.lst ys)∧ys=((ks.take i).filter λk=>IZ ks k.2).map λx=>V.ref x.1) ⟨⟨none,rfl⟩,HN hr' _,HH,rfl⟩ ?_ ?_ ?_
   · rintro i σ' ys H' hi ⟨_,s,h1,h2⟩;refine⟨s _ _ e2,h1,?_⟩;rw[h2,Ab];have h3:=AE (λk=>IZ ks k.2) (ks.take i);rw[AA] at h3;exact IB (by omega)
   · rintro i x σ' ys H3 N hx ⟨⟨v,rfl⟩,s3,h1,h2⟩ hN;rw[Aj] at hx;cases ew:ks[i]? with
     | none=>rw[ew] at hx;cases hx
     | some X1=>
      rw[ew] at hx;obtain rfl:X1.1=x:=A4 hx;obtain⟨x1,x2⟩:=wk2 X1 (Ak ew);refine⟨_,rfl,_,rfl,X1.1,p,X1.2,ks,rfl,x1.same s3,x2,⟨⟨ep,s3 _ _ e2⟩,λk hk=>((wk2 k hk).1).same s3⟩,λk hk=>(wk2 k hk).2,λH4 s4=>⟨_,rfl,?_⟩⟩;have st:((ks.take (i+1)).filter λk=>IZ ks k.2)=(ks.take i).filter (λk=>IZ ks k.2)++(if IZ ks X1.2 then [X1] else []):=by rw[J0 ew,Bi];congr 1;rw[BQ];rfl
      cases c:ks.any (λk=>IK k.2 X1.2 && !decide (k.2=X1.2)) with
      | true=>
       have ct:IZ ks X1.2=false:=by unfold IZ;rw[c];rfl
       rw[ct] at st;exact HE (hN _ _ _ ⟨⟨_,rfl⟩,s3.trans s4,s4 _ _ h1,by rw[h2,st];simp⟩)
      | false=>
       have ct:IZ ks X1.2=true:=by unfold IZ;rw[c];rfl
       rw[ct] at st;exact HG ⟨_,rfl,s4 _ _ h1,hN _ _ _ ⟨⟨_,rfl⟩,Jh (s3.trans s4) hr',HH,by rw[h2,st];simp⟩⟩
   · rintro σ' ys H3 ⟨_,s3,h1,rfl⟩;rw[Ab,Bd] at h1;exact q r _ H3 (s2.trans s3) (s2.free hr') ⟨h1,λx hx=>dd.sub x (BB.mp hx).1,dd.top,A2 (AE _ _) dd.len⟩
theorem zcW(F:Fun K "wishes_in_order" "wishes_in_order" PM f fd)(GN:Γ14 P w K mg base):FnOk P w K mg base H_ 5 f fd ["wishes"] (RD):=by
 refine F.ok zcP (λvs H Q E h=>?_) (λcdv A outer s H vs Q E hr h=>?_)
 · obtain⟨l,ws,rfl,hw,l63,q⟩:=h;rfl
 obtain⟨l,ws,rfl,hw,l63,q⟩:=h;refine⟨_,(HM (HX (Uy GN (hr.mono (by decide)) rfl B.sorted_ rfl (HB (pv 0) HC)))),?_⟩;refine⟨_,rfl,Tv (A2 l63 (by decide)) Kd hw (λx hx H3 s3 Q1 hQ=>⟨x.1,x.2,rfl,((hw.ok x hx).1).same s3,(hw.ok x hx).2,hQ⟩) (.inr (.inl λi=>⟨_,rfl⟩)) (λw=>A2 (Xf w) (by decide)) Wb Wm λr rs H3 s3 nr pm sr e3=>?_⟩;exact q r rs H3 s3 nr e3 pm sr
theorem Ye(F:Fun K "is_web" "is_web" NH f fd)(G9:Γ0 P w K mg base):FnOk P w K mg base H_ 2 f fd ["thing"] (Sv):=by
 refine F.ok YX (λvs H Q E h=>?_) (λcdv A outer s H vs Q E hr h=>?_)
 · obtain⟨a,W,rfl,⟨ha,hW⟩,q⟩:=h;rfl
 obtain⟨a,W,rfl,⟨ha,hW⟩,q⟩:=h;refine⟨_,(HK (Ip (PW.pt (JB (Ji (Ja (Ia (Jw (n:="")) rfl B.isinstance_ Jl (HB (pv 0) (HB (Jd (v:= .ty "list") rfl B.list_ JY rfl) HC))))) (JJ (Ig LZ (Ia IN rfl B.len_ ID (HB (pv 0) HC)) (M4 (v:= .int 23) rfl qMR' ⟨_,rfl⟩) (Ie _))))) (HM (HX IV)) Io)
  (HM (HX (Ia (LD rfl) rfl B.all_ L9 (HB (J6 (N':=["at","post"]) (js:=[none,none]) rfl (IQ (N:=["thing"]) (outer:=HQ NH) (by decide+kernel)) (RS rfl B.enumerate_ (HB (pv 0) HC)) (λ_ _ _ _ _=>(Ll K rfl (n:=2) rfl (Ih (HW (i:=0) MT rfl (Or.inl rfl)) (Ih (HW (i:=1) MT rfl (Or.inl rfl)) Jq)))) (λ_ _ _ _ _=>Jx) (λ_ _ _ _ _=>(J7 (HP G9 (hr.mono (by decide)) rfl (HB (pv 1) HC)) (Jv (Pe Kw Kw HF (pv 1) (pv 0)))))) HC))))),?_⟩
 have h23:¬(23:Int)<((W.map V.int).length:Int):=by rw[Ab];have:=hW.1;omega
 refine⟨_,rfl,_,"list","list",true,rfl,.lst ha,rfl,_,rfl,HE ⟨_,rfl,a,_,rfl,.inl (SqL.of ha),_,_,rfl,rfl,_,rfl,?_⟩⟩;rw[decide_eq_false h23];refine HE ⟨_,rfl,a,rfl,⟨_,SqL.of ha⟩,λp hp=>?_⟩;have s0:=HN hp (.lst []);refine Sg (xs:=W.map V.int) (λi σ' ys H'=>(∃v w,σ'=[v,w])∧Same H H'∧H' p=some (.lst ys)∧ys=AH i (V.bl true)) ⟨⟨none,none,rfl⟩,s0,HH,rfl⟩ ?_ ?_ ?_
 · rintro i σ' ys H' hi ⟨_,s,h1,h2⟩;refine⟨SqL.of (s _ _ ha),h1,?_⟩;rw[h2,By];rw[Ab] at hi;have:=hW.1;exact IB (by omega)
 · rintro i y r σ' ys H' N hy hr' ⟨⟨v,w',rfl⟩,s,h1,h2⟩ hN;rw[Aj] at hy;cases e1:W[i]? with
   | none=>rw[e1] at hy;cases hy
   | some n=>
    rw[e1] at hy;obtain rfl:V.int n=y:=A4 hy;obtain⟨n0,n1⟩:=hW.2 i n e1;have s3:=HN hr' (.tup [V.int i,V.int n]);refine⟨r,_,rfl,SqT.of HH,rfl,_,_,rfl,_,_,rfl,rfl,?_⟩;refine⟨_,rfl,.int n,"int",rfl,.int n,_,rfl,HG ⟨_,rfl,_,_,rfl,rfl,_,rfl,?_⟩⟩;rw[decide_eq_true n0];refine HG ⟨_,rfl,_,_,rfl,rfl,?_⟩;dsimp only;rw[decide_eq_true n1];refine⟨s3 _ _ h1,hN _ _ _ ⟨⟨_,_,rfl⟩,?_,HH,by rw[h2];exact BR.symm⟩⟩;intro b o q';have:b≠p:=λz=>by rw[z,hp] at q';cases q'
    rw[HV this];exact s3 _ _ (s b o q')
 · rintro σ' ys H' ⟨_,s,h1,h2⟩;refine⟨p,AH (W.map V.int).length true,rfl,SqL.of (by rw[h1,h2,CD]),?_⟩;have:(AH (W.map V.int).length true).all id=true:=by simp
   rw[this];exact q H' s
theorem Zv(F:Fun K "check_web" "check_web" P7 f fd)(GO:Γ19 P w K mg base):FnOk P w K mg base H_ 3 f fd ["thing"] (SS):=by
 refine F.ok zfY (λvs H Q E h=>?_) (λcdv A outer s H vs Q E hr h=>?_)
 · obtain⟨a,W,rfl,hw,q⟩:=h;rfl
 obtain⟨a,W,rfl,hw,q⟩:=h;refine⟨_,(HM (Ip (Ji (Ja (HP GO (hr.mono (by decide)) rfl (HB (pv 0) HC)))) (HM Pg) Io)),?_⟩;exact⟨_,rfl,a,W,rfl,hw,λH' s=>⟨_,rfl,HE (q H' s)⟩⟩
theorem YE(F:Fun K "is_post" "is_post" Pw f fd)(G9:Γ0 P w K mg base):FnOk P w K mg base H_ 2 f fd ["web","thing"] (SU):=by
 refine F.ok Zi (λvs H Q E h=>?_) (λcdv A outer s H vs Q E hr h=>?_)
 · obtain⟨a,W,p,rfl,⟨ha,hW⟩,⟨p0,p1⟩,q⟩:=h;rfl
 obtain⟨a,W,p,rfl,⟨ha,hW⟩,⟨p0,p1⟩,q⟩:=h;refine⟨_,(HM (HX (J7 (HP G9 (hr.mono (by decide)) rfl (HB (pv 1) HC)) (Jv (Pe Kw Kw HF (pv 1) (Ia IN rfl B.len_ ID (HB (pv 0) HC))))))),?_⟩;refine⟨_,rfl,.int p,"int",rfl,.int p,_,rfl,HG ⟨_,rfl,_,_,rfl,rfl,_,rfl,?_⟩⟩;rw[decide_eq_true p0];refine HG ⟨_,rfl,a,_,rfl,.inl (SqL.of ha),_,_,rfl,rfl,?_⟩;dsimp only;rw[decide_eq_true (by rw[Ab];exact p1)];exact q
theorem ze8(F:Fun K "roads_from" "roads_from" NY f fd)  :FnOk P w K mg base H_ 1 f fd ["web","p"] (NA):=by
 refine F.ok Gg (λvs H Q E h=>?_) (λcdv A outer s H vs Q E hr h=>?_)
 · obtain⟨a,W,p,rfl,⟨ha,hW⟩,hp,q⟩:=h;rfl
 obtain⟨a,W,p,rfl,⟨ha,hW⟩,hp,q⟩:=h;refine⟨_,(HK (HY (i:=2) Gg.nd rfl (Or.inl rfl) (KG (Ig LZ (pv 1) HF (Ie _)) (IP (HB (Ii IA (pv 0) (HU Lh (pv 1) HF) (λ_ _=>rfl)) HC)) (IP HC)))
  (HM (HX (HU Mx (pv 2) (J6 (N':=["at","post","p"]) (js:=[none,none,some 1]) rfl (IQ (N:=["web","p","back"]) (outer:=HQ NY) (by decide+kernel)) (RS rfl B.enumerate_ (HB (pv 0) HC)) (λ_ _ _ _ _=>(Ll K rfl (n:=2) rfl (Ih (HW (i:=0) MS rfl (Or.inl rfl)) (Ih (HW (i:=1) MS rfl (Or.inl rfl)) Jq)))) (λ_ _ _ _ _=>Kz (Ig Jg (pv 1) (pv 2) (Ie _))) (λ_ _ _ _ _=>(HU IM (pv 0) HF))))))),?_⟩
 have HI:∀(H1:Hp)(lb:Addr),Same H H1→H1 lb=some (.lst ((if 0<p then [WB.par W p] else []).map V.int))→∀l,H1 l=none→∀Q':VK,(∀l2 H2,Same H1 H2→H1 l2=none→H2 l2=some (.lst ((WB.kids W p).map V.int))→Q' (.ref l2) H2)→
  JU (Nn K a) l [none,none,some 1] (LN K 2 (Op (JS 0) (Op (JS 1) Nd))) (Oq (Mm UO (Kn 1) (Kn 2))) (Mm (KP λi j=>V.int (i+j)) (Kn 0) (tC (V.int 1))) [some (V.ref a),some (V.int p),some (V.ref lb)] H1 Q':=by
  intro H1 lb s1 e1 l hl Q' hQ';have s0:=HN hl (.lst []);have lw:=hW.1;refine Sg (xs:=W.map V.int) (λi σ' ys H'=>(∃v w,σ'=[v,w,some (.int p)])∧Same H1 H'∧H' l=some (.lst ys)∧ys=(((AI i).filter (λk=>W.getD k 0==p)).map (λ(k:Nat)=>(k:Int)+1)).map V.int) ⟨⟨none,none,rfl⟩,s0,HH,rfl⟩ ?_ ?_ ?_
  · rintro i σ' ys H' hi ⟨_,s,h1,h2⟩;refine⟨SqL.of (s _ _ (s1 _ _ ha)),h1,?_⟩;rw[h2,Ab,Ab];rw[Ab] at hi;have:=AE (λk=>W.getD k 0==p) (AI i);rw[C2] at this;exact IB (by omega)
  · rintro i y r σ' ys H' N hy hr' ⟨⟨v,w',rfl⟩,s,h1,h2⟩ hN;rw[Aj] at hy;cases e2:W[i]? with
    | none=>rw[e2] at hy;cases hy
    | some n=>
     rw[e2] at hy;obtain rfl:V.int n=y:=A4 hy;have gd:W.getD i 0=n:=by rw[A7,e2];rfl
     have s3:=HN hr' (.tup [V.int i,V.int n]);refine⟨r,_,rfl,SqT.of HH,rfl,_,_,rfl,_,_,rfl,rfl,?_⟩;refine⟨_,rfl,_,rfl,rfl,_,rfl,?_⟩;by_cases hn:n=p
     · subst hn;rw[decide_eq_true rfl];refine HG ⟨_,rfl,_,_,rfl,rfl,s3 _ _ h1,hN _ _ _ ⟨⟨_,_,rfl⟩,Jh (s.trans s3) hl,HH,?_⟩⟩;rw[h2,Dx,Bi,Ar,Ar,BQ,if_pos (by rw[gd];simp)];rfl
     · rw[decide_eq_false (λz=>hn (by injection z))];refine HE (hN _ _ _ ⟨⟨_,_,rfl⟩,s.trans s3,s3 _ _ h1,?_⟩);rw[h2,Dx,Bi,BQ,if_neg (by rw[gd];simpa using hn)];simp
  · rintro σ' ys H' ⟨_,s,h1,h2⟩;refine hQ' l H' s hl ?_;rw[h1,h2,Ab];rfl
 have rl:(WB.kids W p).length≤23:=A2 (WB.kids_len W p) hW.1;have fin:∀(H1:Hp)(lb l2:Addr)(H2:Hp),Same H H1→H1 lb=some (.lst ((if 0<p then [WB.par W p] else []).map V.int))→Same H1 H2→H2 l2=some (.lst ((WB.kids W p).map V.int))→MO (.ref lb) (.ref l2) H2 Q:=by
  intro H1 lb l2 H2 s1 e1 s2 e2;refine⟨lb,l2,_,_,rfl,rfl,s2 _ _ e1,e2,?_,λl3 hl3=>q l3 _ (s1.trans (s2.trans (HN hl3 _))) (RQ (s1.trans s2) hl3) ?_⟩
  · rw[Ab,Ab];refine L7 ?_
    split<;>simp<;>omega
  · rw[HH,←Ar];rfl
 refine⟨_,rfl,_,_,rfl,rfl,_,rfl,Il (λh=>?_) (λh=>?_)⟩
 · have h0:0<p:=of_decide_eq_true h;have at1:IL (W.map V.int) (p - 1)=some (.int (WB.par W p)):=by
    obtain⟨k,hk⟩:=Ci (show 0≤p - 1 by omega);have:=WB.par_at hp h0;rw[hk] at this ⊢;exact J9 (by rw[Aj];rw[show((k:Int)).toNat=k from rfl] at this;rw[this];rfl)
   refine⟨_,rfl,_,rfl,_,_,rfl,rfl,a,_,_,_,rfl,rfl,SqL.of ha,at1,LW,λlb hlb=>?_⟩;have s1:=HN hlb (.lst [V.int (WB.par W p)]);have e1:(HD H lb (.lst [V.int (WB.par W p)])) lb=some (.lst ((if 0<p then [WB.par W p] else []).map V.int)):=by rw[HH,if_pos h0];rfl
   exact⟨_,rfl,_,rfl,a,rfl,⟨_,SqL.of (s1 _ _ ha)⟩,λl hl=>HI _ lb s1 e1 l hl _ λl2 H2 s2 n2 e2=>fin _ lb l2 H2 s1 e1 s2 e2⟩
 · have h0:¬ 0<p:=λz=>h (decide_eq_true z);refine⟨J2,λlb hlb=>?_⟩;have s1:=HN hlb (.lst []);have e1:(HD H lb (.lst [])) lb=some (.lst ((if 0<p then [WB.par W p] else []).map V.int)):=by rw[HH,if_neg h0];rfl
   exact⟨_,rfl,_,rfl,a,rfl,⟨_,SqL.of (s1 _ _ ha)⟩,λl hl=>HI _ lb s1 e1 l hl _ λl2 H2 s2 n2 e2=>fin _ lb l2 H2 s1 e1 s2 e2⟩
theorem zed(F:Fun K "check_joined" "check_joined" PN f fd)(GP:Γ21 P w K mg base)(GQ:Γ22 P w K mg base):FnOk P w K mg base H_ 3 f fd ["web","p","q"] (TW):=by
 refine F.ok zdY (λvs H Q E h=>?_) (λcdv A outer s H vs Q E hr h=>?_)
 · obtain⟨a,W,p,q',rfl,hw,hp,hq,hm,q⟩:=h;rfl
 obtain⟨a,W,p,q',rfl,hw,hp,hq,hm,q⟩:=h;refine⟨_,(HM (Ip (PW.pt (JB (Ji (Ja (HP GP (hr.mono (by decide)) rfl (HB (pv 0) (HB (pv 1) HC))))) (JB (Ji (Ja (HP GP (hr.mono (by decide)) rfl (HB (pv 0) (HB (pv 2) HC))))) (JJ (Ig NU (pv 2) (HP GQ (hr.mono (by decide)) rfl (HB (pv 0) (HB (pv 1) HC))) (by with_unfolding_all rfl)))))) (HM Pg) Io)),?_⟩;refine⟨_,rfl,_,rfl,a,W,p,rfl,hw,hp,_,rfl,HE ⟨_,rfl,_,rfl,a,W,q',rfl,hw,hq,_,rfl,HE ⟨_,rfl,_,rfl,_,rfl,a,W,p,rfl,hw,hp,λl H1 s1 n1 e1=>NP (SqL.of e1) ⟨_,rfl,?_⟩⟩⟩⟩;rw[show(WB.roads W p).any (λy=>y==q')=true from WB.has_iff.mpr hm];exact HE (q H1 s1)
theorem ZB(F:Fun K "way_back" "way_back" PL f fd)  :FnOk P w K mg base H_ 1 f fd ["web","p"] (Uc):=by
 refine F.ok Gh (λvs H Q E h=>?_) (λcdv A outer s H vs Q E hr h=>?_)
 · obtain⟨a,W,p,rfl,⟨ha,hW⟩,hp,q⟩:=h;rfl
 obtain⟨a,W,p,rfl,⟨ha,hW⟩,hp,q⟩:=h;refine⟨_,(HK (HY (i:=2) Gh.nd rfl (Or.inl rfl) (IP (HB (pv 1) HC)))
  (HK (Tr AT (Ig LZ (Ii IA (pv 2) (Om O7 HF) (λ_ _=>rfl)) HF (Ie _)) (HM (JI (JM AL AW AX Kb (pv 2) (HB (Ii IA (pv 0) (HU Lh (Ii IA (pv 2) (Om O7 HF) (λ_ _=>rfl)) HF) (λ_ _=>rfl)) HC)))))
  (HM (HX (pv 2))))),?_⟩
 refine⟨_,rfl,LW,λl hl=>?_⟩;have s0:=HN hl (.lst [V.int p]);refine U4 (λm σ H1=>∃pre x,σ=[some (.ref a),some (.int p),some (.ref l)]∧Same H H1∧H1 l=some (.lst ((pre++[x]).map V.int))∧WB.Post W x∧WB.bk W p=pre++WB.bk W x∧m=x.toNat)
  (λσ H1=>σ=[some (.ref a),some (.int p),some (.ref l)]∧Same H H1∧H1 l=some (.lst ((WB.bk W p).map V.int))) ?_ ?_ ?_
 · exact⟨_,[],p,rfl,s0,HH,hp,rfl,rfl⟩
 · rintro m σ H1 Z ⟨pre,x,rfl,s1,e1,hx,eb,rfl⟩ hZ;have hlast:IL ((pre++[x]).map V.int) (-1)=some (.int x):=W9 _ _;refine⟨_,rfl,_,rfl,l,_,_,_,rfl,rfl,SqL.of e1,hlast,_,_,rfl,rfl,_,rfl,Il (λh=>?_) (λh=>?_)⟩
   · have h0:0<x:=of_decide_eq_true h;have lt:=WB.par_lt hW hx h0;refine⟨λσ H2=>∃pre y,σ=[some (.ref a),some (.int p),some (.ref l)]∧Same H H2∧H2 l=some (.lst ((pre++[y]).map V.int))∧WB.Post W y∧WB.bk W p=pre++WB.bk W y∧y.toNat<x.toNat,?_,?_⟩
     · rintro σ' H' ⟨pre',y,r1,r2,r3,r4,r5,r6⟩;exact⟨_,r6,pre',y,r1,r2,r3,r4,r5,rfl⟩
     · have at1:IL (W.map V.int) (x - 1)=some (.int (WB.par W x)):=by
        obtain⟨k,hk⟩:=Ci (show 0≤x - 1 by omega);have:=WB.par_at hx h0;rw[hk] at this ⊢;exact J9 (by rw[Aj];rw[show((k:Int)).toNat=k from rfl] at this;rw[this];rfl)
       have len:((pre++[x]).map V.int).length<Aw:=by have h1:=WB.bk_len hW hp;rw[eb,Az] at h1;obtain⟨t,et⟩:=WB.bk_cons hW hx;rw[et,A8] at h1;rw[Ab,Az,CH];exact IB (by omega)
       refine⟨_,rfl,.inl ⟨rfl,_,SqL.of e1⟩,_,rfl,_,rfl,_,rfl,l,_,_,_,rfl,rfl,SqL.of e1,hlast,_,_,rfl,rfl,a,_,_,_,rfl,rfl,SqL.of (s1 _ _ ha),at1,l,_,_,rfl,rfl,e1,len,?_⟩;refine⟨pre++[x],WB.par W x,rfl,?_,?_,WB.par_post hW hx h0,?_,by omega⟩
       · intro b o hb;rw[HV (IT hb hl)];exact s1 _ _ hb
       · rw[HH,Ar,Ar,Ar];rfl
       · rw[eb,WB.bk_pos hW hx h0,BV];rfl
   · have h0:x=0:=by have:=hx.1;have:¬ 0<x:=λz=>h (decide_eq_true z);omega
     subst h0;refine hZ _ _ ⟨rfl,s1,?_⟩;rw[eb,WB.bk_zero];exact e1
 · rintro σ H1 ⟨rfl,s1,e1⟩;exact⟨_,rfl,q l H1 s1 hl e1⟩
theorem zex(F:Fun K "way_between" "way_between" MD f fd)(GR:Γ24 P w K mg base):FnOk P w K mg base H_ 2 f fd ["web","p","q"] (Ra):=by
 refine F.ok Gi (λvs H Q E h=>?_) (λcdv A outer s H vs Q E hr h=>?_)
 · obtain⟨a,W,p,q',rfl,⟨ha,hW⟩,hp,hq,q⟩:=h;rfl
 obtain⟨a,W,p,q',rfl,⟨ha,hW⟩,hp,hq,q⟩:=h;refine⟨_,(HK (HY (i:=3) Gi.nd rfl (Or.inr rfl) (HP GR (hr.mono (by decide)) rfl (HB (pv 0) (HB (pv 1) HC))))
  (HK (HY (i:=4) Gi.nd rfl (Or.inr rfl) (HP GR (hr.mono (by decide)) rfl (HB (pv 0) (HB (pv 2) HC))))
  (HK (LL (N':=["post","back_from_q"]) (js:=[none,some 4]) (i:=5) Gi.nd rfl (Or.inl rfl) rfl (IQ (N:=["web","p","q","back_from_p","back_from_q","ahead","behind","turn"]) (outer:=HQ MD) (by decide+kernel)) (Jm (pv 3)) (λ_ _ _ _ _=>(HW (i:=0) Q0 rfl (Or.inl rfl))) (λ_ _ _ _ _=>Kz (Ig (Um K rfl) (pv 0) (pv 1) (by with_unfolding_all rfl))) (λ_ _ _ _ _=>(pv 0)))
  (HK (LL (N':=["post","back_from_p"]) (js:=[none,some 3]) (i:=6) Gi.nd rfl (Or.inl rfl) rfl (IQ (N:=["web","p","q","back_from_p","back_from_q","ahead","behind","turn"]) (outer:=HQ MD) (by decide+kernel)) (Jm (pv 4)) (λ_ _ _ _ _=>(HW (i:=0) Qz rfl (Or.inl rfl))) (λ_ _ _ _ _=>Kz (Ig (Um K rfl) (pv 0) (pv 1) (by with_unfolding_all rfl))) (λ_ _ _ _ _=>(pv 0)))
  (HK (HY (i:=7) Gi.nd rfl (Or.inl rfl) (Ii IA (pv 3) (Ia IN rfl B.len_ ID (HB (pv 5) HC)) (λ_ _=>rfl)))
  (HM (HX (HU Mx (HU Mx (pv 5) (IP (HB (pv 7) HC))) (Vz (pv 6)))))))))),?_⟩
 refine⟨_,rfl,_,rfl,a,W,p,rfl,⟨ha,hW⟩,hp,λlp H1 s1 n1 e1=>?_⟩;refine⟨_,rfl,_,rfl,a,W,q',rfl,⟨s1 _ _ ha,hW⟩,hq,λlq H2 s2 n2 e2=>?_⟩;have e1':=s2 _ _ e1;refine⟨_,rfl,lp,rfl,⟨_,SqL.of e1'⟩,λla hla=>?_⟩;refine N4 (cap:=[some (.ref lq)]) (WB.bk W p) (λx=>x) (WB.off (WB.bk W q')) (A2 (WB.bk_len hW hp) (by decide)) (SqL.of e1') hla rfl ?_ ?_ ?_
 · exact λn H' R s r=>⟨_,rfl,_,rfl,NP (SqL.of (s _ _ e2)) ⟨_,rfl,r⟩⟩
 · exact λn H' R s r=>⟨_,rfl,r⟩
 intro H3 s3 e3;have t3:=s2.trans s3;have e2':=s3 _ _ e2;refine⟨_,rfl,lq,rfl,⟨_,SqL.of e2'⟩,λlb hlb=>?_⟩;refine N4 (cap:=[some (.ref lp)]) (WB.bk W q') (λx=>x) (WB.off (WB.bk W p)) (A2 (WB.bk_len hW hq) (by decide)) (SqL.of e2') hlb rfl ?_ ?_ ?_
 · exact λn H' R s r=>⟨_,rfl,_,rfl,NP (SqL.of (s _ _ (t3 _ _ e1))) ⟨_,rfl,r⟩⟩
 · exact λn H' R s r=>⟨_,rfl,r⟩
 intro H4 s4 e4;rw[List.map_id'] at e3 e4;have t4:=t3.trans s4;have e3':=s4 _ _ e3;obtain⟨c,va,vb,sp⟩:=WB.split hW hq p hp
 have ea:=sp.ahead;have eb:=sp.flip.ahead;have lA:va.length≤24:=by rw[←ea];exact A2 (AE _ _) (WB.bk_len hW hp)
 have lB:vb.length≤24:=by rw[←eb];exact A2 (AE _ _) (WB.bk_len hW hq)
 rw[ea] at e3 e3';rw[eb] at e4;have hturn:IL ((WB.bk W p).map V.int) (((va.map V.int).length:Nat):Int)=some (.int c):=J9 (by rw[Ab,Aj,sp.turn hW];rfl);refine⟨_,rfl,_,rfl,la,_,rfl,.inl (SqL.of e3'),lp,_,_,_,rfl,rfl,SqL.of (t4 _ _ e1),hturn,?_⟩;refine⟨_,rfl,_,rfl,LW,λl1 hl1=>?_⟩;have s5:=HN hl1 (.lst [V.int c]);refine⟨la,l1,_,_,rfl,rfl,s5 _ _ e3',HH,(by rw[Ab];exact L7 (by simp;omega)),λl2 hl2=>?_⟩;have s6:=HN hl2 (.lst (va.map V.int++[V.int c]));refine⟨_,rfl,lb,_,rfl,SqL.of (s6 _ _ (s5 _ _ e4)),λl3 hl3=>?_⟩;have s7:=HN hl3 (.lst (vb.map V.int).reverse);refine⟨l2,l3,_,_,rfl,rfl,s7 _ _ HH,HH,(by simp only[Az,Ab,Ep,CH];exact L7 (by omega)),λl4 hl4=>?_⟩;have s8:=HN hl4 (.lst ((va.map V.int++[V.int c])++(vb.map V.int).reverse));have t8:Same H _:=s1.trans (t4.trans (s5.trans (s6.trans (s7.trans s8))));refine q l4 _ t8 ?_ ?_
 · cases hz:H l4 with
   | none=>rfl
   | some o=>exact absurd ((s1.trans (t4.trans (s5.trans (s6.trans s7)))) _ _ hz) (by rw[hl4];intro z;cases z)
 · rw[HH,sp.way hW];simp
theorem ZL(F:Fun K "is_stand" "is_stand" Pn f fd)(GS:Γ15 P w K mg base)(GP:Γ21 P w K mg base)(GT:Γ9 P w K mg base):FnOk P w K mg base H_ 8 f fd ["web","thing"] (TY):=by
 refine F.ok Gj (λvs H Q E h=>?_) (λcdv A outer s H vs Q E hr h=>?_)
 · obtain⟨a,W,x,rfl,hW,hx,q⟩:=h;rfl
 obtain⟨a,W,x,rfl,hW,hx,q⟩:=h;refine⟨_,(HK (Ip (PW.pt (JB (Ji (Ja (Ia (Jw (n:="")) rfl B.isinstance_ Jl (HB (pv 1) (HB (Jd (v:= .ty "tuple") rfl B.tuple_ Lo rfl) HC))))) (JJ (Ig L5 (Ia IN rfl B.len_ ID (HB (pv 1) HC)) HF (Ie _))))) (HM (HX IV)) Io)
  (HK (KC (pv 1) (JW rfl (Ih (HW (i:=2) Gj.nd rfl (Or.inl rfl)) (Ih (HW (i:=3) Gj.nd rfl (Or.inl rfl)) (Ih (HW (i:=4) Gj.nd rfl (Or.inl rfl)) Jq)))))
  (HM (HX (J7 (HP GS (hr.mono (by decide)) rfl (HB (pv 2) HC)) (J7 (HP GP (hr.mono (by decide)) rfl (HB (pv 0) (HB (pv 3) HC))) (J7 (HP GT (hr.mono (by decide)) rfl (HB (pv 4) HC)) (Jv (K2 Kw (Ia IN rfl B.len_ ID (HB (pv 4) HC)) (M4 (v:= .int 10) rfl qMW' ⟨_,rfl⟩) (Ie _)))))))))),?_⟩
 refine⟨_,rfl,_,"tuple","tuple",true,rfl,.tup hx.at',rfl,_,rfl,HE ⟨_,rfl,x.a,_,rfl,.inr (SqT.of hx.at'),rfl,_,rfl,?_⟩⟩;refine HE ⟨_,rfl,x.a,_,rfl,SqT.of hx.at',rfl,_,_,rfl,_,_,rfl,_,_,rfl,rfl,?_⟩;refine⟨_,rfl,x.hand,rfl,hx.name,λH1 s1=>⟨_,rfl,HG ⟨_,rfl,_,rfl,a,W,x.post,rfl,⟨s1 _ _ hW.1,hW.2⟩,hx.post,_,rfl,HG ?_⟩⟩⟩;refine⟨_,rfl,x.l,x.ws,rfl,hx.ws.same s1,hx.nd,by have:=hx.few;omega,λH2 s2=>⟨_,rfl,HG ⟨_,rfl,x.l,_,rfl,.inl (SqL.of ((hx.ws.same s1).same s2).at'),_,_,rfl,rfl,?_⟩⟩⟩;dsimp only;rw[decide_eq_true (by have:=hx.few;rw[Ab];omega)];exact q H2 (s1.trans s2)
theorem ZT(F:Fun K "are_stands" "are_stands" MB f fd)(GU:Γ26 P w K mg base):FnOk P w K mg base H_ 9 f fd ["web","thing"] (UA):=by
 refine F.ok zeY (λvs H Q E h=>?_) (λcdv A outer s H vs Q E hr h=>?_)
 · obtain⟨a,l,W,xs,rfl,hW,hx,q⟩:=h;rfl
 obtain⟨a,l,W,xs,rfl,hW,hx,q⟩:=h;refine⟨_,(HK (Ip (PW.pt (JB (Ji (Ja (Ia (Jw (n:="")) rfl B.isinstance_ Jl (HB (pv 1) (HB (Jd (v:= .ty "list") rfl B.list_ JY rfl) HC))))) (JJ (Ig LZ (Ia IN rfl B.len_ ID (HB (pv 1) HC)) (M4 (v:= .int 30) rfl qMH' ⟨_,rfl⟩) (Ie _))))) (HM (HX IV)) Io)
  (HK (Ip (Ji (Ja (Ia (LD rfl) rfl B.all_ L9 (HB (J6 (N':=["stand","web"]) (js:=[none,some 0]) rfl (IQ (N:=["web","thing"]) (outer:=HQ MB) (by decide+kernel)) (Jm (pv 1)) (λ_ _ _ _ _=>(HW (i:=0) Na rfl (Or.inl rfl))) (λ_ _ _ _ _=>Jx) (λ_ _ _ _ _=>(HP GU (hr.mono (by decide)) rfl (HB (pv 1) (HB (pv 0) HC))))) HC)))) (HM (HX IV)) Io)
  (HM (HX (K2 Jg (X4 (N':=["hand","place","wishes"]) (js:=[none,none,none]) rfl (IQ (N:=["web","thing"]) (outer:=HQ MB) (by decide+kernel)) (Jm (pv 1)) (λ_ _ _ _ _=>(Ll K rfl (n:=3) rfl (Ih (HW (i:=0) Kq rfl (Or.inl rfl)) (Ih (HW (i:=1) Kq rfl (Or.inl rfl)) (Ih (HW (i:=2) Kq rfl (Or.inl rfl)) Jq))))) (λ_ _ _ _ _=>Jx) (λ_ _ _ _ _=>(pv 0)) rfl B.len_) (Ia IN rfl B.len_ ID (HB (pv 1) HC)) (Ie _)))))),?_⟩
 have h30:¬(30:Int)<((xs.map λx=>V.ref x.a).length:Int):=by rw[Ab];have:=hx.len;omega
 refine⟨_,rfl,_,"list","list",true,rfl,.lst hx.at',rfl,_,rfl,HE ⟨_,rfl,l,_,rfl,.inl (SqL.of hx.at'),_,_,rfl,rfl,_,rfl,?_⟩⟩;rw[decide_eq_false h30];refine HE ⟨_,rfl,l,rfl,⟨_,SqL.of hx.at'⟩,λr hr=>?_⟩;refine LI (xs:=xs.map λx=>V.ref x.a) (λi σ' ys H'=>(∃v,σ'=[v,some (.ref a)])∧Same H H'∧H' r=some (.lst ys)∧ys=AH i (V.bl true)) ⟨⟨none,rfl⟩,HN hr _,HH,rfl⟩ ?_ ?_ ?_
 · rintro i σ' ys H' hi ⟨_,s,h1,h2⟩;refine⟨SqL.of (s _ _ hx.at'),h1,?_⟩;rw[h2,By];rw[Ab] at hi;have:=hx.len;exact IB (by omega)
 · rintro i y σ' ys H' N hy ⟨⟨v,rfl⟩,s,h1,h2⟩ hN;rw[Aj] at hy;cases e1:xs[i]? with
   | none=>rw[e1] at hy;cases hy
   | some x1=>
    rw[e1] at hy;cases hy;refine⟨_,rfl,_,rfl,a,W,x1,rfl,⟨s _ _ hW.1,hW.2⟩,(hx.ok x1 (Ak e1)).same s,λH2 s2=>⟨s2 _ _ h1,hN _ _ _ ⟨⟨_,rfl⟩,?_,HH,?_⟩⟩⟩
    · exact Jh (s.trans s2) hr
    · rw[h2,BR]
 · rintro σ' ys H' ⟨_,s,h1,h2⟩;rw[Ab] at h2;refine⟨r,AH xs.length true,rfl,SqL.of (by rw[h1,h2,CD]),_,rfl,?_⟩;rw[show(AH xs.length true).all id=true by simp];refine HE ?_;have hx':=hx.same s;refine⟨_,rfl,l,rfl,⟨_,SqL.of hx'.at'⟩,λz hz=>?_⟩;refine Ws (xs:=xs.map λx=>V.ref x.a) (λi σ' ks H2=>(∃v1 v2 v3,σ'=[v1,v2,v3])∧Same H' H2∧ks=(xs.map (·.hand)).take i) (λφ=>⟨⟨none,none,none,rfl⟩,HN hz _,rfl⟩) ?_ ?_ ?_
   · rintro i σ' ks H2 hi ⟨_,s2,rfl⟩;refine⟨SqL.of (s2 _ _ hx'.at'),?_⟩;rw[AA,Ab];have:=hx.len;omega
   · rintro i y σ' ks H2 N hy ⟨⟨v1,v2,v3,rfl⟩,s2,rfl⟩ hN;rw[Aj] at hy;cases e1:xs[i]? with
     | none=>rw[e1] at hy;cases hy
     | some x1=> rw[e1] at hy;cases hy;have h1:=(hx'.ok x1 (Ak e1)).same s2;refine⟨x1.a,_,rfl,SqT.of h1.at',rfl,_,_,rfl,_,_,rfl,_,_,rfl,rfl,?_⟩;exact⟨_,rfl,x1.hand,rfl,rfl,λφ=>hN _ _ _ ⟨⟨_,_,_,rfl⟩,Jh s2 hz,Yk hx.nd e1⟩⟩
   · rintro σ' ks H2 ⟨_,s2,rfl⟩;refine⟨_,rfl,l,_,rfl,.inl (SqL.of (s2 _ _ hx'.at')),rfl,?_⟩;rw[AA,Ab,Ab,Nat.min_self,decide_eq_true rfl];exact q H2 (s.trans s2)
theorem zec(F:Fun K "check_stands" "check_stands" PQ f fd)(GV:Γ20 P w K mg base)(GW:Γ27 P w K mg base):FnOk P w K mg base H_ 10 f fd ["web","stands"] (UB):=by
 refine F.ok zdX (λvs H Q E h=>?_) (λcdv A outer s H vs Q E hr h=>?_)
 · obtain⟨a,l,W,xs,rfl,hW,hx,q⟩:=h;rfl
 obtain⟨a,l,W,xs,rfl,hW,hx,q⟩:=h;refine⟨_,(HK (JI (HP GV (hr.mono (by decide)) rfl (HB (pv 0) HC)))
  (HM (Ip (Ji (Ja (HP GW (hr.mono (by decide)) rfl (HB (pv 0) (HB (pv 1) HC))))) (HM Pg) Io))),?_⟩
 refine⟨_,rfl,a,W,rfl,hW,λH1 s1=>?_⟩;dsimp only;exact⟨_,rfl,_,rfl,a,l,W,xs,rfl,⟨s1 _ _ hW.1,hW.2⟩,hx.same s1,λH2 s2=>⟨_,rfl,HE (q H2 (s1.trans s2))⟩⟩
theorem zdI(F:Fun K "wishes_beyond" "wishes_beyond" MG f fd)(GX:Γ25 P w K mg base):FnOk P w K mg base H_ 3 f fd ["web","stands","p","q"] (SR):=by
 refine F.ok Gk (λvs H Q E h=>?_) (λcdv A outer s H vs Q E hr h=>?_)
 · obtain⟨a,l,W,xs,p,q',rfl,hW,hx,hp,hq,q⟩:=h;rfl
 obtain⟨a,l,W,xs,p,q',rfl,hW,hx,hp,hq,q⟩:=h;refine⟨_,(HK (LL (N':=["hand","place","wishes","web","p","q"]) (js:=[none,none,none,some 0,some 2,some 3]) (i:=4) Gk.nd rfl (Or.inl rfl) rfl (IQ (N:=["web","stands","p","q","beyond"]) (outer:=HQ MG) (by decide+kernel)) (Jm (pv 1)) (λ_ _ _ _ _=>(Ll K rfl (n:=3) rfl (Ih (HW (i:=0) Kp rfl (Or.inl rfl)) (Ih (HW (i:=1) Kp rfl (Or.inl rfl)) (Ih (HW (i:=2) Kp rfl (Or.inl rfl)) Jq))))) (λ_ _ _ _ _=>Kz (Ig (Vv K rfl) (pv 5) (HP GX (hr.mono (by decide)) rfl (HB (pv 3) (HB (pv 1) (HB (pv 4) HC)))) (by with_unfolding_all rfl))) (λ_ _ _ _ _=>(pv 2)))
  (HM (HX (Vx (N':=["wishes","wish"]) (js:=[none,none]) rfl (IQ (N:=["web","stands","p","q","beyond"]) (outer:=HQ MG) (by decide+kernel)) (Jm (pv 4)) (λ_ _ _ _ _=>(HW (i:=0) Lu rfl (Or.inl rfl))) (λ_ _ _ _ _=>Jx) (λ_ _ _ _ _=>(Tq K rfl (pv 0))) (λ_ _ _ _ _=>(HW (i:=1) Lu rfl (Or.inl rfl))) (λ_ _ _ _ _=>Jx) (λ_ _ _ _ _=>(pv 1)))))),?_⟩
 refine⟨_,rfl,l,rfl,⟨_,SqL.of hx.at'⟩,λr hr=>?_⟩;have hl:=hx.len;refine LI (xs:=xs.map λx=>V.ref x.a) (λi σ' vs H'=>(∃v1 v2 v3,σ'=[v1,v2,v3,some (.ref a),some (.int p),some (.int q')])∧Same H H'∧H' r=some (.lst vs)∧vs=((xs.take i).filter λx=>WB.has (WB.wayB W x.post p) q').map λx=>V.ref x.l) ⟨⟨none,none,none,rfl⟩,HN hr _,HH,rfl⟩ ?_ ?_ ?_
 · rintro i σ' vs H' hi ⟨_,s,h1,rfl⟩;refine⟨SqL.of (s _ _ hx.at'),h1,?_⟩;have:=AE (λx:Stand=>WB.has (WB.wayB W x.post p) q') (xs.take i);rw[AA] at this;rw[Ab];exact IB (by omega)
 · rintro i x σ' vs H' N hy ⟨⟨v1,v2,v3,rfl⟩,s,h1,rfl⟩ hN;rw[Aj] at hy;cases e1:xs[i]? with
   | none=>rw[e1] at hy;cases hy
   | some x1=>
    rw[e1] at hy;cases hy;have o1:=(hx.ok x1 (Ak e1)).same s;refine⟨x1.a,_,rfl,SqT.of o1.at',rfl,_,_,rfl,_,_,rfl,_,_,rfl,rfl,?_⟩;refine⟨_,rfl,_,rfl,_,rfl,_,rfl,a,W,x1.post,p,rfl,hW.same s,o1.post,hp,λlw H2 s2 n2 e2=>Sd (SqL.of e2) ⟨_,rfl,?_⟩⟩;have st:((xs.take (i+1)).filter λx=>WB.has (WB.wayB W x.post p) q')=(xs.take i).filter (λx=>WB.has (WB.wayB W x.post p) q')++(if WB.has (WB.wayB W x1.post p) q' then [x1] else []):=by rw[J0 e1,Bi];congr 1;rw[BQ];rfl
    rw[show(WB.wayB W x1.post p).any (λy=>y==q')=WB.has (WB.wayB W x1.post p) q' from rfl];cases c:WB.has (WB.wayB W x1.post p) q' with
    | true=> rw[c] at st;refine HG ⟨_,rfl,s2 _ _ h1,hN _ _ _ ⟨⟨_,_,_,rfl⟩,Jh (s.trans s2) hr,HH,?_⟩⟩;rw[st,Ar];rfl
    | false=> rw[c] at st;refine HE (hN _ _ _ ⟨⟨_,_,_,rfl⟩,s.trans s2,s2 _ _ h1,?_⟩);rw[st];simp
 · rintro σ' vs H' ⟨_,s,h1,rfl⟩;rw[Ab,Bd] at h1;refine⟨_,rfl,r,rfl,⟨_,SqL.of h1⟩,λr2 hr2=>?_⟩;refine XZ (W:=W) (xs.filter λx=>WB.has (WB.wayB W x.post p) q') (SqL.of h1) hr2 rfl (A2 (AE _ _) hl) (λx hx'=>(hx.ok x (BB.mp hx').1).same s) (λq hq y H2 R e hR=>⟨_,rfl,q.l,rfl,e,hR⟩) (λu v H2 R hR=>⟨_,rfl,hR⟩) λH2 s2 e2=>?_;exact q r2 H2 (s.trans s2) (s.free hr2) (WsAt.wants (hx.same (s.trans s2)) e2)
theorem zdK(F:Fun K "known_at_rest" "known_at_rest" PX f fd)(GY:Γ28 P w K mg base)(GZ:Γ23 P w K mg base)(G_:Γ18 P w K mg base)(Ha:Γ17 P w K mg base)(Hb:Γ29 P w K mg base):FnOk P w K mg base H_ 11 f fd ["web","stands","p","q"] (Rh):=by
 refine F.ok zdG (λvs H Q E h=>?_) (λcdv A outer s H vs Q E hr h=>?_)
 · obtain⟨a,l,W,xs,p,q',rfl,hW,hx,hf,hp,hq,hm,q⟩:=h;rfl
 obtain⟨a,l,W,xs,p,q',rfl,hW,hx,hf,hp,hq,hm,q⟩:=h;refine⟨_,(HK (JI (HP GY (hr.mono (by decide)) rfl (HB (pv 0) (HB (pv 1) HC))))
  (HK (JI (HP GZ (hr.mono (by decide)) rfl (HB (pv 0) (HB (pv 2) (HB (pv 3) HC)))))
  (HM (HX (HP G_ (hr.mono (by decide)) rfl (HB (HP Ha (hr.mono (by decide)) rfl (HB (HP Hb (hr.mono (by decide)) rfl (HB (pv 0) (HB (pv 1) (HB (pv 2) (HB (pv 3) HC))))) HC)) HC)))))),?_⟩
 refine⟨_,rfl,_,rfl,a,l,W,xs,rfl,hW,hx,λH1 s1=>?_⟩;dsimp only;have hW1:=hW.same s1;have hx1:=hx.same s1;refine⟨_,rfl,_,rfl,_,rfl,a,W,p,q',rfl,hW1,hp,hq,hm,λH2 s2=>?_⟩;dsimp only;refine⟨_,rfl,_,rfl,_,rfl,_,rfl,a,l,W,xs,p,q',rfl,hW1.same s2,hx1.same s2,hp,hq,λr1 H3 s3 n3 W3=>?_⟩;refine⟨r1,_,rfl,W3,λt qs H4 s4 nt T4=>?_⟩;have W4:WsAt H4 t qs:=⟨T4.1,λx hx=>(W3.same s4).ok x (T4.2.1 x hx),A2 T4.2.2.2 W3.len⟩;refine⟨t,qs,rfl,W4,T4.few hf.wants,λr rs H5 s5 nr e5 pm srt=>?_⟩;have t4:=s1.trans (s2.trans (s3.trans s4));exact q r rs H5 (t4.trans s5) (t4.free nr) ⟨e5,λx hx=>T4.2.1 x (pm.mem_iff.mp hx),T4.2.2.1.perm (pm.map _),by rw[pm.length_eq];exact T4.2.2.2⟩ srt
theorem Z8(F:Fun K "_law_well" "_law_well" MF f fd)  :FnOk P w K mg base H_ 1 f fd ["script"] (Rl K):=by
 refine F.ok Gm (λvs H Q E h=>?_) (λcdv A outer s H vs Q E hr h=>?_)
 · obtain⟨a,ns,rfl,hS,h63,q⟩:=h;rfl
 obtain⟨a,ns,rfl,hS,h63,q⟩:=h;refine⟨_,(HK (LL (N':=["cell"]) (js:=[none]) (i:=1) Gm.nd rfl (Or.inl rfl) rfl (IQ (N:=["script","great","small","seed","number"]) (outer:=HQ MF) (by decide+kernel)) (Jm (KH OJ (pv 0) KA (KI HF))) (λ_ _ _ _ _=>(HW (i:=0) Ls rfl (Or.inl rfl))) (λ_ _ _ _ _=>Kz (Ig Vi (Ia OT rfl B.abs_ Oy (HB (pv 0) HC)) (HU K3 HF HF) (Ie _))) (λ_ _ _ _ _=>(HU KB (Ia OT rfl B.abs_ Oy (HB (pv 0) HC)) (HU Mc (HU K3 HF HF) (HU K3 HF HF)))))
  (HK (LL (N':=["cell"]) (js:=[none]) (i:=2) Gm.nd rfl (Or.inl rfl) rfl (IQ (N:=["script","great","small","seed","number"]) (outer:=HQ MF) (by decide+kernel)) (Jm (KH OJ (pv 0) KA (KI HF))) (λ_ _ _ _ _=>(HW (i:=0) Ls rfl (Or.inl rfl))) (λ_ _ _ _ _=>Kz (Ig Mu (Ia OT rfl B.abs_ Oy (HB (pv 0) HC)) (HU K3 HF HF) (Ie _))) (λ_ _ _ _ _=>(HU KB (pv 0) HF)))
  (HK (HY (i:=3) Gm.nd rfl (Or.inl rfl) (HU IM HF (Ia IN rfl B.len_ ID (HB (pv 2) HC))))
  (HK (JC AT rfl (Jm (pv 2)) (HW (i:=4) Gm.nd rfl (Or.inl rfl)) (HM (HY (i:=3) Gm.nd rfl (Or.inl rfl) (HU KB (HU IM (HU IM (HU Mc (pv 3) HF) (HU Mc (pv 4) HF)) HF) HF))))
  (HM (HX (IP (HB (pv 1) (HB (pv 2) (HB (pv 3) (HB HF HC))))))))))),?_⟩
 have cut:Iz (ns.map V.int) none (some 63)=ns.map V.int:=by unfold Iz;rw[show HT.sIx (ns.map V.int).length 0 none=0 from rfl,show HT.sIx (ns.map V.int).length (ns.map V.int).length (some 63)=min 63 (ns.map V.int).length from HT.sIx_nat _ _ 63];rw[FC];exact AO (by rw[Ab];omega)
 have m60:QY (10^(60:Int).toNat) (10^(60:Int).toNat):=⟨by decide,by decide⟩;refine⟨_,rfl,_,rfl,a,_,rfl,hS,λp1 hp1=>⟨p1,rfl,⟨_,SqL.of HH⟩,λp hp=>?_⟩⟩;refine N4 (cap:=[]) ns (λn=>(if n<0 then -n else n)%(10^(60:Int).toNat*10^(60:Int).toNat)) (λn=>decide ((10:Int)^(18:Int).toNat≤(if n<0 then -n else n))) (by omega) (SqL.of (by rw[HH,cut])) hp ?_ ?_ ?_ ?_
 · rfl
 · exact λn H' R s r=>⟨_,rfl,_,rfl,_,_,rfl,rfl,Js (by decide) (by decide),_,_,rfl,rfl,_,rfl,r⟩
 · exact λn H' R s r=>⟨_,rfl,_,rfl,_,_,rfl,rfl,Js (by decide) (by decide),_,_,rfl,rfl,Js (by decide) (by decide),_,_,rfl,rfl,m60,_,_,rfl,rfl,(by show(0:Int)<10^(60:Int).toNat*10^(60:Int).toNat;decide),r⟩
 intro H1 s1 h1;have t1:Same H H1:=(HN hp1 _).trans s1;have pn1:H p=none:=(HN hp1 _).free hp;refine⟨_,rfl,_,rfl,a,_,rfl,t1.seq hS,λp2 hp2=>⟨p2,rfl,⟨_,SqL.of HH⟩,λp' hp'=>?_⟩⟩;refine N4 (cap:=[]) ns (λn=>n%2147483563) (λn=>decide ((if n<0 then -n else n)<(10:Int)^(18:Int).toNat)) (by omega) (SqL.of (by rw[HH,cut])) hp' ?_ ?_ ?_ ?_
 · rfl
 · exact λn H' R s r=>⟨_,rfl,_,rfl,_,_,rfl,rfl,Js (by decide) (by decide),_,_,rfl,rfl,_,rfl,r⟩
 · exact λn H' R s r=>⟨_,rfl,_,_,rfl,rfl,(by show(0:Int)<2147483563;decide),r⟩
 intro H2 s2 h2;have t12:Same H1 H2:=(HN hp2 _).trans s2;have t2:Same H H2:=t1.trans t12;have g2:=t12 _ _ h1;have n2:H1 p'=none:=(HN hp2 _).free hp';have lb:∀x∈(ns.filter λn=>decide ((if n<0 then -n else n)<(10:Int)^(18:Int).toNat)).map (λn=>n%2147483563),0≤x∧x<wM:=λx hx=>by obtain⟨y,_,rfl⟩:=AG.mp hx;exact⟨B_ _ (by decide),BE _ (by decide)⟩
 have ll:=AE (λn=>decide ((if n<0 then -n else n)<(10:Int)^(18:Int).toNat)) ns
 have gg:=AE (λn=>decide ((10:Int)^(18:Int).toNat≤(if n<0 then -n else n))) ns
 generalize hls:(ns.filter λn=>decide ((if n<0 then -n else n)<(10:Int)^(18:Int).toNat)).map (λn=>n%2147483563)=ls at*
 have lz:ls.length≤63:=by rw[←hls,Ab];omega
 generalize hgs:(ns.filter λn=>decide ((10:Int)^(18:Int).toNat≤(if n<0 then -n else n))).map (λn=>(if n<0 then -n else n)%(10^(60:Int).toNat*10^(60:Int).toNat))=gs at*
 have gz:gs.length≤63:=by rw[←hgs,Ab];omega
 refine⟨_,rfl,p',_,rfl,.inl (SqL.of h2),_,_,rfl,rfl,?_⟩;refine⟨_,rfl,p',rfl,⟨_,SqL.of h2⟩,LG (K:=K) (a:=p') (xs:=ls.map V.int) (λi σ H'=>∃(st:Int)(x4:Option V),σ=[some (.ref a),some (.ref p),some (.ref p'),some (.int st),x4]∧H'=H2∧0≤st∧st<wM) ⟨_,none,rfl,rfl,by omega,by rw[Ab];unfold wM;omega⟩ (λi σ H' _ ⟨_,_,_,e,_⟩=>by rw[e];exact SqL.of h2) ?_ ?_⟩
 · rintro i x σ H' hx ⟨st,x4,rfl,rfl,z0,z1⟩;rw[Aj] at hx;cases hn:ls[i]? with
   | none=>rw[hn] at hx;cases hx
   | some y=> rw[hn] at hx;obtain rfl:V.int y=x:=A4 hx;obtain⟨y0,y1⟩:=lb y (Ak hn);have sm:∀z:Int,z.natAbs<2^100→z.natAbs<2^1000:=λz h=>AB h (by decide);refine⟨_,rfl,_,_,rfl,rfl,⟨sm _ (by unfold wM at z1;omega),by decide⟩,_,rfl,_,_,rfl,rfl,⟨sm _ (by unfold wM at y1;omega),by decide⟩,_,_,rfl,rfl,_,_,rfl,rfl,_,_,rfl,rfl,(by show(0:Int)<2147483563;decide),_,_,rfl,rfl,B_ _ (by decide),BE _ (by decide)⟩
 · rintro σ H' ⟨st,x4,rfl,rfl,z0,z1⟩;refine⟨_,rfl,_,rfl,_,rfl,QN,λp5 hp5=>?_⟩;have s5:=HN hp5 (.lst [V.ref p,V.ref p',V.int st,V.int 0]);exact q p5 p p' _ ⟨⟨gs,ls,st,0,HH,s5 _ _ g2,s5 _ _ h2,gz,lz,lb,z0,z1,by decide,by decide⟩,IT h1 n2,(IT g2 hp5).symm,(IT h2 hp5).symm⟩ (t2.trans s5) (t2.free hp5) pn1
theorem Z7(F:Fun K "_law_take" "_law_take" PH f fd)  :FnOk P w K mg base H_ 1 f fd ["well","many"] (Ri):=by
 refine F.ok Gn (λvs H Q E h=>?_) (λcdv A outer s H vs Q E hr h=>?_)
 · obtain⟨b,g,l,n,many,rfl,Bg,hn,hm,hm2,q⟩:=h;rfl
 obtain⟨b,g,l,n,many,rfl,Bg,hn,hm,hm2,q⟩:=h;refine⟨_,(HK (Ip (Ig (Nv (Kc hr)) (Ii IA (pv 0) HF (λ_ _=>rfl)) (IP HC) (Ie _)) (HK (HY (i:=2) Gn.nd rfl (Or.inl rfl) (Ii IA (Ii IA (pv 0) HF (λ_ _=>rfl)) HF (λ_ _=>rfl)))
  (HK (KC (HU Pd (pv 2) (pv 1)) (O3 (Ii IA (pv 0) HF (λ_ _=>rfl)) HF O_))
  (HK (Ip (Ig Mu (pv 2) (pv 1) (Ie _)) (HM (JI (JM AL D_ Ea OR (Ii IA (pv 0) HF (λ_ _=>rfl)) (HB HF HC)))) Io)
  (HM (HX (HU KB (pv 2) (pv 1))))))) Io)
  (HK (KC (HU IM (Ii IA (pv 0) HF (λ_ _=>rfl)) HF) (O3 (pv 0) HF O_))
  (HK (HY (i:=3) Gn.nd rfl (Or.inl rfl) HF)
  (HK (Ip (Ig (Nv (Kc hr)) (Ii IA (pv 0) HF (λ_ _=>rfl)) (IP HC) (Ie _)) (HM (HY (i:=3) Gn.nd rfl (Or.inl rfl) (HU IM (Ii IA (Ii IA (pv 0) HF (λ_ _=>rfl)) (HU KB (Ii IA (pv 0) HF (λ_ _=>rfl)) (Ia IN rfl B.len_ ID (HB (Ii IA (pv 0) HF (λ_ _=>rfl)) HC))) (λ_ _=>rfl)) HF))) Io)
  (HK (HY (i:=2) Gn.nd rfl (Or.inl rfl) (HU KB (HU K3 (HU IM (Ii IA (pv 0) HF (λ_ _=>rfl)) (HU Mc (pv 3) (HU IM (HU Mc (Ii IA (pv 0) HF (λ_ _=>rfl)) HF) HF))) HF) HF))
  (HK (KC (HU KB (HU IM (HU IM (HU Mc (Ii IA (pv 0) HF (λ_ _=>rfl)) HF) (pv 2)) (Ii IA (pv 0) HF (λ_ _=>rfl))) HF) (O3 (pv 0) HF O_))
  (HM (HX (HU KB (HU Pd (pv 2) HF) (pv 1)))))))))),?_⟩
 obtain⟨gs,ls,sd,c,e1,e2,e3,z1,z2,z4,z5,z6,z7,z8⟩:=id Bg.ex;refine⟨_,rfl,b,_,0,_,rfl,rfl,SqL.of e1,rfl,J2,λp hp=>?_⟩;have s1:=HN hp (.lst []);have B2:=Bg.same s1;have e1':=s1 _ _ e1;have e2':=s1 _ _ e2;have e3':=s1 _ _ e3;refine QO (SqL.of e2') (SqL.of HH) ⟨_,rfl,?_⟩;generalize HD H p (.lst [])=H2 at*;have S2:SameB b g H H2:=s1.sameB;clear s1;have bg:=Bg.bg;have bl:=Bg.bl;have gl:=Bg.gl;cases gs with
 | cons x r=>
  refine HG ?_;refine⟨_,rfl,b,_,0,_,rfl,rfl,SqL.of e1',rfl,g,_,0,_,rfl,rfl,SqL.of e2',QF,?_⟩;refine⟨_,rfl,_,rfl,_,_,rfl,rfl,⟨hm,Int.lt_of_lt_of_le hm2 (by decide)⟩,_,rfl,b,_,0,_,rfl,rfl,SqL.of e1',rfl,g,_,0,0,rfl,rfl,e2',UR,?_⟩;have f2:(HD H2 g (.lst (((x::r).map V.int).set 0 (V.int (x / many))))) g=some (.lst (((x / many)::r).map V.int)):=HH;have f1:(HD H2 g (.lst (((x::r).map V.int).set 0 (V.int (x / many))))) b=some (.lst [V.ref g,V.ref l,V.int sd,V.int c]):=by rw[HV bg];exact e1'
  have f3:(HD H2 g (.lst (((x::r).map V.int).set 0 (V.int (x / many))))) l=some (.lst (ls.map V.int)):=by rw[HV (CF gl)];exact e3'
  have S3:SameB b g H (HD H2 g (.lst (((x::r).map V.int).set 0 (V.int (x / many))))):=λa o h1 h2 h3=>by rw[HV h3];exact S2 a o h1 h2 h3
  dsimp only;generalize HD H2 g (.lst (((x::r).map V.int).set 0 (V.int (x / many))))=H3 at*;refine⟨_,rfl,_,rfl,_,_,rfl,rfl,_,rfl,Il (λ_=>?_) (λ_=>?_)⟩
  · refine⟨_,rfl,b,_,0,_,rfl,rfl,SqL.of f1,rfl,.inl ⟨rfl,_,SqL.of f2⟩,g,_,0,0,_,rfl,rfl,f2,by decide,by decide,(OM (UR (x:=V.int (x / many)) (r:=r.map V.int))).1,rfl,?_⟩;refine⟨_,rfl,_,rfl,_,_,rfl,rfl,hm,q _ _ (B_ _ (by omega)) (BE _ hm) ⟨⟨r,ls,sd,c,?_,HH,?_,by simp only[A8] at z1;omega,z2,z4,z5,z6,z7,by omega⟩,gl,bg,bl⟩ ?_⟩
    · rw[HV bg];exact f1
    · rw[HV (CF gl)];exact f3
    · intro a o h1 h2 h3;rw[HV h3];exact S3 a o h1 h2 h3
  · exact⟨_,rfl,_,rfl,_,_,rfl,rfl,hm,q _ _ (B_ _ (by omega)) (BE _ hm) ⟨⟨x / many::r,ls,sd,c,f1,f2,f3,by simp only[A8] at z1 ⊢;omega,z2,z4,z5,z6,z7,by omega⟩,gl,bg,bl⟩ S3⟩
 | nil=>
  refine HE ?_;refine⟨_,rfl,b,_,3,_,rfl,rfl,SqL.of e1',rfl,_,_,rfl,rfl,_,rfl,b,_,3,3,rfl,rfl,e1',rfl,?_⟩;have f1:(HD H2 b (.lst ([V.ref g,V.ref l,V.int sd,V.int c].set 3 (V.int (c+1))))) b=some (.lst [V.ref g,V.ref l,V.int sd,V.int (c+1)]):=HH;have f2:(HD H2 b (.lst ([V.ref g,V.ref l,V.int sd,V.int c].set 3 (V.int (c+1))))) g=some (.lst []):=by rw[HV (CF bg)];exact e2'
  have f3:(HD H2 b (.lst ([V.ref g,V.ref l,V.int sd,V.int c].set 3 (V.int (c+1))))) l=some (.lst (ls.map V.int)):=by rw[HV (CF bl)];exact e3'
  have S3:SameB b g H (HD H2 b (.lst ([V.ref g,V.ref l,V.int sd,V.int c].set 3 (V.int (c+1))))):=λa o h1 h2 h3=>by rw[HV h2];exact S2 a o h1 h2 h3
  dsimp only;generalize HD H2 b (.lst ([V.ref g,V.ref l,V.int sd,V.int c].set 3 (V.int (c+1))))=H3 at*;have c1:0≤c+1:=by omega
  have c2:c+1≤2^41:=by omega
  refine IW ?_;dsimp only;refine K0 (λσ' H'=>∃(cell:Int),σ'=[some (.ref b),some (.int many),none,some (.int cell)]∧1≤cell∧cell≤wM∧H' b=some (.lst [V.ref g,V.ref l,V.int sd,V.int (c+1)])∧H' g=some (.lst [])∧H' l=some (.lst (ls.map V.int))∧SameB b g H H') (λZ hZ=>?_) ?_
  · refine⟨_,rfl,b,_,1,_,rfl,rfl,SqL.of f1,rfl,J2,λp4 hp4=>?_⟩;have s4:=HN hp4 (.lst []);have k1:=s4 _ _ f1;have k2:=s4 _ _ f2;have k3:=s4 _ _ f3;have S4:=S3.trans s4.sameB;refine QO (SqL.of k3) (SqL.of HH) ⟨_,rfl,?_⟩;generalize HD H3 p4 (.lst [])=H4 at*;cases ls with
    | nil=>exact HE (hZ _ _ ⟨1,rfl,by decide,by decide,k1,k2,k3,S4⟩)
    | cons y ys=>
     refine HG ?_;have lpos:(0:Int)<(((y::ys).map V.int).length:Int):=by rw[Ab,A8];omega
     have i0:=B_ (c+1) (Int.ne_of_gt lpos);have i1:=BE (c+1) lpos;obtain⟨v,hv,hvm⟩:=VD (ls:=y::ys) i0 (by rw[Ab] at i1 ⊢;exact i1);obtain⟨v0,v1⟩:=z4 v hvm;refine⟨_,rfl,b,_,1,_,rfl,rfl,SqL.of k1,rfl,_,rfl,b,_,3,_,rfl,rfl,SqL.of k1,rfl,_,rfl,b,_,1,_,rfl,rfl,SqL.of k1,rfl,l,_,rfl,.inl (SqL.of k3),_,_,rfl,rfl,lpos,l,_,_,_,rfl,rfl,SqL.of k3,hv,_,_,rfl,rfl,?_⟩;exact hZ _ _ ⟨v+1,rfl,by omega,by omega,k1,k2,k3,S4⟩
  rintro σ' H4 ⟨cell,rfl,l0,l1,k1,k2,k3,S4⟩;have sm:∀z:Int,z.natAbs<2^900→z.natAbs<2^1000:=λz h=>AB h (by decide);have b3:(c+1).natAbs<2^900:=BO (show(c+1).natAbs≤2^41 by omega) (by decide);have b4:((c+1)*3163+1).natAbs<2^900:=BO (show((c+1)*3163+1).natAbs≤2^60 by omega) (by decide);have b5:cell.natAbs<2^900:=BO (show cell.natAbs≤2^60 by unfold wM at l1;omega) (by decide);have big:(sd+cell*((c+1)*3163+1)).natAbs<2^1000:=by
   have a5:cell*((c+1)*3163+1)≤2^60*2^60:=FF (by unfold wM at l1;omega) (by omega) (by omega) (by decide);have a6:0≤cell*((c+1)*3163+1):=Int.mul_nonneg (by omega) (by omega);generalize cell*((c+1)*3163+1)=y at*;have a8:(sd+y).natAbs<2^125:=by unfold wM at z6;omega
   exact AB a8 (by decide)
  refine⟨_,rfl,b,_,2,_,rfl,rfl,SqL.of k1,rfl,_,rfl,_,rfl,b,_,3,_,rfl,rfl,SqL.of k1,rfl,_,_,rfl,rfl,⟨sm _ b3,by decide⟩,_,_,rfl,rfl,_,_,rfl,rfl,⟨sm _ b5,sm _ b4⟩,_,_,rfl,rfl,_,_,rfl,rfl,⟨by decide,by decide,big⟩,_,_,rfl,rfl,(by show(0:Int)<2147483563;decide),?_⟩;dsimp only;generalize(sd+cell*((c+1)*3163+1))^(5:Int).toNat=y;have y0:=B_ y (show(2147483563:Int)≠0 by decide);have y1:=BE y (show(0:Int)<2147483563 by decide);generalize y%2147483563=u at*;have b6:sd.natAbs<2^1000:=sm _ (BO (show sd.natAbs≤2^60 by unfold wM at z6;omega) (by decide));refine⟨_,rfl,b,_,2,_,rfl,rfl,SqL.of k1,rfl,_,_,rfl,rfl,⟨b6,by decide⟩,_,rfl,_,_,rfl,rfl,_,rfl,b,_,3,_,rfl,rfl,SqL.of k1,rfl,_,_,rfl,rfl,_,_,rfl,rfl,(by show(0:Int)<2147483563;decide),?_⟩;refine⟨_,rfl,b,_,2,2,rfl,rfl,k1,rfl,?_⟩;dsimp only;generalize sd*40692+u+(c+1)=v;have v0:=B_ v (show(2147483563:Int)≠0 by decide);have v1:=BE v (show(0:Int)<2147483563 by decide);generalize v%2147483563=t at*;refine⟨_,rfl,_,_,rfl,rfl,⟨by decide,by decide⟩,_,rfl,_,_,rfl,rfl,hm,?_⟩;refine q _ _ (B_ _ (by omega)) (BE _ hm) ⟨⟨[],ls,t,c+1,HH,?_,?_,by simp,z2,z4,v0,v1,c1,by omega⟩,gl,bg,bl⟩ ?_
  · rw[HV (CF bg)];exact k2
  · rw[HV (CF bl)];exact k3
  · intro a o h1 h2 h3;rw[HV h2];exact S4 a o h1 h2 h3
theorem Z1(F:Fun K "_law_name" "_law_name" NK f fd)(Hc:Γ32 P w K mg base):FnOk P w K mg base H_ 2 f fd ["well","most"] (RC):=by
 refine F.ok Go (λvs H Q E h=>?_) (λcdv A outer s H vs Q E hr h=>?_)
 · obtain⟨b,g,l,n,most,rfl,Bg,hn,m1,m8,q⟩:=h;rfl
 obtain⟨b,g,l,n,most,rfl,Bg,hn,m1,m8,q⟩:=h;refine⟨_,(HK (HY (i:=2) Go.nd rfl (Or.inr rfl) Mz)
  (HM (HX (JM PySem.F.plainAttrs_str PySem.F.slot_str_join PySem.F.type_str_join Wc Mz (HB (J6 (N':=["k","well","letters"]) (js:=[none,some 0,some 2]) rfl (IQ (N:=["well","most","letters"]) (outer:=HQ NK) (by decide+kernel)) (KD rfl B.range_ (HB (HU IM HF (HP Hc (hr.mono (by decide)) rfl (HB (pv 0) (HB (pv 1) HC)))) HC)) (λ_ _ _ _ _=>(HW (i:=0) M_ rfl (Or.inl rfl))) (λ_ _ _ _ _=>Jx) (λ_ _ _ _ _=>(Ii Rt (pv 2) (HP Hc (hr.mono (by decide)) rfl (HB (pv 1) (HB HF HC))) (λ_ _=>rfl)))) HC))))),?_⟩
 refine IW ?_;refine⟨rfl,_,rfl,_,rfl,b,g,l,n,most,rfl,Bg,by omega,by omega,J5 (by omega),λr H2 r0 r1 B2 S2=>?_⟩;refine⟨_,_,rfl,rfl,_,rfl,by omega,by omega,λp hp=>?_⟩;obtain⟨pb,pg,pl⟩:=B2.free hp;have s3:=HN hp (.lst []);have np:H p=none:=B2.back S2 p hp;refine LH (n:=(1+r).toNat) (λi σ' ys H'=>(∃v,σ'=[v,some (.ref b),some (.str "abcdefghijklmnopqrstuvwxyz")])∧SameB b g H H'∧Well H' b g l (n+1+i)∧H' p=some (.lst ys)∧∃cs:List Nat,ys=(cs.map λc=>(⟨#[c]⟩:Str)).map V.str∧cs.length=i∧∀c∈cs,Lp c=true) ?_ ?_ ?_ ?_
 · exact⟨⟨none,rfl⟩,S2.trans s3.sameB,(B2.same s3).mono (by omega),HH,[],rfl,rfl,λc hc=>by simp at hc⟩
 · rintro i σ' ys H' hi ⟨_,_,_,h1,cs,rfl,h2,_⟩;exact⟨h1,by rw[Ab,Ab,h2];exact IB (by omega)⟩
 · rintro i σ' ys H4 N hi ⟨⟨v,rfl⟩,S4,B4,h1,cs,rfl,h2,h3⟩ hN;refine⟨_,rfl,_,rfl,b,g,l,_,26,rfl,B4,by omega,by decide,by decide,λk H5 k0 k1 B5 S5=>?_⟩;obtain⟨c,hc,ok⟩:=QU k0 k1;have h5:=S5 _ _ h1 pb pg;refine⟨_,_,c,rfl,rfl,(by show 26≤Aw;decide),hc,h5,hN _ _ _ ⟨⟨_,rfl⟩,?_,?_,HH,cs++[c],?_,?_,?_⟩⟩
   · exact(S4.trans S5).off np
   · exact(B5.off pb pg pl).mono (by omega)
   · rw[Ar,Ar];rfl
   · rw[Az,h2];rfl
   · intro c' hc';rcases AD.mp hc' with z | z
     · exact h3 c' z
     · rw[Ax.mp z];exact ok
 · rintro σ' ys H4 ⟨_,S4,B4,h1,cs,rfl,h2,h3⟩;refine⟨_,_,_,rfl,rfl,SqL.of h1,WN cs (by omega),q _ _ (YA (by omega) (by omega) h3) (B4.mono (by omega)) S4⟩
theorem ZX(F:Fun K "_law_fields" "_law_fields" Pz f fd)(Hd:Γ33 P w K mg base)(Hc:Γ32 P w K mg base):FnOk P w K mg base H_ 3 f fd ["well","many"] (TX):=by
 refine F.ok Gp (λvs H Q E h=>?_) (λcdv A outer s H vs Q E hr h=>?_)
 · obtain⟨b,g,l,n,many,rfl,Bg,hn,m1,m6,q⟩:=h;rfl
 obtain⟨b,g,l,n,many,rfl,Bg,hn,m1,m6,q⟩:=h;refine⟨_,(HK (HY (i:=2) Gp.nd rfl (Or.inl rfl) Mz)
  (HK (HY (i:=3) Gp.nd rfl (Or.inl rfl) (IP (HB (HP Hd (hr.mono (by decide)) rfl (HB (pv 0) (HB HF HC))) HC)))
  (HK (JC AT rfl (KD rfl B.range_ (HB (HP Hc (hr.mono (by decide)) rfl (HB (pv 0) (HB (pv 1) HC))) HC)) (HW (i:=4) Gp.nd rfl (Or.inl rfl)) (HK (HY (i:=5) Gp.nd rfl (Or.inl rfl) (HP Hc (hr.mono (by decide)) rfl (HB (pv 0) (HB HF HC))))
  (HK (HY (i:=6) Gp.nd rfl (Or.inl rfl) (Ii IA (pv 3) (HP Hc (hr.mono (by decide)) rfl (HB (pv 0) (HB (Ia IN rfl B.len_ ID (HB (pv 3) HC)) HC))) (λ_ _=>rfl)))
  (HK (HY (i:=7) Gp.nd rfl (Or.inl rfl) (Ii Rt (pv 2) (HP Hc (hr.mono (by decide)) rfl (HB (pv 0) (HB HF HC))) (λ_ _=>rfl)))
  (HK (HY (i:=8) Gp.nd rfl (Or.inl rfl) (HP Hc (hr.mono (by decide)) rfl (HB (pv 0) (HB (Ia UE rfl B.len_ ID (HB (pv 6) HC)) HC))))
  (HK (HY (i:=9) Gp.nd rfl (Or.inl rfl) (KH OK (Ii IA (IP (HB (HU NQ (pv 7) (pv 6)) (HB (HU NQ (pv 6) (pv 7)) (HB (HU NQ (HU NQ (KH OK (pv 6) KA (KI (pv 8))) (pv 7)) (KH OK (pv 6) (KI (HU IM (pv 8) HF)) KA)) (HB (pv 7) HC))))) (pv 5) (λ_ _=>rfl)) KA (KI HF)))
  (HK (Ip (Ig Jg (pv 5) HF (Ie _)) (HM (HY (i:=9) Gp.nd rfl (Or.inl rfl) (HP Hd (hr.mono (by decide)) rfl (HB (pv 0) (HB HF HC))))) Io)
  (HM (Ip (Ig NU (pv 9) (pv 3) (by with_unfolding_all rfl)) (HM (JI (JM AL AW AX Kb (pv 3) (HB (pv 9) HC)))) Io)))))))))
  (HM (HX (Ia Zr rfl B.sorted_ TB (HB (pv 3) HC))))))),?_⟩
 refine IW ?_;refine⟨_,rfl,b,g,l,n,7,rfl,Bg,by omega,by decide,by decide,λx0 H1 ok0 B1 S1=>?_⟩;refine⟨LW,λr hr'=>?_⟩;obtain⟨rb,rg,rl⟩:=B1.free hr';have nr:H r=none:=B1.back S1 r hr';have s2:=HN hr' (.lst [V.str x0]);have e2:(HD H1 r (.lst [V.str x0])) r=some (.lst [V.str x0]):=HH;have B2:=B1.same s2;have S2:=S1.trans s2.sameB;generalize HD H1 r (.lst [V.str x0])=H2 at*;refine⟨_,rfl,_,rfl,b,g,l,_,many,rfl,B2,by omega,by omega,J5 (by omega),λc H3 c0 c1 B3 S3=>?_⟩;have e3:=S3 _ _ e2 rb rg;have S03:=S2.trans S3;refine⟨c,rfl,by omega,by omega,OY (lo:=0) (n:=c.toNat) (λi σ H'=>(∃y4 y5 y6 y7 y8 y9,σ=[some (.ref b),some (.int many),some (.str "abcdefghijklmnopqrstuvwxyz"),some (.ref r),y4,y5,y6,y7,y8,y9])∧SameB b g H H'∧Well H' b g l (n+13+20*i)∧∃ts:List Str,H' r=some (.lst (ts.map V.str))∧ts.Nodup∧1≤ts.length∧ts.length≤i+1∧∀t∈ts,FieldOk t) ?_ ?_ ?_⟩
 · exact⟨⟨none,none,none,none,none,none,rfl⟩,S03,B3.mono (by omega),[x0],e3,by simp,by simp,by simp,λt ht=>by rw[Ax.mp ht];exact ok0⟩
 · rintro i σ H4 hi ⟨⟨y4,y5,y6,y7,y8,y9,rfl⟩,S4,B4,ts,e4,nd,l1,l2,ok⟩;refine⟨_,rfl,b,g,l,_,4,rfl,B4,by omega,by decide,by decide,λpick H5 p0 p1 B5 S5=>?_⟩;have e5:=S5 _ _ e4 rb rg;refine⟨_,rfl,_,rfl,_,rfl,r,_,rfl,.inl (SqL.of e5),b,g,l,_,_,rfl,B5,by omega,by rw[Ab];omega,J5 (by rw[Ab];omega),λk H6 k0 k1 B6 S6=>?_⟩;have e6:=S6 _ _ e5 rb rg;rw[Ab] at k1;obtain⟨j,rfl⟩:∃j:Nat,k=(j:Int):=⟨k.toNat,by omega⟩;obtain⟨first,ef⟩:∃f,ts[j]?=some f:=⟨ts[j]'(by omega),Ay (by omega)⟩
   have hf:IL (ts.map V.str) (j:Int)=some (V.str first):=J9 (by rw[Aj,ef];rfl)
   have okf:=ok first (Ak ef)
   refine⟨r,_,_,_,rfl,rfl,SqL.of e6,hf,?_⟩;refine⟨_,rfl,_,rfl,b,g,l,_,26,rfl,B6,by omega,by decide,by decide,λk H7 k0 k1 B7 S7=>?_⟩;have e7:=S7 _ _ e6 rb rg;obtain⟨c,hc,okc⟩:=QU k0 k1;refine⟨_,_,c,rfl,rfl,(by show 26≤Aw;decide),hc,?_⟩;have okl:FieldOk (⟨#[c]⟩:Str):=⟨by show 1≤1;decide,by show 1≤8;decide,λc' hc'=>by
    have:c'=c:=by simpa using hc'
    rw[this];exact okc⟩
   generalize(⟨#[c]⟩:Str)=letter at*;have f1:=okf.one;have f8:=okf.eight;have g1:=okl.one;have g8:=okl.eight;have sz:(100:Nat)≤Aw:=by decide
   refine⟨_,rfl,_,rfl,_,rfl,by omega,b,g,l,_,_,rfl,B7,by omega,by omega,J5 (by omega),λat' H8 a0 a1 B8 S8=>?_⟩;have e8:=S8 _ _ e7 rb rg;have S48:=S4.trans (S5.trans (S6.trans (S7.trans S8)));refine⟨_,rfl,_,rfl,_,_,rfl,rfl,by omega,_,rfl,_,rfl,_,_,rfl,rfl,by omega,_,rfl,_,rfl,_,rfl,first,rfl,by omega,λz1 a1' _ a3 _=>?_⟩
   refine⟨_,rfl,_,_,rfl,rfl,by omega,_,rfl,_,rfl,_,_,rfl,rfl,_,rfl,first,rfl,by omega,λz2 b1 _ b3 _=>?_⟩
   have la:(z1++letter).length=z1.length+letter.length:=by show(z1.cps++letter.cps).size=_;rw[EG];rfl
   refine⟨_,_,rfl,rfl,by omega,_,rfl,QN,λwl hwl=>?_⟩;have s9:=HN hwl (.lst [V.str (letter++first),V.str (first++letter),V.str (z1++letter++z2),V.str letter])
   have e9:(HD H8 wl (.lst [V.str (letter++first),V.str (first++letter),V.str (z1++letter++z2),V.str letter])) wl=some (.lst [V.str (letter++first),V.str (first++letter),V.str (z1++letter++z2),V.str letter]):=HH
   have e8:=s9 _ _ e8;have B9:=B8.same s9;have S49:=S48.trans s9.sameB;generalize HD H8 wl (.lst [V.str (letter++first),V.str (first++letter),V.str (z1++letter++z2),V.str letter])=H9 at*
   have mem2:∀(x y:Str)(c:Nat),c∈(x++y).cps.toList→c∈x.cps.toList∨c∈y.cps.toList:=λx y c hc=>by have:c∈(x.cps++y.cps).toList:=hc;rw[Array.toList_append] at this;exact AD.mp this
   have len2:∀x y:Str,(x++y).length=x.length+y.length:=λx y=>by show(x.cps++y.cps).size=_;rw[EG];rfl
   obtain⟨W,hW,w1,w100,wl'⟩:∃W:Str,IL [V.str (letter++first),V.str (first++letter),V.str (z1++letter++z2),V.str letter] pick=some (.str W)∧1≤W.length∧W.length≤100∧∀c∈W.cps.toList,Lp c=true:=by
    have:pick=0∨pick=1∨pick=2∨pick=3:=by omega
    rcases this with rfl | rfl | rfl | rfl
    · refine⟨_,rfl,by rw[len2];omega,by rw[len2];omega,λc hc=>?_⟩;rcases mem2 _ _ c hc with z | z
      · exact okl.all c z
      · exact okf.all c z
    · refine⟨_,rfl,by rw[len2];omega,by rw[len2];omega,λc hc=>?_⟩;rcases mem2 _ _ c hc with z | z
      · exact okf.all c z
      · exact okl.all c z
    · refine⟨_,rfl,by rw[len2,len2];omega,by rw[len2,len2];omega,λc hc=>?_⟩;rcases mem2 _ _ c hc with z | z
      · rcases mem2 _ _ c z with z | z
        · exact okf.all c (a3 c z)
        · exact okl.all c z
      · exact okf.all c (b3 c z)
    · exact⟨_,rfl,g1,by omega,okl.all⟩
   refine⟨_,rfl,wl,_,_,_,rfl,rfl,SqL.of e9,hW,_,rfl,W,rfl,by omega,λword v1 v2 v3 v4=>?_⟩;have okw:FieldOk word:=⟨v4 8 rfl rfl (by decide) w1,by have:=v2 8 rfl (by decide);omega,λc hc=>wl' c (v3 c hc)⟩;refine IW ?_;dsimp only;refine K0 (λσ' H'=>∃word:Str,σ'=[some (.ref b),some (.int many),some (.str "abcdefghijklmnopqrstuvwxyz"),some (.ref r),some (.int (0+(i:Int))),some (.int pick),some (.str first),some (.str letter),some (.int at'),some (.str word)]∧FieldOk word∧SameB b g H H'∧Well H' b g l (n+13+20*i+17)∧H' r=some (.lst (ts.map V.str))) (λZ hZ=>?_) ?_
   · refine⟨_,rfl,rfl,_,rfl,Il (λ_=>?_) (λ_=>?_)⟩
     · exact⟨_,rfl,b,g,l,_,8,rfl,B9,by omega,by decide,by decide,λx H10 ok10 B10 S10=>hZ _ _ ⟨x,rfl,ok10,S49.trans S10,B10.mono (by omega),S10 _ _ e8 rb rg⟩⟩
     · exact hZ _ _ ⟨word,rfl,okw,S49,B9.mono (by omega),e8⟩
   rintro σ' H10 ⟨word',rfl,okw',S10,B10,e10⟩;have fl:(ts.map V.str).all Kx=true:=by rw[List.all_map];exact List.all_eq_true.mpr λx _=>rfl
   refine⟨_,rfl,_,rfl,r,_,rfl,.inl (SqL.of e10),rfl,fl,_,rfl,?_⟩;have inE:Mp (.str word') (ts.map V.str)=decide (word'∈ts):=by
    unfold Mp;rw[Fb,Bb,Cq,decide_eq_true_iff];constructor
    · rintro⟨x,hx,e⟩;have:x=word':=by simpa [K7] using e
      exact this ▸ hx
    · exact λh=>⟨word',h,by simp[K7]⟩
   rw[inE];by_cases hm:word'∈ts
   · rw[decide_eq_true hm];exact HE ⟨⟨_,_,_,_,_,_,rfl⟩,S10,B10.mono (by omega),ts,e10,nd,l1,by omega,ok⟩
   · rw[decide_eq_false hm];refine HG ⟨_,rfl,.inl ⟨rfl,_,SqL.of e10⟩,_,rfl,r,_,_,rfl,rfl,e10,(by rw[Ab];exact IB (by omega)),?_⟩;refine⟨⟨_,_,_,_,_,_,rfl⟩,S10.off nr,(B10.off rb rg rl).mono (by omega),ts++[word'],by rw[HH,Ar];rfl,?_,by rw[Az];omega,by rw[Az];simp;omega,λt ht=>?_⟩
     · rw[Ck];exact⟨nd,by simp,λa ha b hb=>by rw[Ax.mp hb];exact λz=>hm (z ▸ ha)⟩
     · rcases AD.mp ht with z | z
       · exact ok t z
       · rw[Ax.mp z];exact okw'
 · rintro σ H4 ⟨⟨y4,y5,y6,y7,y8,y9,rfl⟩,S4,B4,ts,e4,nd,l1,l2,ok⟩;refine⟨_,rfl,r,ts,rfl,SqL.of e4,by omega,λz ms mp mso hz=>?_⟩;have s5:=HN hz (.lst (ms.map V.str));exact q z ms _ (B4.back S4 z hz) HH (YO mso (mp.nodup_iff.mpr nd)) (λf hf=>ok f (mp.mem_iff.mp hf)) (by rw[mp.length_eq];exact l1) (by rw[mp.length_eq];omega) ((B4.same s5).mono (by omega)) (S4.trans s5.sameB)
theorem Zz(F:Fun K "_law_base" "_law_base" Pq f fd)(Hc:Γ32 P w K mg base):FnOk P w K mg base H_ 2 f fd ["well"] (R8):=by
 refine F.ok Gq (λvs H Q E h=>?_) (λcdv A outer s H vs Q E hr h=>?_)
 · obtain⟨b,g,l,n,rfl,Bg,hn,q⟩:=h;rfl
 obtain⟨b,g,l,n,rfl,Bg,hn,q⟩:=h;refine⟨_,(HK (HY (i:=1) Gq.nd rfl (Or.inl rfl) (HP Hc (hr.mono (by decide)) rfl (HB (pv 0) (HB HF HC))))
  (HK (HY (i:=2) Gq.nd rfl (Or.inl rfl) (HU Lh HF (HU LB HF (HP Hc (hr.mono (by decide)) rfl (HB (pv 0) (HB HF HC))))))
  (HK (Ip (Ig Jg (pv 1) HF (Ie _)) (HM (HX HF)) Io)
  (HK (HY (i:=3) Gq.nd rfl (Or.inl rfl) (HP Hc (hr.mono (by decide)) rfl (HB (pv 0) (HB HF HC))))
  (HK (Ip (Ig Jg (pv 1) HF (Ie _)) (HM (HY (i:=3) Gq.nd rfl (Or.inl rfl) (HU IM (HU LB (HU IM (HU LB (pv 3) HF) (HP Hc (hr.mono (by decide)) rfl (HB (pv 0) (HB HF HC)))) HF) (HP Hc (hr.mono (by decide)) rfl (HB (pv 0) (HB HF HC)))))) Io)
  (HM (HX (HU LB (pv 2) (HU KB (pv 3) (HU Lh (HU K3 HF HF) HF)))))))))),?_⟩
 have Of:(10:Int)^(15:Int).toNat=1000000000000000:=by decide
 refine⟨_,rfl,b,g,l,n,3,rfl,Bg,by omega,by decide,by decide,λpick H1 p0 p1 B1 S1=>?_⟩;refine⟨_,rfl,b,g,l,_,2,rfl,B1,by omega,by decide,by decide,λc H2 c0 c1 B2 S2=>?_⟩;have S02:=S1.trans S2;refine⟨_,_,rfl,rfl,.inl ⟨by decide,by decide⟩,_,_,rfl,rfl,?_⟩;refine⟨_,rfl,rfl,_,rfl,Il (λ_=>q _ _ (by decide) (by decide) (B2.mono (by omega)) S02) (λ_=>?_)⟩;refine⟨_,rfl,b,g,l,_,100000,rfl,B2,by omega,by decide,by decide,λm H3 m0 m1 B3 S3=>?_⟩;have S03:=S02.trans S3;refine IW ?_;dsimp only;refine K0 (λσ' H'=>∃m:Int,σ'=[some (.ref b),some (.int pick),some (.int (1 - 2*c)),some (.int m)]∧0≤m∧SameB b g H H'∧Well H' b g l (n+5)) (λZ hZ=>?_) ?_
 · refine⟨_,rfl,rfl,_,rfl,Il (λ_=>?_) (λ_=>hZ _ _ ⟨m,rfl,m0,S03,B3.mono (by omega)⟩)⟩;refine⟨_,rfl,_,_,rfl,rfl,.inl ⟨by omega,by omega⟩,_,rfl,b,g,l,_,100000,rfl,B3,by omega,by decide,by decide,λm2 H4 m20 m21 B4 S4=>?_⟩;refine⟨_,_,rfl,rfl,_,_,rfl,rfl,.inl ⟨by omega,by omega⟩,_,rfl,b,g,l,_,100000,rfl,B4,by omega,by decide,by decide,λm3 H5 m30 m31 B5 S5=>?_⟩;exact⟨_,_,rfl,rfl,hZ _ _ ⟨_,rfl,by omega,S03.trans (S4.trans S5),B5.mono (by omega)⟩⟩
 rintro σ' H4 ⟨m,rfl,m0,S4,B4⟩;refine⟨_,rfl,_,rfl,_,_,rfl,rfl,Js (by decide) (by decide),_,_,rfl,rfl,_,_,rfl,rfl,(by show(0:Int)<10^(15:Int).toNat - 1000;decide),?_⟩;dsimp only;rw[Of];have y0:=B_ m (show(1000000000000000 - 1000:Int)≠0 by decide);have y1:=BE m (show(0:Int)<1000000000000000 - 1000 by decide);generalize m%(1000000000000000 - 1000)=y at*;have hc:c=0∨c=1:=by omega
 refine⟨_,_,rfl,rfl,.inl ⟨by omega,by omega⟩,q _ _ ?_ ?_ B4 S4⟩
 all_goals
  rcases hc with rfl | rfl
  all_goals omega
theorem Z0(F:Fun K "_law_grid" "_law_grid" Pr f fd)(Hc:Γ32 P w K mg base)(He:Γ35 P w K mg base):FnOk P w K mg base H_ 3 f fd ["well"] (R9):=by
 refine F.ok Gr (λvs H Q E h=>?_) (λcdv A outer s H vs Q E hr h=>?_)
 · obtain⟨b,g,l,n,rfl,Bg,hn,q⟩:=h;rfl
 obtain⟨b,g,l,n,rfl,Bg,hn,q⟩:=h;refine⟨_,(HK (HY (i:=1) Gr.nd rfl (Or.inl rfl) (HP Hc (hr.mono (by decide)) rfl (HB (pv 0) (HB HF HC))))
  (HK (HY (i:=2) Gr.nd rfl (Or.inl rfl) HF)
  (HK (Ip (Ig Jg (pv 1) HF (Ie _)) (HM (HY (i:=2) Gr.nd rfl (Or.inl rfl) (HU IM HF (HP Hc (hr.mono (by decide)) rfl (HB (pv 0) (HB HF HC)))))) Io)
  (HK (Ip (Ig Jg (pv 1) HF (Ie _)) (HM (HY (i:=2) Gr.nd rfl (Or.inl rfl) (HU IM HF (HU LB (HP Hc (hr.mono (by decide)) rfl (HB (pv 0) (HB HF HC))) (HP Hc (hr.mono (by decide)) rfl (HB (pv 0) (HB HF HC))))))) Io)
  (HM (HX (I_ (HB (Ia (Xy rfl) rfl B.max_ VG (HB (HU Lh (HU K3 HF HF) (HU K3 HF HF)) (HB (Ia (OV rfl) rfl B.min_ O0 (HB (HU Lh (HU K3 HF HF) (HU K3 HF HF)) (HB (HP He (hr.mono (by decide)) rfl (HB (pv 0) HC)) HC))) HC))) (HB (pv 2) HC))))))))),?_⟩
 have Of:(10:Int)^(15:Int).toNat=1000000000000000:=by decide
 have e13:(10:Int)^(13:Int).toNat=10000000000000:=by decide
 refine⟨_,rfl,b,g,l,n,4,rfl,Bg,by omega,by decide,by decide,λpick H1 p0 p1 B1 S1=>?_⟩;refine IW ?_;dsimp only;refine XM ?_;refine K0 (λσ' H'=>∃m:Int,σ'=[some (.ref b),some (.int pick),some (.int m)]∧1≤m∧m≤10^10∧SameB b g H H'∧Well H' b g l (n+2)) (λZ hZ=>?_) ?_
 · refine⟨_,rfl,rfl,_,rfl,Il (λ_=>?_) (λ_=>hZ _ _ ⟨1,rfl,by decide,by decide,S1,B1.mono (by omega)⟩)⟩;exact⟨_,rfl,b,g,l,_,1000,rfl,B1,by omega,by decide,by decide,λm2 H4 m20 m21 B4 S4=>⟨_,_,rfl,rfl,hZ _ _ ⟨_,rfl,by omega,by omega,S1.trans S4,B4.mono (by omega)⟩⟩⟩
 rintro σ' H2 ⟨m,rfl,m0,m1,S2,B2⟩;refine K0 (λσ' H'=>∃m:Int,σ'=[some (.ref b),some (.int pick),some (.int m)]∧1≤m∧m≤10^10∧SameB b g H H'∧Well H' b g l (n+4)) (λZ hZ=>?_) ?_
 · refine⟨_,rfl,rfl,_,rfl,Il (λ_=>?_) (λ_=>hZ _ _ ⟨m,rfl,m0,m1,S2,B2.mono (by omega)⟩)⟩;refine⟨_,rfl,b,g,l,_,100000,rfl,B2,by omega,by decide,by decide,λm2 H4 m20 m21 B4 S4=>?_⟩;refine⟨_,rfl,b,g,l,_,100000,rfl,B4,by omega,by decide,by decide,λm3 H5 m30 m31 B5 S5=>?_⟩;have x1:m2*m3≤99999*99999:=FF (by omega) (by omega) m30 (by decide);have x0:0≤m2*m3:=Int.mul_nonneg m20 m30;exact⟨_,_,rfl,rfl,.inl ⟨by omega,by omega⟩,_,_,rfl,rfl,hZ _ _ ⟨_,rfl,by show 1≤1+m2*m3;omega,by show 1+m2*m3≤_;omega,S2.trans (S4.trans S5),B5.mono (by omega)⟩⟩
 rintro σ' H3 ⟨m,rfl,m0,m1,S3,B3⟩;refine⟨_,_,rfl,rfl,Js (by decide) (by decide),_,_,rfl,rfl,Js (by decide) (by decide),_,_,rfl,rfl,_,_,rfl,rfl,Js (by decide) (by decide),_,_,rfl,rfl,Js (by decide) (by decide),_,_,rfl,rfl,_,rfl,b,g,l,_,rfl,B3,by omega,λx H4 x0 x1 B4 S4=>?_⟩;dsimp only;rw[Of,e13];refine⟨_,_,rfl,_,_,rfl,_,rfl,IJ,λt ht=>?_⟩;have s5:=HN ht (.tup [V.int (if(if x<1000000000000000 - 10000000000000 then x else 1000000000000000 - 10000000000000)>10000000000000 - 1000000000000000 then(if x<1000000000000000 - 10000000000000 then x else 1000000000000000 - 10000000000000) else 10000000000000 - 1000000000000000),V.int m])
 refine q t _ m _ HH ?_ ?_ m0 m1 ((B4.same s5).mono (by omega)) ((S3.trans S4).trans s5.sameB)
 · split<;>split<;>omega
 · split<;>split<;>omega
theorem Z6(F:Fun K "_law_span" "_law_span" PF f fd)(Hc:Γ32 P w K mg base):FnOk P w K mg base H_ 2 f fd ["well","grid","wide"] (S9):=by
 refine F.ok Gs (λvs H Q E h=>?_) (λcdv A outer s H vs Q E hr h=>?_)
 · obtain⟨b,g,l,t,n,lo,sz,wide,rfl,Bg,hn,et,s1,s2,w1,w2,q⟩:=h;rfl
 obtain⟨b,g,l,t,n,lo,sz,wide,rfl,Bg,hn,et,s1,s2,w1,w2,q⟩:=h;refine⟨_,(HK (HY (i:=3) Gs.nd rfl (Or.inl rfl) (HP Hc (hr.mono (by decide)) rfl (HB (pv 0) (HB HF HC))))
  (HK (HY (i:=4) Gs.nd rfl (Or.inl rfl) (HU IM (Ii JN (pv 1) HF (λ_ _=>rfl)) (HU LB (Ii JN (pv 1) HF (λ_ _=>rfl)) (HP Hc (hr.mono (by decide)) rfl (HB (pv 0) (HB (pv 2) HC))))))
  (HK (HY (i:=5) Gs.nd rfl (Or.inl rfl) (HU Lh (HU IM (pv 4) (HU LB (Ii JN (pv 1) HF (λ_ _=>rfl)) (HU IM HF (HP Hc (hr.mono (by decide)) rfl (HB (pv 0) (HB (pv 2) HC)))))) HF))
  (HK (Ip (Ig Jg (pv 3) HF (Ie _)) (HM (HX (I_ (HB My (HB My HC))))) Io)
  (HK (Ip (Ig Jg (pv 3) HF (Ie _)) (HM (HX (I_ (HB My (HB (pv 5) HC))))) Io)
  (HM (HX (KG (Ig Jg (pv 3) HF (Ie _)) (I_ (HB (pv 4) (HB My HC))) (I_ (HB (pv 4) (HB (pv 5) HC))))))))))),?_⟩
 refine⟨_,rfl,b,g,l,n,8,rfl,Bg,by omega,by decide,by decide,λpick H1 p0 p1 B1 S1=>?_⟩;have e1:=Bg.tup S1 et;refine⟨_,rfl,t,_,0,_,rfl,rfl,SqT.of e1,rfl,_,rfl,t,_,1,_,rfl,rfl,SqT.of e1,rfl,_,rfl,_,rfl,b,g,l,_,wide,rfl,B1,by omega,by omega,J5 (by omega),λx H2 x0 x1 B2 S2=>?_⟩;have e2:=B1.tup S2 e1;refine⟨_,_,rfl,rfl,.inl ⟨by omega,by omega⟩,_,_,rfl,rfl,?_⟩;refine⟨_,rfl,_,rfl,t,_,1,_,rfl,rfl,SqT.of e2,rfl,_,rfl,_,rfl,b,g,l,_,wide,rfl,B2,by omega,by omega,J5 (by omega),λy H3 y0 y1 B3 S3=>?_⟩;have S03:=S1.trans (S2.trans S3);refine⟨_,_,rfl,rfl,_,_,rfl,rfl,.inl ⟨by omega,by omega⟩,_,_,rfl,rfl,_,_,rfl,rfl,?_⟩;have hp:1≤sz*(1+y):=by have:1*1≤sz*(1+y):=FF s1 (by omega) (by decide) (by omega);omega
 dsimp only;generalize sz*(1+y)=d at*;generalize lo+sz*x=L at*;have fin:∀(a b':Option Int),KU a b'=true→∀r,H3 r=none→Q (.ref r) (HD H3 r (.tup [eV a,eV b'])):=λa b' h r hr=>q r a b' _ HH h ((B3.same (HN hr _)).mono (by omega)) (S03.trans (HN hr _).sameB);refine⟨_,rfl,rfl,_,rfl,Il (λ_=>⟨IJ,fin none none rfl⟩) (λ_=>?_)⟩;refine⟨_,rfl,rfl,_,rfl,Il (λ_=>⟨_,rfl,IJ,fin none (some (L+d - 1)) rfl⟩) (λ_=>?_)⟩;refine⟨_,rfl,rfl,_,rfl,Il (λ_=>⟨_,rfl,IJ,fin (some L) none rfl⟩) (λ_=>⟨_,rfl,_,rfl,IJ,fin (some L) (some (L+d - 1)) (decide_eq_true (by omega))⟩)⟩
theorem Z9(F:Fun K "_law_wish" "_law_wish" PJ f fd)(Hc:Γ32 P w K mg base)(Hf:Γ37 P w K mg base):FnOk P w K mg base H_ 3 f fd ["well","names","grid","wide"] (SD):=by
 refine F.ok Gu (λvs H Q E h=>?_) (λcdv A outer s H vs Q E hr h=>?_)
 · obtain⟨b,g,l,a,t,n,lo,sz,wide,fs,rfl,Bg,hn,FA,et,s1,s2,w1,w2,q⟩:=h;rfl
 obtain⟨b,g,l,a,t,n,lo,sz,wide,fs,rfl,Bg,hn,FA,et,s1,s2,w1,w2,q⟩:=h;refine⟨_,(HK (HY (i:=4) Gu.nd rfl (Or.inl rfl) (IP HC))
  (HK (JC AT rfl (Jm (pv 1)) (HW (i:=5) Gu.nd rfl (Or.inl rfl)) (HM (Ip (Ig LZ (HP Hc (hr.mono (by decide)) rfl (HB (pv 0) (HB HF HC))) HF (Ie _)) (HK (KC (HP Hf (hr.mono (by decide)) rfl (HB (pv 0) (HB (pv 2) (HB (pv 3) HC)))) (JW rfl (Ih (HW (i:=6) Gu.nd rfl (Or.inl rfl)) (Ih (HW (i:=7) Gu.nd rfl (Or.inl rfl)) Jq))))
  (HM (JI (JM AL AW AX Kb (pv 4) (HB (I_ (HB (pv 5) (HB (pv 6) (HB (pv 7) HC)))) HC))))) Io)))
  (HM (HX (Mj UJ rfl B.tuple_ Lo (HB (pv 4) HC)))))),?_⟩
 refine⟨J2,λr hr'=>?_⟩;obtain⟨rb,rg,rl⟩:=Bg.free hr';have s0:=HN hr' (.lst []);have FA0:=FA.sameB s0.sameB;have rf:r≠a:=λe=>by rw[e,FA.at'] at hr';cases hr'
 refine⟨_,rfl,a,rfl,⟨_,SqL.of FA0.at'⟩,LG (K:=K) (a:=a) (xs:=fs.map V.str) (λi σ H'=>(∃y5 y6 y7,σ=[some (.ref b),some (.ref a),some (.ref t),some (.int wide),some (.ref r),y5,y6,y7])∧SameB b g H H'∧Well H' b g l (n+4*i)∧NamesAt H' b g a fs∧H' t=some (.tup [.int lo,.int sz])∧
  ∃qs:List (Addr×WP),H' r=some (.lst (qs.map λq=>V.ref q.1))∧(∀q∈qs,H' q.1=some (.tup [.str q.2.1,eV q.2.2.1,eV q.2.2.2])∧KU q.2.2.1 q.2.2.2=true)∧(qs.map (·.2.1)).Sublist (fs.take i)) ?_ ?_ ?_ ?_⟩
 · exact⟨⟨none,none,none,rfl⟩,s0.sameB,(Bg.same s0).mono (by omega),FA0,s0 _ _ et,[],HH,λq hq=>by simp at hq,by simp⟩
 · rintro i σ H' _ ⟨_,_,_,F1,_⟩;exact SqL.of F1.at'
 · rintro i x σ H1 hx ⟨⟨y5,y6,y7,rfl⟩,S1,B1,F1,t1,qs,e1,a1,u1⟩;rw[Aj] at hx;cases ef:fs[i]? with
   | none=>rw[ef] at hx;cases hx
   | some f'=>
    rw[ef] at hx;obtain rfl:V.str f'=x:=A4 hx;have li:i<6:=by have:=(Aq.mp ef).1;have:=FA.len;omega
    refine⟨_,rfl,b,g,l,_,4,rfl,B1,by omega,by decide,by decide,λc H2 c0 c1 B2 S2=>?_⟩;have e2:=S2 _ _ e1 rb rg;have F2:=F1.sameB S2;have t2:=B1.tup S2 t1;have a2:∀q∈qs,H2 q.1=some (.tup [.str q.2.1,eV q.2.2.1,eV q.2.2.2])∧KU q.2.2.1 q.2.2.2=true:=λq hq=>⟨B1.tup S2 (a1 q hq).1,(a1 q hq).2⟩;have u2:(qs.map (·.2.1)).Sublist (fs.take (i+1)):=u1.trans (List.take_sublist_take_left (by omega));refine⟨_,_,rfl,rfl,_,rfl,Il (λ_=>?_) (λ_=>?_)⟩
    · refine⟨_,rfl,_,rfl,_,rfl,b,g,l,t,_,lo,sz,wide,rfl,B2,by omega,t2,s1,s2,w1,w2,λv lo' hi' H3 sp le3 B3 S3=>?_⟩;have e3:=S3 _ _ e2 rb rg;have F3:=F2.sameB S3;have t3:=B2.tup S3 t2;have S03:=S1.trans (S2.trans S3);have a3:∀q∈qs,H3 q.1=some (.tup [.str q.2.1,eV q.2.2.1,eV q.2.2.2])∧KU q.2.2.1 q.2.2.2=true:=λq hq=>⟨B2.tup S3 (a2 q hq).1,(a2 q hq).2⟩;refine⟨v,_,rfl,SqT.of sp,rfl,_,_,rfl,_,_,rfl,rfl,?_⟩;refine⟨_,rfl,.inl ⟨rfl,_,SqL.of e3⟩,_,rfl,_,rfl,_,rfl,Ms,λt' ht=>?_⟩;have st:=HN ht (.tup [V.str f',eV lo',eV hi']);have e4:=st _ _ e3;refine⟨r,_,_,rfl,rfl,e4,(by rw[Ab];have:=u1.length_le;simp at this;exact IB (by omega)),?_⟩;have tl:=NI (o:= .lst (qs.map (λq=>V.ref q.1)++[V.ref t'])) e4;have nr:H r=none:=hr';refine⟨⟨_,_,_,rfl⟩,(S03.trans st.sameB).off nr,((B3.same st).off rb rg rl).mono (by omega),?_,tl _ _ (st _ _ t3),qs++[(t',f',lo',hi')],?_,?_,?_⟩
      · have F4:=F3.sameB st.sameB;exact⟨by rw[HV rf.symm];exact F4.at',F4.nb,F4.ng,F4.len,F4.ok,F4.asc⟩
      · rw[HH,Ar];rfl
      · intro q hq;rcases AD.mp hq with z | z
        · exact⟨tl _ _ (st _ _ (a3 q z).1),(a3 q z).2⟩
        · rw[Ax.mp z];exact⟨tl _ _ HH,le3⟩
      · rw[Ar,J0 ef];exact u1.append (List.Sublist.refl _)
    · exact⟨⟨_,_,_,rfl⟩,S1.trans S2,B2.mono (by omega),F2,t2,qs,e2,a2,u2⟩
 · rintro σ H1 ⟨⟨y5,y6,y7,rfl⟩,S1,B1,F1,t1,qs,e1,a1,u1⟩;rw[show fs.take (fs.map V.str).length=fs from AO (by simp)] at u1;have ll:qs.length≤6:=by have h1:=u1.length_le;have h2:=FA.len;rw[Ab] at h1;omega
   refine⟨_,rfl,r,_,rfl,.inl ⟨SqL.of e1,λt ht=>?_⟩⟩;have st:=HN ht (.tup (qs.map λq=>V.ref q.1));have sub:∀q∈qs,q.2.1∈fs:=λq hq=>u1.subset (Ba (f:=λ(x:Addr×WP)=>x.2.1) hq);refine q t (qs.map (·.2)) _ ⟨qs,rfl,HH,λq hq=>st _ _ (a1 q hq).1⟩ ⟨by rw[Ab];omega,λp hp=>?_,?_⟩ (λp hp=>?_) (by rw[Ab];exact ll) ((B1.same st).mono (by rw[Ab];have:=FA.len;omega)) (S1.trans st.sameB)
   · obtain⟨q',hq',rfl⟩:=AG.mp hp;exact⟨FA.ok _ (sub q' hq'),(a1 q' hq').2⟩
   · rw[Cd];exact FA.asc.sublist u1
   · obtain⟨q',hq',rfl⟩:=AG.mp hp;exact sub q' hq'
theorem ze9(F:Fun K "_law_wishes" "_law_wishes" P4 f fd)(Hc:Γ32 P w K mg base)(Hg:Γ38 P w K mg base):FnOk P w K mg base H_ 4 f fd ["well","names","grid","wide","many"] (Ud):=by
 refine F.ok Gv (λvs H Q E h=>?_) (λcdv A outer s H vs Q E hr h=>?_)
 · obtain⟨b,g,l,a,t,n,lo,sz,wide,many,fs,rfl,Bg,hn,FA,et,s1,s2,w1,w2,m0,m1,q⟩:=h;rfl
 obtain⟨b,g,l,a,t,n,lo,sz,wide,many,fs,rfl,Bg,hn,FA,et,s1,s2,w1,w2,m0,m1,q⟩:=h;refine⟨_,(HK (HY (i:=5) Gv.nd rfl (Or.inl rfl) (IP HC))
  (HK (JC AT rfl (KD rfl B.range_ (HB (pv 4) HC)) (HW (i:=6) Gv.nd rfl (Or.inl rfl)) (HK (HY (i:=7) Gv.nd rfl (Or.inl rfl) (HP Hc (hr.mono (by decide)) rfl (HB (pv 0) (HB HF HC))))
  (HK (HY (i:=8) Gv.nd rfl (Or.inl rfl) (HP Hg (hr.mono (by decide)) rfl (HB (pv 0) (HB (pv 1) (HB (pv 2) (HB (pv 3) HC))))))
  (HK (Ip (PW.pt (Ma (Ig (Rz (Kc hr)) (pv 5) (IP HC) (Ie _)) (Mf (Ig Mu (pv 7) HF (Ie _))))) (HK (HY (i:=9) Gv.nd rfl (Or.inl rfl) (Ii IA (pv 5) (HP Hc (hr.mono (by decide)) rfl (HB (pv 0) (HB (Ia IN rfl B.len_ ID (HB (pv 5) HC)) HC))) (λ_ _=>rfl)))
  (HK (HY (i:=10) Gv.nd rfl (Or.inl rfl) (HP Hc (hr.mono (by decide)) rfl (HB (pv 0) (HB (HU IM (Ia IN rfl B.len_ ID (HB (pv 9) HC)) HF) HC))))
  (HM (HY (i:=8) Gv.nd rfl (Or.inl rfl) (KG (Ig Jg (pv 7) HF (Ie _)) (pv 9) (HU Wf (KH Sr (pv 9) KA (KI (pv 10))) (KH Sr (pv 9) (KI (HU IM (pv 10) HF)) KA))))))) Io)
  (HM (JI (JM AL AW AX Kb (pv 5) (HB (pv 8) HC))))))))
  (HM (HX (pv 5))))),?_⟩
 refine⟨J2,λr hr'=>?_⟩;obtain⟨rb,rg,rl⟩:=Bg.free hr';have s0:=HN hr' (.lst []);have e0:(HD H r (.lst [])) r=some (.lst []):=HH;have FA0:=FA.sameB s0.sameB;have rf:r≠a:=λe=>by rw[e,FA.at'] at hr';cases hr'
 have nr:H r=none:=hr';have B0:=Bg.same s0;have t0:=s0 _ _ et;generalize HD H r (.lst [])=H0 at*;obtain⟨N,rfl,N1⟩:∃N:Nat,many=(N:Int)∧N≤400:=⟨many.toNat,by omega,by omega⟩;refine⟨_,rfl,_,rfl,by omega,by omega,OY (lo:=0) (n:=N) (λi σ H'=>(∃y6 y7 y8 y9 y10,σ=[some (.ref b),some (.ref a),some (.ref t),some (.int wide),some (.int (N:Int)),some (.ref r),y6,y7,y8,y9,y10])∧SameB b g H H'∧Well H' b g l (n+40*i)∧NamesAt H' b g a fs∧H' t=some (.tup [.int lo,.int sz])∧
  ∃ws:List (Addr×List WP),H' r=some (.lst (ws.map λx=>V.ref x.1))∧ws.length=i∧∀x∈ws,WishAt H' x.1 x.2∧WOk x.2∧Mq fs x.2∧x.2.length≤6) ?_ ?_ ?_⟩
 · exact⟨⟨none,none,none,none,none,rfl⟩,s0.sameB,B0.mono (by omega),FA0,t0,[],e0,rfl,λx hx=>by simp at hx⟩
 · rintro i σ H1 hi ⟨⟨y6,y7,y8,y9,y10,rfl⟩,S1,B1,F1,t1,ws,e1,lw,g1⟩;refine⟨_,rfl,b,g,l,_,6,rfl,B1,by omega,by decide,by decide,λpick H2 p0 p1 B2 S2=>?_⟩;refine⟨_,rfl,_,rfl,_,rfl,_,rfl,b,g,l,a,t,_,lo,sz,wide,fs,rfl,B2,by omega,F1.sameB S2,B1.tup S2 t1,s1,s2,w1,w2,λwr w H3 W3 ok3 in3 len3 B3 S3=>?_⟩;have S13:=S2.trans S3;have e3:=S13 _ _ e1 rb rg;have F3:=F1.sameB S13;have t3:=B2.tup S3 (B1.tup S2 t1);have g3:∀x∈ws,WishAt H3 x.1 x.2∧WOk x.2∧Mq fs x.2∧x.2.length≤6:=λx hx=>⟨((g1 x hx).1.sameW B1 S2).sameW B2 S3,(g1 x hx).2⟩;refine IW ?_;dsimp only;refine K0 (λσ' H'=>∃(wr:Addr)(w:List WP)(y9 y10:Option V),σ'=[some (.ref b),some (.ref a),some (.ref t),some (.int wide),some (.int (N:Int)),some (.ref r),some (.int (0+(i:Int))),some (.int pick),some (.ref wr),y9,y10]∧WishAt H' wr w∧WOk w∧Mq fs w∧w.length≤6∧SameB b g H3 H'∧Well H' b g l (n+40*i+35)) (λZ hZ=>?_) ?_
   · refine⟨_,rfl,J2,λep hep=>?_⟩;have s4:=HN hep (.lst []);have e4:=s4 _ _ e3;have g4:∀x∈ws,WishAt (HD H3 ep (.lst [])) x.1 x.2∧WOk x.2∧Mq fs x.2∧x.2.length≤6:=λx hx=>⟨(g3 x hx).1.same s4,(g3 x hx).2⟩;have B4:=B3.same s4;have W4:=W3.same s4;have h4:(HD H3 ep (.lst [])) ep=some (.lst []):=HH;generalize HD H3 ep (.lst [])=H4 at*;have nope:Z [some (.ref b),some (.ref a),some (.ref t),some (.int wide),some (.int (N:Int)),some (.ref r),some (.int (0+(i:Int))),some (.int pick),some (.ref wr),y9,y10] H4:=hZ _ _ ⟨wr,w,y9,y10,rfl,W4,ok3,in3,len3,s4.sameB,B4.mono (by omega)⟩;refine⟨r,ep,_,rfl,rfl,e4,h4,_,rfl,?_⟩;by_cases hw:ws=[]
     · subst hw;exact HE (HE nope)
     · have wpos:0<ws.length:=List.length_pos_iff.mpr hw;have ne:(ws.map λx=>V.ref x.1).isEmpty=false:=by
        cases ws with
        | nil=>exact absurd rfl hw
        | cons x0 r0=>rfl
       rw[ne];refine HG ⟨_,rfl,_,_,rfl,rfl,_,rfl,Il (λ_=>?_) (λ_=>nope)⟩;refine⟨_,rfl,_,rfl,_,rfl,r,_,rfl,.inl (SqL.of e4),b,g,l,_,_,rfl,B4,by omega,by rw[Ab];omega,J5 (by rw[Ab];omega),λk H5 k0 k1 B5 S5=>?_⟩;have e5:=S5 _ _ e4 rb rg;rw[Ab] at k1;obtain⟨j,rfl⟩:∃j:Nat,k=(j:Int):=⟨k.toNat,by omega⟩;obtain⟨X1,eX⟩:∃X1,ws[j]?=some X1:=⟨ws[j]'(by omega),Ay (by omega)⟩;have hX:IL (ws.map λx=>V.ref x.1) (j:Int)=some (V.ref X1.1):=J9 (by rw[Aj,eX];rfl);obtain⟨x1,x2,x3,x4⟩:=g4 X1 (Ak eX);have x5:=x1.sameW B4 S5;refine⟨r,_,_,_,rfl,rfl,SqL.of e5,hX,?_⟩;obtain⟨xs1,ex1,lx1⟩:=x5.tyN;refine⟨_,rfl,_,rfl,X1.1,_,rfl,.inr (SqT.of ex1),_,_,rfl,rfl,b,g,l,_,_,rfl,B5,by omega,by omega,J5 (by omega),λat' H6 a0 a1 B6 S6=>?_⟩;have x6:=x5.sameW B5 S6;have S36:=s4.sameB.trans (S5.trans S6);refine⟨_,rfl,rfl,_,rfl,Il (λ_=>⟨_,rfl,hZ _ _ ⟨X1.1,X1.2,_,_,rfl,x6,x2,x3,x4,S36,B6.mono (by omega)⟩⟩) (λ_=>?_)⟩;obtain⟨k',rfl⟩:∃k':Nat,at'=(k':Int):=⟨at'.toNat,by omega⟩;obtain⟨ps,hps,hA,hP⟩:=x6;have lps:ps.length≤6:=by rw[←hps,Ab] at x4;exact x4
       refine⟨_,rfl,_,rfl,_,rfl,X1.1,_,rfl,hA,λp1 H12 s12 e12=>?_⟩;rw[TD rfl,←List.map_take] at e12;refine⟨_,rfl,_,rfl,_,_,rfl,rfl,_,rfl,X1.1,_,rfl,s12 _ _ hA,λp2 H13 s13 e13=>?_⟩;rw[Yy (n:=k'+1) (by omega),←List.map_drop] at e13;refine⟨p1,p2,_,_,rfl,rfl,s13 _ _ e12,e13,(by rw[Ab,AA,Ab,DV];exact L7 (by omega)),λr2 H14 s14 e14=>?_⟩;rw[←Ar] at e14;have tt:=s12.trans (s13.trans s14);have sub:(ps.take k'++ps.drop (k'+1)).Sublist ps:=by rw[←List.eraseIdx_eq_take_drop_succ];exact List.eraseIdx_sublist ..
       have subw:((ps.take k'++ps.drop (k'+1)).map (·.2)).Sublist X1.2:=by rw[←hps];exact sub.map _
       refine hZ _ _ ⟨r2,(ps.take k'++ps.drop (k'+1)).map (·.2),_,_,rfl,⟨_,rfl,e14,λx hx=>tt _ _ (hP x (sub.subset hx))⟩,⟨A2 subw.length_le x2.len,λp hp=>x2.ok p (subw.subset hp),x2.asc.sublist (subw.map _)⟩,λp hp=>x3 p (subw.subset hp),A2 subw.length_le x4,S36.trans tt.sameB,(B6.same tt).mono (by omega)⟩
   rintro σ' H5 ⟨wr,w,y9,y10,rfl,W5,ok5,in5,len5,S5,B5⟩;have e5:=S5 _ _ e3 rb rg;have F5:=F3.sameB S5;refine⟨_,rfl,.inl ⟨rfl,_,SqL.of e5⟩,_,rfl,r,_,_,rfl,rfl,e5,(by rw[Ab];exact IB (by omega)),?_⟩;have tl:=NI (o:= .lst (ws.map (λq=>V.ref q.1)++[V.ref wr])) e5;refine⟨⟨_,_,_,_,_,rfl⟩,((S1.trans S13).trans S5).off nr,(B5.off rb rg rl).mono (by omega),⟨by rw[HV rf.symm];exact F5.at',F5.nb,F5.ng,F5.len,F5.ok,F5.asc⟩,tl _ _ (B3.tup S5 t3),ws++[(wr,w)],by rw[HH,Ar];rfl,by rw[Az,lw];rfl,λx hx=>?_⟩;rcases AD.mp hx with z | z
   · exact⟨((g3 x z).1.sameW B3 S5).keep tl,(g3 x z).2⟩
   · rw[Ax.mp z];exact⟨W5.keep tl,ok5,in5,len5⟩
 · rintro σ H1 ⟨⟨y6,y7,y8,y9,y10,rfl⟩,S1,B1,F1,t1,ws,e1,lw,g1⟩;exact⟨_,rfl,q r ws _ nr ⟨e1,λx hx=>⟨(g1 x hx).1,(g1 x hx).2.1⟩,by omega⟩ (by omega) (λx hx=>(g1 x hx).2.2) (B1.mono (by omega)) S1⟩
theorem Z3(F:Fun K "_law_part" "_law_part" P8 f fd)  :FnOk P w K mg base H_ 1 f fd ["wish","field"] (RE):=by
 refine F.ok Gw (λvs H Q E h=>?_) (λcdv A outer s H vs Q E hr h=>?_)
 · obtain⟨a,w',f',rfl,hw,wok,q⟩:=h;rfl
 obtain⟨a,w',f',rfl,hw,wok,q⟩:=h;refine⟨_,(HK (JC AT rfl (LC (pv 0)) (JW rfl (Ih (HW (i:=2) Gw.nd rfl (Or.inl rfl)) (Ih (HW (i:=3) Gw.nd rfl (Or.inl rfl)) (Ih (HW (i:=4) Gw.nd rfl (Or.inl rfl)) Jq)))) (HM (Ip (Ig Jg (pv 2) (pv 1) (Ie _)) (HM (HX (I_ (HB (pv 3) (HB (pv 4) HC))))) Io)))
  (HM (HX My))),?_⟩
 obtain⟨ps,rfl,hA,hP⟩:=hw;refine⟨_,rfl,a,rfl,⟨_,SqT.of hA⟩,N2 (K:=K) (a:=a) (xs:=ps.map λp=>V.ref p.1) (λi σ H'=>(∃y2 y3 y4,σ=[some (.ref a),some (.str f'),y2,y3,y4])∧Same H H'∧∀p∈(ps.map (·.2)).take i,p.1≠f') ⟨⟨none,none,none,rfl⟩,Same.refl _,λp hp=>by simp at hp⟩ (λi σ H' _ ⟨_,s,_⟩=>s.seqT (SqT.of hA)) ?_ ?_⟩
 · rintro i x σ H' hx ⟨⟨y2,y3,y4,rfl⟩,s,hr'⟩;obtain⟨P1,e1,rfl⟩:=Iy hx;have hm:=Ak e1;have ew:(ps.map (·.2))[i]?=some P1.2:=by rw[Aj,e1];rfl
   refine⟨P1.1,_,rfl,SqT.of (s _ _ (hP P1 hm)),rfl,_,_,rfl,_,_,rfl,_,_,rfl,rfl,?_⟩;refine⟨_,rfl,_,rfl,rfl,_,rfl,Il (λe=>?_) (λe=>?_)⟩
   · have e:P1.2.1=f':=by
      have:=of_decide_eq_true e;injection this
     refine⟨_,rfl,_,rfl,IJ,λu hu=>?_⟩;have su:=HN hu (.tup [eV P1.2.2.1,eV P1.2.2.2]);refine q _ _ (s.trans su) ?_;rw[YQ ew e hr'];exact⟨u,rfl,HH⟩
   · refine⟨⟨_,_,_,rfl⟩,s,λp hp=>?_⟩;rw[J0 ew] at hp;rcases AD.mp hp with z | z
     · exact hr' p z
     · rw[Ax.mp z];exact λz=>e (decide_eq_true (by rw[z]))
 · rintro σ H' ⟨_,s,hr'⟩;rw[Ab,AO (by simp)] at hr';refine q _ _ s ?_;rw[UC hr']
theorem ZW(F:Fun K "_law_covers" "_law_covers" Py f fd)(Hh:Γ40 P w K mg base):FnOk P w K mg base H_ 2 f fd ["one","other"] (RB):=by
 refine F.ok Gx (λvs H Q E h=>?_) (λcdv A outer s H vs Q E hr h=>?_)
 · obtain⟨a,b,w1,w2,rfl,hw1,hw2,ok1,ok2,q⟩:=h;rfl
 obtain⟨a,b,w1,w2,rfl,hw1,hw2,ok1,ok2,q⟩:=h;refine⟨_,(HK (JC AT rfl (LC (pv 0)) (JW rfl (Ih (HW (i:=2) Gx.nd rfl (Or.inl rfl)) (Ih (HW (i:=3) Gx.nd rfl (Or.inl rfl)) (Ih (HW (i:=4) Gx.nd rfl (Or.inl rfl)) Jq)))) (HK (HY (i:=5) Gx.nd rfl (Or.inl rfl) (HP Hh (hr.mono (by decide)) rfl (HB (pv 1) (HB (pv 2) HC))))
  (HK (Ip (JX (Jz (pv 5))) (HM (HX IV)) Io)
  (HK (Ip (PW.pt (Ma (JX (M3 (pv 3))) (Mf (PW.pt (JB (JX (Jz (Ii JN (pv 5) HF (λ_ _=>rfl)))) (JJ (Ig Mu (Ii JN (pv 5) HF (λ_ _=>rfl)) (pv 3) (Ie _)))))))) (HM (HX IV)) Io)
  (HM (Ip (PW.pt (Ma (JX (M3 (pv 4))) (Mf (PW.pt (JB (JX (Jz (Ii JN (pv 5) HF (λ_ _=>rfl)))) (JJ (Ig LZ (Ii JN (pv 5) HF (λ_ _=>rfl)) (pv 4) (Ie _)))))))) (HM (HX IV)) Io))))))
  (HM (HX IV))),?_⟩
 obtain⟨ps,rfl,hA,hP⟩:=hw1;refine⟨_,rfl,a,rfl,⟨_,SqT.of hA⟩,N2 (K:=K) (a:=a) (xs:=ps.map λp=>V.ref p.1) (λi σ H'=>(∃y2 y3 y4 y5,σ=[some (.ref a),some (.ref b),y2,y3,y4,y5])∧Same H H'∧IK ((ps.map (·.2)).take i) w2=true) ⟨⟨none,none,none,none,rfl⟩,Same.refl _,rfl⟩ (λi σ H' _ ⟨_,s,_⟩=>s.seqT (SqT.of hA)) ?_ ?_⟩
 · rintro i x σ H' hx ⟨⟨y2,y3,y4,y5,rfl⟩,s,hr'⟩;obtain⟨P1,e1,rfl⟩:=Iy hx;have hm:=Ak e1;have ew:(ps.map (·.2))[i]?=some P1.2:=by rw[Aj,e1];rfl
   refine⟨P1.1,_,rfl,SqT.of (s _ _ (hP P1 hm)),rfl,_,_,rfl,_,_,rfl,_,_,rfl,rfl,?_⟩;have out:Li w2 P1.2=false→∀H2,Same H H2→Q (.bl false) H2:=λh H2 s2=>by
    have:IK (ps.map (·.2)) w2=false:=by unfold IK;rw[List.all_eq_false];exact⟨P1.2,Ba hm,by rw[h];exact An⟩
    rw[this] at q;exact q _ s2
   have good:Li w2 P1.2=true→IK ((ps.map (·.2)).take (i+1)) w2=true:=λh=>by rw[J0 ew];unfold IK at*;rw[List.all_append,hr',Bool.true_and,C6,List.all_nil,h];rfl
   refine⟨_,rfl,_,rfl,b,w2,P1.2.1,rfl,hw2.same s,ok2,λv H2 s2 hv=>?_⟩;have t2:=s.trans s2;cases hs:IY w2 P1.2.1 with
   | none=> rw[hs] at hv;obtain rfl:v= .non:=hv;exact⟨_,rfl,_,rfl,HG (out (UH hs) _ t2)⟩
   | some sp=>
    rw[hs] at hv;obtain⟨t,rfl,et⟩:=hv;refine⟨_,rfl,_,rfl,HE ?_⟩;have rp:=P6 hs;obtain⟨lo2,hi2⟩:=sp;obtain⟨pa,f',lo,hi⟩:=P1;unfold Re;dsimp only at*;refine K0 (λσ' H'=>σ'=[some (.ref a),some (.ref b),some (.str f'),some (eV lo),some (eV hi),some (.ref t)]∧H'=H2∧K9 lo lo2=true) (λZ hZ=>?_) ?_
    · have nx:K9 lo lo2=true→Z [some (.ref a),some (.ref b),some (.str f'),some (eV lo),some (eV hi),some (.ref t)] H2:=λh=>hZ _ _ ⟨rfl,rfl,h⟩;cases lo with
      | none=>exact⟨_,rfl,_,rfl,HE (HE (nx rfl))⟩
      | some l=>
       cases lo2 with
       | none=>exact⟨_,rfl,_,rfl,HG ⟨_,rfl,t,_,0,_,rfl,rfl,SqT.of et,rfl,_,rfl,HG (HG (out (rp.trans (by simp[Kg,K9,Ml])) _ t2))⟩⟩
       | some o=>
        refine⟨_,rfl,_,rfl,HG ⟨_,rfl,t,_,0,_,rfl,rfl,SqT.of et,rfl,_,rfl,HE ⟨_,rfl,t,_,0,_,rfl,rfl,SqT.of et,rfl,_,rfl,_,_,rfl,rfl,_,rfl,Il (λh=>?_) (λh=>?_)⟩⟩⟩
        · have h:=of_decide_eq_true h;exact out (rp.trans (by simp[Kg,K9,Ml];omega)) _ t2
        · have h:=of_decide_eq_false (EJ.mpr h);exact nx (decide_eq_true (by omega))
    · rintro σ' H4 ⟨rfl,e4,hd⟩;rw[e4];clear e4 H4;have nx:Ml hi hi2=true→(∃y2 y3 y4 y5,[some (V.ref a),some (.ref b),some (.str f'),some (eV lo),some (eV hi),some (.ref t)]=[some (V.ref a),some (.ref b),y2,y3,y4,y5])∧Same H H2∧IK ((ps.map (·.2)).take (i+1)) w2=true:=λh=>⟨⟨_,_,_,_,rfl⟩,t2,good (rp.trans (by unfold Kg;rw[hd,h];rfl))⟩;cases hi with
      | none=>exact⟨_,rfl,_,rfl,HE (HE (nx rfl))⟩
      | some l=>
       cases hi2 with
       | none=>exact⟨_,rfl,_,rfl,HG ⟨_,rfl,t,_,1,_,rfl,rfl,SqT.of et,rfl,_,rfl,HG (HG (out (rp.trans (by simp[Kg,K9,Ml])) _ t2))⟩⟩
       | some o=>
        refine⟨_,rfl,_,rfl,HG ⟨_,rfl,t,_,1,_,rfl,rfl,SqT.of et,rfl,_,rfl,HE ⟨_,rfl,t,_,1,_,rfl,rfl,SqT.of et,rfl,_,rfl,_,_,rfl,rfl,_,rfl,Il (λh=>?_) (λh=>?_)⟩⟩⟩
        · have h:=of_decide_eq_true h;exact out (rp.trans (by simp[Kg,K9,Ml];omega)) _ t2
        · have h:=of_decide_eq_false (EJ.mpr h);exact nx (decide_eq_true (by omega))
 · rintro σ H' ⟨_,s,hr'⟩;rw[Ab,AO (by simp)] at hr';rw[hr'] at q;exact q _ s
theorem Z5(F:Fun K "_law_rank" "_law_rank" PB f fd)  :FnOk P w K mg base H_ 1 f fd ["wish"] (Sw K):=by
 refine F.ok Gy (λvs H Q E h=>?_) (λcdv A outer s H vs Q E hr h=>?_)
 · obtain⟨a,w',rfl,hw,wok,q⟩:=h;rfl
 obtain⟨a,w',rfl,hw,wok,q⟩:=h;refine⟨_,(HK (HY (i:=1) Gy.nd rfl (Or.inl rfl) (IP HC))
  (HK (JC AT rfl (LC (pv 0)) (JW rfl (Ih (HW (i:=2) Gy.nd rfl (Or.inl rfl)) (Ih (HW (i:=3) Gy.nd rfl (Or.inl rfl)) (Ih (HW (i:=4) Gy.nd rfl (Or.inl rfl)) Jq)))) (HM (JI (JM AL AW AX Kb (pv 1) (HB (I_ (HB (pv 2) (HB (Kf (M3 (pv 3))) (HB (KG (JX (Jz (pv 3))) HF (pv 3)) (HB (Kf (Jz (pv 4))) (HB (KG (JX (Jz (pv 4))) HF (pv 4)) HC)))))) HC)))))
  (HM (HX (Mj UJ rfl B.tuple_ Lo (HB (pv 1) HC)))))),?_⟩
 obtain⟨ps,rfl,hA,hP⟩:=hw;refine⟨J2,λr hr'=>?_⟩;have s0:=HN hr' (.lst []);refine⟨_,rfl,a,rfl,⟨_,SqT.of (s0 _ _ hA)⟩,N2 (K:=K) (a:=a) (xs:=ps.map λp=>V.ref p.1) (λi σ H'=>(∃y2 y3 y4,σ=[some (.ref a),some (.ref r),y2,y3,y4])∧Same H H'∧∃qs:List (Addr×WP),H' r=some (.lst (qs.map λq=>V.ref q.1))∧qs.map (·.2)=(ps.map (·.2)).take i∧∀q∈qs,H' q.1=some (.tup (KR q.2))) ⟨⟨none,none,none,rfl⟩,s0,[],HH,rfl,λq hq=>by simp at hq⟩ (λi σ H' _ ⟨_,s,_⟩=>s.seqT (SqT.of hA)) ?_ ?_⟩
 · rintro i x σ H' hx ⟨⟨y2,y3,y4,rfl⟩,s,qs,ev,rv,aq⟩;obtain⟨P1,e1,rfl⟩:=Iy hx;have hm:=Ak e1;have ew:(ps.map (·.2))[i]?=some P1.2:=by rw[Aj,e1];rfl
   refine⟨P1.1,_,rfl,SqT.of (s _ _ (hP P1 hm)),rfl,_,_,rfl,_,_,rfl,_,_,rfl,rfl,?_⟩;have lv:(qs.map λq=>V.ref q.1).length<Aw:=by have h1:=congrArg Db rv;rw[Ab,AA] at h1;rw[Ab];have h2:=wok.len;exact IB (by omega)
   obtain⟨pa,f',lo,hi⟩:=P1;dsimp only at*;have fin:∀u,H' u=none→RX (V.ref r) [V.ref u] (HD H' u (.tup (KR (f',lo,hi)))) λx H1=>(∃y2 y3 y4,[some (V.ref a),some (V.ref r),some (.str f'),some (eV lo),some (eV hi)]=[some (V.ref a),some (V.ref r),y2,y3,y4])∧Same H H1∧∃qs:List (Addr×WP),H1 r=some (.lst (qs.map λq=>V.ref q.1))∧qs.map (·.2)=(ps.map (·.2)).take (i+1)∧∀q∈qs,H1 q.1=some (.tup (KR q.2)):=λu hu=>by
    have su:=HN hu (.tup (KR (f',lo,hi)));have eu:(HD H' u (.tup (KR (f',lo,hi)))) u=some (.tup (KR (f',lo,hi))):=HH;generalize HD H' u (.tup (KR (f',lo,hi)))=H2 at*;have tl:=NI (o:= .lst (qs.map (λq=>V.ref q.1)++[V.ref u])) (su _ _ ev);refine⟨r,_,_,rfl,rfl,su _ _ ev,lv,⟨_,_,_,rfl⟩,Jh (s.trans su) hr',qs++[(u,f',lo,hi)],by rw[HH,Ar];rfl,by rw[Ar,rv,J0 ew];rfl,λq hq=>?_⟩;rcases AD.mp hq with z | z
    · exact tl _ _ (su _ _ (aq q z))
    · rw[Ax.mp z];exact tl _ _ eu
   refine⟨_,rfl,.inl ⟨rfl,_,SqL.of ev⟩,?_⟩;cases lo with
   | none=>
    cases hi with
    | none=>exact⟨_,rfl,_,rfl,_,rfl,_,rfl,HG ⟨_,rfl,_,rfl,_,rfl,HG ⟨No,λu hu=>fin u hu⟩⟩⟩
    | some h=>exact⟨_,rfl,_,rfl,_,rfl,_,rfl,HG ⟨_,rfl,_,rfl,_,rfl,HE ⟨_,rfl,No,λu hu=>fin u hu⟩⟩⟩
   | some l=>
    cases hi with
    | none=>exact⟨_,rfl,_,rfl,_,rfl,_,rfl,HE ⟨_,rfl,_,rfl,_,rfl,_,rfl,HG ⟨No,λu hu=>fin u hu⟩⟩⟩
    | some h=>exact⟨_,rfl,_,rfl,_,rfl,_,rfl,HE ⟨_,rfl,_,rfl,_,rfl,_,rfl,HE ⟨_,rfl,No,λu hu=>fin u hu⟩⟩⟩
 · rintro σ H' ⟨⟨y2,y3,y4,rfl⟩,s,qs,ev,rv,aq⟩;rw[Ab,AO (by simp)] at rv;refine⟨_,rfl,r,_,rfl,.inl ⟨SqL.of ev,λt ht=>?_⟩⟩;have st:=HN ht (.tup (qs.map λq=>V.ref q.1));refine q _ _ (s.trans st) ?_;unfold K5;rw[Rep,←rv];exact⟨t,_,rfl,SqT.of HH,SM qs λx hx=>st _ _ (aq x hx)⟩
theorem zea(F:Fun K "_law_greatest" "_law_greatest" Mk f fd)(Hi:Γ42 P w K mg base)(Hj:Γ41 P w K mg base):FnOk P w K mg base H_ 4 f fd ["wishes"] (Rj):=by
 refine F.ok Gz (λvs H Q E h=>?_) (λcdv A outer s H vs Q E hr h=>?_)
 · obtain⟨l,ws,rfl,hw,hf,q⟩:=h;rfl
 obtain⟨l,ws,rfl,hw,hf,q⟩:=h;refine⟨_,(HK (HY (i:=1) Gz.nd rfl (Or.inr rfl) (IP HC))
  (HK (JC AT rfl (Jm (pv 0)) (HW (i:=2) Gz.nd rfl (Or.inl rfl)) (HM (Ip (Ig (Ul (Kc hr)) (pv 2) (pv 1) (by with_unfolding_all rfl)) (HM (JI (JM AL AW AX Kb (pv 1) (HB (pv 2) HC)))) Io)))
  (HK (LL (N':=["wish","some"]) (js:=[none,some 1]) (i:=3) Gz.nd rfl (Or.inl rfl) rfl (IQ (N:=["wishes","some","wish","top"]) (outer:=HQ Mk) (by decide+kernel)) (Jm (pv 1)) (λ_ _ _ _ _=>(HW (i:=0) MZ rfl (Or.inr rfl))) (λ_ _ _ _ _=>Kz (Ig (Vt (Kc hr)) (J6 (N':=["one","wish"]) (js:=[none,some 0]) rfl (IQ (N:=["wish","some"]) (outer:=Qq (HQ Mk) (VF Mk 2)) (by decide+kernel)) (Tq K rfl (pv 1)) (λ_ _ _ _ _=>(HW (i:=0) MY rfl (Or.inl rfl))) (λ_ _ _ _ _=>Kz (PW.pt (Ma (Ig (Wg K rfl (Kc hr)) (pv 0) (pv 1) (Ie _)) (Mf (Ja (HP Hj (hr.mono (by decide)) rfl (HB (pv 0) (HB (pv 1) HC)))))))) (λ_ _ _ _ _=>(pv 0))) (IP HC) (Ie _))) (λ_ _ _ _ _=>(pv 0)))
  (HM (HX (Uy Hi (hr.mono (by decide)) rfl B.sorted_ rfl (HB (pv 3) HC))))))),?_⟩
 have hA:=hw.at';refine⟨J2,λsr hsr=>?_⟩;have s0:=HN hsr (.lst []);have sl:sr≠l:=λe=>by rw[e,hA] at hsr;cases hsr
 refine⟨_,rfl,l,rfl,⟨_,SqL.of (s0 _ _ hA)⟩,LG (K:=K) (a:=l) (xs:=ws.map λx=>V.ref x.1) (λi σ H'=>(∃y2 y3,σ=[some (.ref l),some (.ref sr),y2,y3])∧Same H H'∧∃ks,Dd (ws.take i) ks∧H' sr=some (.lst (ks.map λx=>V.ref x.1))) ⟨⟨none,none,rfl⟩,s0,[],Dd.nil,HH⟩ (λi σ H' _ ⟨_,s,_⟩=>SqL.of (s _ _ hA)) ?_ ?_⟩
 · rintro i x σ H1 hx ⟨⟨y2,y3,rfl⟩,s1,ks,dd,e1⟩;obtain⟨X1,ew,rfl⟩:=Iy hx;have x1:=((hw.ok X1 (Ak ew)).1).same s1;have wk:∀k∈ks,WishAt H1 k.1 k.2:=λk hk=>((hw.ok k (CP (dd.sub k hk))).1).same s1;have dn:=dd.put X1;rw[←J0 ew] at dn;unfold JD at dn;refine⟨_,rfl,_,rfl,sr,ks.map λk=>(k.1,dW k.2),dW X1.2,rfl,SqL.of (by rw[Cd];exact e1),λp hp=>?_,Lg x1,?_⟩
   · obtain⟨k,hk,rfl⟩:=AG.mp hp;exact⟨Lg (wk k hk),A2 (Ny _) (by decide)⟩
   · have ea:((ks.map λk=>(k.1,dW k.2)).any λp=>HL p.2 (dW X1.2))=ks.any λk=>decide (k.2=X1.2):=by
      rw[Fb];exact congrArg (λf=>ks.any f) (funext λk=>Nw k.2 X1.2)
     rw[ea];cases c:ks.any λk=>decide (k.2=X1.2) with
     | true=> rw[if_pos c] at dn;exact⟨_,rfl,HE ⟨⟨_,_,rfl⟩,s1,ks,dn,e1⟩⟩
     | false=>
      rw[if_neg (by rw[c];exact An)] at dn;refine⟨_,rfl,HG ⟨_,rfl,.inl ⟨rfl,_,SqL.of e1⟩,_,rfl,sr,_,_,rfl,rfl,e1,?_,?_⟩⟩
      · rw[Ab];have h1:=dd.len;have h2:=hw.len;rw[AA] at h1;exact IB (by omega)
      · exact⟨⟨_,_,rfl⟩,Jh s1 hsr,ks++[(X1.1,X1.2)],dn,by rw[HH,Ar];rfl⟩
 · rintro σ H1 ⟨⟨y2,y3,rfl⟩,s1,ks,dd,e1⟩;rw[Ab,Bd] at dd;have wk:∀k∈ks,WishAt H1 k.1 k.2∧WOk k.2:=λk hk=>⟨((hw.ok k (dd.sub k hk)).1).same s1,(hw.ok k (dd.sub k hk)).2⟩;have lk:ks.length≤800:=A2 dd.len hw.len;refine⟨_,rfl,sr,rfl,⟨_,SqL.of e1⟩,λtp htp=>?_⟩;have sp:=HN htp (.lst []);refine LI (xs:=ks.map λx=>V.ref x.1) (λi σ' ys H'=>(∃v,σ'=[v,some (.ref sr)])∧Same H1 H'∧H' tp=some (.lst ys)∧ys=((ks.take i).filter λk=>IZ ks k.2).map λx=>V.ref x.1) ⟨⟨none,rfl⟩,sp,HH,rfl⟩ ?_ ?_ ?_
   · rintro i σ' ys H' hi ⟨_,s,h1,h2⟩;refine⟨s.seq (SqL.of e1),h1,?_⟩;rw[h2,Ab];have h3:=AE (λk=>IZ ks k.2) (ks.take i);rw[AA] at h3;exact IB (by omega)
   · rintro i x σ' ys H2 N hx ⟨⟨v,rfl⟩,s2,h1,h2⟩ hN;obtain⟨X1,ew,rfl⟩:=Iy hx;obtain⟨x1,x2⟩:=wk X1 (Ak ew);refine⟨_,rfl,sr,rfl,⟨_,SqL.of (s2 _ _ e1)⟩,λip hip=>?_⟩;refine LI (xs:=ks.map λx=>V.ref x.1) (λj σ' zs H'=>(∃v,σ'=[v,some (.ref X1.1)])∧Same H2 H'∧H' ip=some (.lst zs)∧zs=((ks.take j).filter λk=>!decide (k.2=X1.2) && IK k.2 X1.2).map λx=>V.ref x.1) ⟨⟨none,rfl⟩,HN hip _,HH,rfl⟩ ?_ ?_ ?_
     · rintro j σ' zs H' hj ⟨_,s,g1,g2⟩;refine⟨s.seq (SqL.of (s2 _ _ e1)),g1,?_⟩;rw[g2,Ab];have h3:=AE (λk:Addr×List WP=>!decide (k.2=X1.2) && IK k.2 X1.2) (ks.take j);rw[AA] at h3;exact IB (by omega)
     · rintro j x σ' zs H3 N3 hx ⟨⟨v,rfl⟩,s3,g1,g2⟩ hN3;obtain⟨O1,eo,rfl⟩:=Iy hx;obtain⟨o1,o2⟩:=wk O1 (Ak eo);have st:((ks.take (j+1)).filter λk=>!decide (k.2=X1.2) && IK k.2 X1.2)=(ks.take j).filter (λk=>!decide (k.2=X1.2) && IK k.2 X1.2)++(if(!decide (O1.2=X1.2) && IK O1.2 X1.2)=true then [O1] else []):=by
        rw[J0 eo,Bi];congr 1;rw[BQ];rfl
       refine⟨_,rfl,_,rfl,dW O1.2,dW X1.2,Lg (o1.same (s2.trans s3)),Lg (x1.same (s2.trans s3)),BO (Ny _) (by decide),_,rfl,?_⟩;rw[Nw];cases c:decide (O1.2=X1.2) with
       | true=> rw[c] at st;exact HE (HE (hN3 _ _ _ ⟨⟨_,rfl⟩,s3,g1,by rw[g2,st];simp⟩))
       | false=>
        rw[c] at st;refine HG ⟨_,rfl,_,rfl,O1.1,X1.1,O1.2,X1.2,rfl,o1.same (s2.trans s3),x1.same (s2.trans s3),o2,x2,λH4 s4=>⟨_,rfl,?_⟩⟩;cases r:IK O1.2 X1.2 with
        | true=> rw[r] at st;exact HG ⟨_,rfl,s4 _ _ g1,hN3 _ _ _ ⟨⟨_,rfl⟩,Jh (s3.trans s4) hip,HH,by rw[g2,st];simp⟩⟩
        | false=> rw[r] at st;exact HE (hN3 _ _ _ ⟨⟨_,rfl⟩,s3.trans s4,s4 _ _ g1,by rw[g2,st];simp⟩)
     · rintro σ' zs H3 ⟨_,s3,g1,rfl⟩;rw[Ab,Bd] at g1;refine⟨J2,λep hep=>?_⟩;have s4:=HN hep (.lst []);refine⟨ip,ep,_,rfl,rfl,s4 _ _ g1,HH,_,rfl,?_⟩;have ee:((ks.filter λk=>!decide (k.2=X1.2) && IK k.2 X1.2).map λx=>V.ref x.1).isEmpty=IZ ks X1.2:=by
        rw[List.isEmpty_map,Zu];unfold IZ;simp only[Bool.and_comm]
       rw[ee];have st:((ks.take (i+1)).filter λk=>IZ ks k.2)=(ks.take i).filter (λk=>IZ ks k.2)++(if IZ ks X1.2=true then [X1] else []):=by rw[J0 ew,Bi];congr 1;rw[BQ];rfl
       have s24:=s2.trans (s3.trans s4);cases c:IZ ks X1.2 with
       | true=> rw[c] at st;exact HG ⟨_,rfl,(s3.trans s4) _ _ h1,hN _ _ _ ⟨⟨_,rfl⟩,Jh s24 htp,HH,by rw[h2,st];simp⟩⟩
       | false=> rw[c] at st;exact HE (hN _ _ _ ⟨⟨_,rfl⟩,s24,(s3.trans s4) _ _ h1,by rw[h2,st];simp⟩)
   · rintro σ' ys H2 ⟨_,s2,h1,rfl⟩;rw[Ab,Bd] at h1;have T2:TopAt H2 tp ws (ks.filter λk=>IZ ks k.2):=⟨h1,λx hx=>dd.sub x (BB.mp hx).1,dd.top,A2 (AE _ _) dd.len⟩;have W2:WsAt H2 tp (ks.filter λk=>IZ ks k.2):=⟨h1,λx hx=>⟨((wk x (BB.mp hx).1).1).same s2,(wk x (BB.mp hx).1).2⟩,A2 (AE _ _) lk⟩;generalize(ks.filter λk=>IZ ks k.2)=qs at*;refine⟨_,rfl,Tv (T2.few hf) K5 W2 (λx hx H3 s3 Q1 hQ=>⟨x.1,x.2,rfl,((W2.ok x hx).1).same s3,(W2.ok x hx).2,hQ⟩) ?_ (λw=>A2 (Xd w) (by decide)) (λw w'=>by unfold K5;rw[HR,Tj]) Wl λr rs H3 s3 nr pm sr e3=>?_⟩
     · by_cases h2:qs.length<2
       · exact .inl h2
       · refine .inr (.inr (.inl λi hi=>?_));have ne:=T2.2.2.1.some (by rw[Ab];omega) (qs.getD i (0,[])).2 (by
          rw[A7,Ay hi];exact Ba (EV hi))
         cases e:(qs.getD i (0,[])).2 with
         | nil=>exact absurd e ne
         | cons p ps=> refine⟨[.str p.1,.bl p.2.1.isSome,.int (p.2.1.getD 0),.bl p.2.2.isNone,.int (p.2.2.getD 0)],ps.map Jj,?_⟩;show K5 (qs.getD i (0,[])).2=_;rw[e];rfl
     · exact q r rs H3 (s1.trans (s2.trans s3)) (s1.free (s2.free nr)) ⟨e3,λx hx=>T2.2.1 x (pm.mem_iff.mp hx),T2.2.2.1.perm (pm.map _),by rw[pm.length_eq];exact T2.2.2.2⟩ sr
theorem Zw(F:Fun K "_law_alike" "_law_alike" N_ f fd)  (M_self:mg "_law_alike"=some (.ref f)):FnOk P w K mg base H_ 11 f fd ["found","due"] (O6 9 OL):=by
 have b_self:=F.binds (ps:=["found","due"]) λ_ _ _ _ _ _=>lS λ_=>lS λ_=>l0 rfl
 refine Xj (L:=0) (D:=9) (R3 F U8 b_self M_self 0 (OL) λn sp0 hsp Hk=>?_);refine F.ok U8 (λvs H Q E h=>?_) (λcdv A outer s H vs Q E hr h=>?_)
 · obtain⟨v,v',d,rfl,n9,h1,h2,hn,q⟩:=h;rfl
 obtain⟨v,v',d,rfl,n9,h1,h2,hn,q⟩:=h;refine⟨_,(HK (Ip (Ja (Ia UD rfl B.isinstance_ Jl (HB (pv 1) (HB (I_ (HB (Jd (v:= .ty "list") rfl B.list_ JY rfl) (HB (Jd (v:= .ty "tuple") rfl B.tuple_ Lo rfl) HC))) HC)))) (HK (Ip (PW.pt (JB (Ji (Ja (Ia UD rfl B.isinstance_ Jl (HB (pv 0) (HB (I_ (HB (Jd (v:= .ty "list") rfl B.list_ JY rfl) (HB (Jd (v:= .ty "tuple") rfl B.tuple_ Lo rfl) HC))) HC))))) (JJ (Ig L5 (Ia (Jw (n:="")) rfl B.isinstance_ Jl (HB (pv 0) (HB (Jd (v:= .ty "list") rfl B.list_ JY rfl) HC))) (Ia (Jw (n:="")) rfl B.isinstance_ Jl (HB (pv 1) (HB (Jd (v:= .ty "list") rfl B.list_ JY rfl) HC))) (Ie _))))) (HM (HX IV)) Io)
  (HM (HX (J7 (K2 Jg (Ia IN rfl B.len_ ID (HB (pv 0) HC)) (Ia IN rfl B.len_ ID (HB (pv 1) HC)) (Ie _)) (Jv (Ia (LD rfl) rfl B.all_ L9 (HB (J6 (N':=["k","found","due"]) (js:=[none,some 0,some 1]) rfl (IQ (N:=["found","due"]) (outer:=HQ N_) (by decide+kernel)) (KD rfl B.range_ (HB (Ia IN rfl B.len_ ID (HB (pv 1) HC)) HC)) (λ_ _ _ _ _=>(HW (i:=0) MX rfl (Or.inl rfl))) (λ_ _ _ _ _=>Jx) (λ_ _ _ _ _=>(HP Hk (hr.mono (by omega)) rfl (HB (Ii (Sf K rfl) (pv 1) (pv 0) (λ_ _=>rfl)) (HB (Ii (Sf K rfl) (pv 2) (pv 0) (λ_ _=>rfl)) HC))))) HC))))))) Io)
  (HK (Ip (PW.pt (JB (JX (Jz (pv 1))) (JJ (JX (Jz (pv 0)))))) (HM (HX (J7 (Kf (Jz (pv 1))) (Jv (Kf (Jz (pv 0))))))) Io)
  (HK (Ip (PW.pt (JB (Ig L5 (Ia (Jw (n:="")) rfl B.isinstance_ Jl (HB (pv 1) (HB (Jd (v:= .ty "bool") rfl B.bool_ OD rfl) HC))) (Ia (Jw (n:="")) rfl B.isinstance_ Jl (HB (pv 0) (HB (Jd (v:= .ty "bool") rfl B.bool_ OD rfl) HC))) (Ie _)) (JJ (Ig L5 (Ia (Jw (n:="")) rfl B.isinstance_ Jl (HB (pv 1) (HB (Jd (v:= .ty "int") rfl B.int_ Oz rfl) HC))) (Ia (Jw (n:="")) rfl B.isinstance_ Jl (HB (pv 0) (HB (Jd (v:= .ty "int") rfl B.int_ Oz rfl) HC))) (Ie _))))) (HM (HX IV)) Io)
  (HM (HX (J7 (K2 Jg (Ia (Jw (n:="")) rfl B.isinstance_ Jl (HB (pv 0) (HB (Jd (v:= .ty "str") rfl B.str_ O2 rfl) HC))) (Ia (Jw (n:="")) rfl B.isinstance_ Jl (HB (pv 1) (HB (Jd (v:= .ty "str") rfl B.str_ O2 rfl) HC))) (Ie _)) (Jv (K2 (Vu (Kc hr)) (pv 0) (pv 1) (Ie _))))))))),?_⟩
 cases d with
 | non=> rw[RepY] at h1 h2;subst h1 h2;refine⟨_,rfl,IJ,λt1 ht1=>?_⟩;have s1:=HN ht1 (.tup [V.ty "list",V.ty "tuple"]);have c1:(HD H t1 (.tup [V.ty "list",V.ty "tuple"])) t1=some (.tup [V.ty "list",V.ty "tuple"]):=HH;generalize HD H t1 (.tup [V.ty "list",V.ty "tuple"])=H1 at*;refine⟨_,"NoneType",t1,_,false,rfl,.non,c1,rfl,rfl,_,rfl,HE ?_⟩;exact⟨_,rfl,_,rfl,HG (HG ⟨_,rfl,_,rfl,HG ⟨_,rfl,q H1 s1⟩⟩)⟩
 | bl x=> have r1:=h1;have r2:=h2;rw[RepY] at h1 h2;subst h1 h2;refine⟨_,rfl,IJ,λt1 ht1=>?_⟩;have s1:=HN ht1 (.tup [V.ty "list",V.ty "tuple"]);have c1:(HD H t1 (.tup [V.ty "list",V.ty "tuple"])) t1=some (.tup [V.ty "list",V.ty "tuple"]):=HH;generalize HD H t1 (.tup [V.ty "list",V.ty "tuple"])=H1 at*;refine⟨_,"bool",t1,_,false,rfl,.bl x,c1,rfl,rfl,_,rfl,HE ?_⟩;refine⟨_,rfl,_,rfl,HE ⟨_,rfl,_,rfl,HE ?_⟩⟩;refine⟨_,rfl,_,"bool","bool",true,rfl,.bl x,rfl,_,rfl,_,"bool","bool",true,rfl,.bl x,rfl,rfl,_,rfl,HE ?_⟩;refine⟨_,rfl,_,"bool","int",true,rfl,.bl x,rfl,_,rfl,_,"bool","int",true,rfl,.bl x,rfl,rfl,_,rfl,HE ?_⟩;refine⟨_,rfl,_,"bool","str",false,rfl,.bl x,rfl,_,rfl,_,"bool","str",false,rfl,.bl x,rfl,rfl,_,rfl,HG ?_⟩;exact⟨_,rfl,_,rfl,_,RepY.same s1 _ r1,RepY.same s1 _ r2,by omega,q H1 s1⟩
 | int x=> have r1:=h1;have r2:=h2;rw[RepY] at h1 h2;subst h1 h2;refine⟨_,rfl,IJ,λt1 ht1=>?_⟩;have s1:=HN ht1 (.tup [V.ty "list",V.ty "tuple"]);have c1:(HD H t1 (.tup [V.ty "list",V.ty "tuple"])) t1=some (.tup [V.ty "list",V.ty "tuple"]):=HH;generalize HD H t1 (.tup [V.ty "list",V.ty "tuple"])=H1 at*;refine⟨_,"int",t1,_,false,rfl,.int x,c1,rfl,rfl,_,rfl,HE ?_⟩;refine⟨_,rfl,_,rfl,HE ⟨_,rfl,_,rfl,HE ?_⟩⟩;refine⟨_,rfl,_,"int","bool",false,rfl,.int x,rfl,_,rfl,_,"int","bool",false,rfl,.int x,rfl,rfl,_,rfl,HE ?_⟩;refine⟨_,rfl,_,"int","int",true,rfl,.int x,rfl,_,rfl,_,"int","int",true,rfl,.int x,rfl,rfl,_,rfl,HE ?_⟩;refine⟨_,rfl,_,"int","str",false,rfl,.int x,rfl,_,rfl,_,"int","str",false,rfl,.int x,rfl,rfl,_,rfl,HG ?_⟩;exact⟨_,rfl,_,rfl,_,RepY.same s1 _ r1,RepY.same s1 _ r2,by omega,q H1 s1⟩
 | str x=> have r1:=h1;have r2:=h2;rw[RepY] at h1 h2;obtain⟨rfl,hx⟩:=h1;obtain⟨rfl,_⟩:=h2;refine⟨_,rfl,IJ,λt1 ht1=>?_⟩;have s1:=HN ht1 (.tup [V.ty "list",V.ty "tuple"]);have c1:(HD H t1 (.tup [V.ty "list",V.ty "tuple"])) t1=some (.tup [V.ty "list",V.ty "tuple"]):=HH;generalize HD H t1 (.tup [V.ty "list",V.ty "tuple"])=H1 at*;refine⟨_,"str",t1,_,false,rfl,.str x,c1,rfl,rfl,_,rfl,HE ?_⟩;refine⟨_,rfl,_,rfl,HE ⟨_,rfl,_,rfl,HE ?_⟩⟩;refine⟨_,rfl,_,"str","bool",false,rfl,.str x,rfl,_,rfl,_,"str","bool",false,rfl,.str x,rfl,rfl,_,rfl,HE ?_⟩;refine⟨_,rfl,_,"str","int",false,rfl,.str x,rfl,_,rfl,_,"str","int",false,rfl,.str x,rfl,rfl,_,rfl,HE ?_⟩;refine⟨_,rfl,_,"str","str",true,rfl,.str x,rfl,_,rfl,_,"str","str",true,rfl,.str x,rfl,rfl,_,rfl,HG ?_⟩;exact⟨_,rfl,_,rfl,_,RepY.same s1 _ r1,RepY.same s1 _ r2,by omega,q H1 s1⟩
 | dic=> have r1:=h1;have r2:=h2;rw[RepY] at h1 h2;obtain⟨a,rfl,ha⟩:=h1;obtain⟨a',rfl,ha'⟩:=h2;refine⟨_,rfl,IJ,λt1 ht1=>?_⟩;have s1:=HN ht1 (.tup [V.ty "list",V.ty "tuple"]);have c1:(HD H t1 (.tup [V.ty "list",V.ty "tuple"])) t1=some (.tup [V.ty "list",V.ty "tuple"]):=HH;generalize HD H t1 (.tup [V.ty "list",V.ty "tuple"])=H1 at*;refine⟨_,"dict",t1,_,false,rfl,.dK (s1 _ _ ha'),c1,rfl,rfl,_,rfl,HE ?_⟩;refine⟨_,rfl,_,rfl,HE ⟨_,rfl,_,rfl,HE ?_⟩⟩;refine⟨_,rfl,_,"dict","bool",false,rfl,.dK (s1 _ _ ha'),rfl,_,rfl,_,"dict","bool",false,rfl,.dK (s1 _ _ ha),rfl,rfl,_,rfl,HE ?_⟩;refine⟨_,rfl,_,"dict","int",false,rfl,.dK (s1 _ _ ha'),rfl,_,rfl,_,"dict","int",false,rfl,.dK (s1 _ _ ha),rfl,rfl,_,rfl,HE ?_⟩;refine⟨_,rfl,_,"dict","str",false,rfl,.dK (s1 _ _ ha),rfl,_,rfl,_,"dict","str",false,rfl,.dK (s1 _ _ ha'),rfl,rfl,_,rfl,HG ?_⟩;exact⟨_,rfl,_,rfl,_,RepY.same s1 _ r1,RepY.same s1 _ r2,by omega,q H1 s1⟩
 | da d=> have r1:=h1;have r2:=h2;rw[RepY] at h1 h2;obtain⟨a,u,rfl,ha,hu⟩:=h1;obtain⟨a',u',rfl,ha',hu'⟩:=h2;refine⟨_,rfl,IJ,λt1 ht1=>?_⟩;have s1:=HN ht1 (.tup [V.ty "list",V.ty "tuple"]);have c1:(HD H t1 (.tup [V.ty "list",V.ty "tuple"])) t1=some (.tup [V.ty "list",V.ty "tuple"]):=HH;generalize HD H t1 (.tup [V.ty "list",V.ty "tuple"])=H1 at*;refine⟨_,"dict",t1,_,false,rfl,.dK (s1 _ _ ha'),c1,rfl,rfl,_,rfl,HE ?_⟩;refine⟨_,rfl,_,rfl,HE ⟨_,rfl,_,rfl,HE ?_⟩⟩;refine⟨_,rfl,_,"dict","bool",false,rfl,.dK (s1 _ _ ha'),rfl,_,rfl,_,"dict","bool",false,rfl,.dK (s1 _ _ ha),rfl,rfl,_,rfl,HE ?_⟩;refine⟨_,rfl,_,"dict","int",false,rfl,.dK (s1 _ _ ha'),rfl,_,rfl,_,"dict","int",false,rfl,.dK (s1 _ _ ha),rfl,rfl,_,rfl,HE ?_⟩;refine⟨_,rfl,_,"dict","str",false,rfl,.dK (s1 _ _ ha),rfl,_,rfl,_,"dict","str",false,rfl,.dK (s1 _ _ ha'),rfl,rfl,_,rfl,HG ?_⟩;exact⟨_,rfl,_,rfl,_,RepY.same s1 _ r1,RepY.same s1 _ r2,by omega,q H1 s1⟩
 | lst ds=>
  rw[RepY] at h1 h2;obtain⟨a,xs,rfl,ha,h9,hx⟩:=h1;obtain⟨a',xs',rfl,ha',_,hx'⟩:=h2;obtain⟨m,rfl⟩:∃m,n=m+1:=⟨n - 1,by rw[Iu] at hn;omega⟩;have e0:=hsp m rfl;subst e0;rw[Iu] at hn;have hl:=hx.length;have hl':=hx'.length;refine⟨_,rfl,IJ,λt1 ht1=>?_⟩;have s1:=HN ht1 (.tup [V.ty "list",V.ty "tuple"]);have c1:(HD H t1 (.tup [V.ty "list",V.ty "tuple"])) t1=some (.tup [V.ty "list",V.ty "tuple"]):=HH;generalize HD H t1 (.tup [V.ty "list",V.ty "tuple"])=H1 at*;refine⟨_,"list",t1,_,true,rfl,.lst (s1 _ _ ha'),c1,rfl,rfl,_,rfl,HG ⟨_,rfl,IJ,λt2 ht2=>?_⟩⟩;have s2:=HN ht2 (.tup [V.ty "list",V.ty "tuple"]);have c2:(HD H1 t2 (.tup [V.ty "list",V.ty "tuple"])) t2=some (.tup [V.ty "list",V.ty "tuple"]):=HH;generalize HD H1 t2 (.tup [V.ty "list",V.ty "tuple"])=H2 at*;have S:=s1.trans s2;have ka:=S _ _ ha;have ka':=S _ _ ha';refine⟨_,"list",t2,_,true,rfl,.lst ka,c2,rfl,rfl,_,rfl,HE ⟨_,rfl,_,"list","list",true,rfl,.lst ka,rfl,_,rfl,_,"list","list",true,rfl,.lst ka',rfl,rfl,_,rfl,HE ?_⟩⟩;refine⟨_,rfl,a,_,rfl,.inl (SqL.of ka),_,rfl,a',_,rfl,.inl (SqL.of ka'),rfl,_,rfl,?_⟩;rw[decide_eq_true (show V.int ((xs.length:Nat):Int)=V.int ((xs'.length:Nat):Int) by rw[hl,hl'])];refine HG ⟨_,rfl,a',_,rfl,.inl (SqL.of ka'),_,rfl,by omega,by omega,λp hp=>?_⟩;have s3:=HN hp (.lst []);refine LH (n:=((xs'.length:Nat):Int).toNat) (λi σ' ys H'=>(∃v,σ'=[v,some (.ref a),some (.ref a')])∧Same H2 H'∧H' p=some (.lst ys)∧ys=(AH i true).map V.bl) ⟨⟨none,rfl⟩,s3,HH,rfl⟩ ?_ ?_ ?_
  · rintro i σ' ys H' hi ⟨_,_,h1,h2⟩;exact⟨h1,by rw[h2,Ab,By];exact IB (by omega)⟩
  · rintro i σ' ys H4 N hi ⟨⟨v,rfl⟩,s4,h1,h2⟩ hN;have hi2:i<xs'.length:=by omega
    obtain⟨x,ex⟩:∃x,xs[i]?=some x:=⟨xs[i]'(by omega),by simp[hl,hl',hi2]⟩;obtain⟨x',ex'⟩:∃x,xs'[i]?=some x:=⟨xs'[i],by simp[hi2]⟩;obtain⟨d,ed,rd⟩:=hx.get ex;obtain⟨d',ed',rd'⟩:=hx'.get ex';rw[ed] at ed';injection ed' with ed';subst ed';have e0:(0:Int)+(i:Int)=(i:Int):=by omega
    have at1:IL xs (0+(i:Int))=some x:=by rw[e0];exact J9 ex
    have at2:IL xs' (0+(i:Int))=some x':=by rw[e0];exact J9 ex'
    have S4:=S.trans s4;refine⟨_,rfl,_,rfl,a,xs,_,x,rfl,rfl,.inl (SqL.of (S4 _ _ ha)),at1,_,rfl,_,rfl,a',xs',_,x',rfl,rfl,.inl (SqL.of (S4 _ _ ha')),at2,x,x',d,rfl,by omega,RepY.same S4 d rd,RepY.same S4 d rd',by have:=Pi (Ak ed);omega,λH5 s5=>⟨s5 _ _ h1,hN _ _ _ ⟨⟨_,rfl⟩,?_,HH,?_⟩⟩⟩
    · intro b o q;have:b≠p:=λz=>by rw[z,hp] at q;cases q
      rw[HV this];exact s5 _ _ (s4 b o q)
    · rw[h2,BR,Ar];rfl
  · rintro σ' ys H4 ⟨_,s4,h1,h2⟩;refine⟨p,_,rfl,SqL.of (by rw[h1,h2]),?_⟩;have e:(AH ((xs'.length:Nat):Int).toNat true).all id=true:=by simp
    rw[e];exact q H4 (S.trans s4)
 | tup ds=>
  rw[RepY] at h1 h2;obtain⟨a,xs,rfl,ha,h9,hx⟩:=h1;obtain⟨a',xs',rfl,ha',_,hx'⟩:=h2;obtain⟨m,rfl⟩:∃m,n=m+1:=⟨n - 1,by rw[Iu] at hn;omega⟩;have e0:=hsp m rfl;subst e0;rw[Iu] at hn;have hl:=hx.length;have hl':=hx'.length;refine⟨_,rfl,IJ,λt1 ht1=>?_⟩;have s1:=HN ht1 (.tup [V.ty "list",V.ty "tuple"]);have c1:(HD H t1 (.tup [V.ty "list",V.ty "tuple"])) t1=some (.tup [V.ty "list",V.ty "tuple"]):=HH;generalize HD H t1 (.tup [V.ty "list",V.ty "tuple"])=H1 at*;refine⟨_,"tuple",t1,_,true,rfl,.tup (s1 _ _ ha'),c1,rfl,rfl,_,rfl,HG ⟨_,rfl,IJ,λt2 ht2=>?_⟩⟩;have s2:=HN ht2 (.tup [V.ty "list",V.ty "tuple"]);have c2:(HD H1 t2 (.tup [V.ty "list",V.ty "tuple"])) t2=some (.tup [V.ty "list",V.ty "tuple"]):=HH;generalize HD H1 t2 (.tup [V.ty "list",V.ty "tuple"])=H2 at*;have S:=s1.trans s2;have ka:=S _ _ ha;have ka':=S _ _ ha';refine⟨_,"tuple",t2,_,true,rfl,.tup ka,c2,rfl,rfl,_,rfl,HE ⟨_,rfl,_,"tuple","list",false,rfl,.tup ka,rfl,_,rfl,_,"tuple","list",false,rfl,.tup ka',rfl,rfl,_,rfl,HE ?_⟩⟩;refine⟨_,rfl,a,_,rfl,.inr (SqT.of ka),_,rfl,a',_,rfl,.inr (SqT.of ka'),rfl,_,rfl,?_⟩;rw[decide_eq_true (show V.int ((xs.length:Nat):Int)=V.int ((xs'.length:Nat):Int) by rw[hl,hl'])];refine HG ⟨_,rfl,a',_,rfl,.inr (SqT.of ka'),_,rfl,by omega,by omega,λp hp=>?_⟩;have s3:=HN hp (.lst []);refine LH (n:=((xs'.length:Nat):Int).toNat) (λi σ' ys H'=>(∃v,σ'=[v,some (.ref a),some (.ref a')])∧Same H2 H'∧H' p=some (.lst ys)∧ys=(AH i true).map V.bl) ⟨⟨none,rfl⟩,s3,HH,rfl⟩ ?_ ?_ ?_
  · rintro i σ' ys H' hi ⟨_,_,h1,h2⟩;exact⟨h1,by rw[h2,Ab,By];exact IB (by omega)⟩
  · rintro i σ' ys H4 N hi ⟨⟨v,rfl⟩,s4,h1,h2⟩ hN;have hi2:i<xs'.length:=by omega
    obtain⟨x,ex⟩:∃x,xs[i]?=some x:=⟨xs[i]'(by omega),by simp[hl,hl',hi2]⟩;obtain⟨x',ex'⟩:∃x,xs'[i]?=some x:=⟨xs'[i],by simp[hi2]⟩;obtain⟨d,ed,rd⟩:=hx.get ex;obtain⟨d',ed',rd'⟩:=hx'.get ex';rw[ed] at ed';injection ed' with ed';subst ed';have e0:(0:Int)+(i:Int)=(i:Int):=by omega
    have at1:IL xs (0+(i:Int))=some x:=by rw[e0];exact J9 ex
    have at2:IL xs' (0+(i:Int))=some x':=by rw[e0];exact J9 ex'
    have S4:=S.trans s4;refine⟨_,rfl,_,rfl,a,xs,_,x,rfl,rfl,.inr (SqT.of (S4 _ _ ha)),at1,_,rfl,_,rfl,a',xs',_,x',rfl,rfl,.inr (SqT.of (S4 _ _ ha')),at2,x,x',d,rfl,by omega,RepY.same S4 d rd,RepY.same S4 d rd',by have:=Pi (Ak ed);omega,λH5 s5=>⟨s5 _ _ h1,hN _ _ _ ⟨⟨_,rfl⟩,?_,HH,?_⟩⟩⟩
    · intro b o q;have:b≠p:=λz=>by rw[z,hp] at q;cases q
      rw[HV this];exact s5 _ _ (s4 b o q)
    · rw[h2,BR,Ar];rfl
  · rintro σ' ys H4 ⟨_,s4,h1,h2⟩;refine⟨p,_,rfl,SqL.of (by rw[h1,h2]),?_⟩;have e:(AH ((xs'.length:Nat):Int).toNat true).all id=true:=by simp
    rw[e];exact q H4 (S.trans s4)
theorem Z4(F:Fun K "_law_pool" "_law_pool" P9 f fd)(Hl:Γ39 P w K mg base):FnOk P w K mg base H_ 5 f fd ["well","names","grid","wide","many"] (RF):=by
 refine F.ok G0 (λvs H Q E h=>?_) (λcdv A outer s H vs Q E hr h=>?_)
 · obtain⟨b,g,l,a,t,n,lo,sz,wide,many,fs,rfl,Bg,hn,hN,ht,z1,z2,w1,w2,m0,m1,q⟩:=h;rfl
 obtain⟨b,g,l,a,t,n,lo,sz,wide,many,fs,rfl,Bg,hn,hN,ht,z1,z2,w1,w2,m0,m1,q⟩:=h;refine⟨_,(HK (HY (i:=5) G0.nd rfl (Or.inl rfl) (IP HC))
  (HK (JC AT rfl (Jm (HP Hl (hr.mono (by decide)) rfl (HB (pv 0) (HB (pv 1) (HB (pv 2) (HB (pv 3) (HB (pv 4) HC))))))) (HW (i:=6) G0.nd rfl (Or.inl rfl)) (HM (Ip (Ig (Ul (Kc hr)) (pv 6) (pv 5) (by with_unfolding_all rfl)) (HM (JI (JM AL AW AX Kb (pv 5) (HB (pv 6) HC)))) Io)))
  (HM (HX (pv 5))))),?_⟩
 refine⟨J2,λr hr'=>?_⟩;obtain⟨rb,rg,rl⟩:=Bg.free hr';have s0:=HN hr' (.lst []);have e0:(HD H r (.lst [])) r=some (.lst []):=HH;have FA0:=hN.sameB s0.sameB;have nr:H r=none:=hr';have B0:=Bg.same s0;have t0:=s0 _ _ ht;have S0:SameB b g H (HD H r (.lst [])):=s0.sameB;generalize HD H r (.lst [])=H0 at*;refine⟨_,rfl,_,rfl,_,rfl,_,rfl,_,rfl,b,g,l,a,t,n,lo,sz,wide,many,fs,rfl,B0,by omega,FA0,t0,z1,z2,w1,w2,m0,by omega,λc ws H1 hc hw lw al B1 S1=>?_⟩;have cr:c≠r:=λe=>by rw[e,e0] at hc;cases hc
 have e1:=S1 _ _ e0 rb rg;refine⟨c,rfl,⟨_,SqL.of hw.at'⟩,LG (K:=K) (a:=c) (xs:=ws.map λx=>V.ref x.1) (λi σ H'=>(∃y,σ=[some (.ref b),some (.ref a),some (.ref t),some (.int wide),some (.int many),some (.ref r),y])∧SameB b g H H'∧Well H' b g l (n+40*many)∧H' c=some (.lst (ws.map λx=>V.ref x.1))∧(∀x∈ws,WishAt H' x.1 x.2)∧∃ks:List (Addr×List WP),H' r=some (.lst (ks.map λx=>V.ref x.1))∧(∀k∈ks,k∈ws)∧(ks.map (·.2)).Nodup∧ks.length≤i) ?_ ?_ ?_ ?_⟩
 · exact⟨⟨none,rfl⟩,S0.trans S1,B1.mono (by omega),hw.at',λx hx=>(hw.ok x hx).1,[],e1,λk hk=>(by simp at hk),Ew,Af _⟩
 · rintro i σ H' hi ⟨_,_,_,h,_⟩;exact SqL.of h
 · rintro i x σ H' hx ⟨⟨y,rfl⟩,S2,B2,c2,g2,ks,e2,sub,nd,le⟩;rw[Aj] at hx;cases ew:ws[i]? with
   | none=>rw[ew] at hx;cases hx
   | some X1=>
    rw[ew] at hx;cases hx;have mX:=Ak ew;have x1:=g2 X1 mX;refine IW ?_;refine⟨_,rfl,_,rfl,r,ks.map λk=>(k.1,dW k.2),dW X1.2,rfl,SqL.of (by rw[Cd];exact e2),λp hp=>?_,Lg x1,?_⟩
    · obtain⟨k,hk,rfl⟩:=AG.mp hp;exact⟨Lg (g2 k (sub k hk)),A2 (Ny _) (by decide)⟩
    · have ea:((ks.map λk=>(k.1,dW k.2)).any λp=>HL p.2 (dW X1.2))=ks.any λk=>decide (k.2=X1.2):=by
       rw[Fb];exact congrArg (λf=>ks.any f) (funext λk=>Nw k.2 X1.2)
      rw[ea];cases cc:ks.any λk=>decide (k.2=X1.2) with
      | true=>exact⟨_,rfl,HE ⟨⟨_,rfl⟩,S2,B2,c2,g2,ks,e2,sub,nd,by omega⟩⟩
      | false=>
       have hwl:=hw.len;have hil:i<ws.length:=(Aq.mp ew).1;refine⟨_,rfl,HG ⟨_,rfl,.inl ⟨rfl,_,SqL.of e2⟩,_,rfl,r,_,_,rfl,rfl,e2,?_,?_⟩⟩
       · rw[Ab];exact IB (by omega)
       · have tu:Tups H' (HD H' r (.lst ((ks.map λx=>V.ref x.1)++[V.ref X1.1]))):=λx xs e=>by
          rw[HV (λq=>by rw[q,e2] at e;cases e)];exact e
         refine⟨⟨_,rfl⟩,S2.off nr,B2.off rb rg rl,by rw[HV cr];exact c2,λx hx=>(g2 x hx).keep tu,ks++[X1],by rw[HH,Ar];rfl,λk hk=>?_,?_,by simp;omega⟩
         · rcases AD.mp hk with z | z
           · exact sub k z
           · rw[Ax.mp z];exact mX
         · rw[Ar,Ck];refine⟨nd,by simp,λu hu v hv=>?_⟩;obtain⟨k,hk,rfl⟩:=AG.mp hu;have ev:v=X1.2:=by simpa using hv
           subst ev;intro z;have:=List.any_eq_false.mp cc k hk;exact this (decide_eq_true z)
 · rintro σ H' ⟨⟨y,rfl⟩,S2,B2,c2,g2,ks,e2,sub,nd,le⟩;rw[Ab] at le;have hwl:=hw.len;exact⟨_,rfl,q r ks H' nr ⟨e2,λx hx=>⟨g2 x (sub x hx),(hw.ok x (sub x hx)).2⟩,by omega⟩ (by omega) nd B2 S2⟩
theorem ZY(F:Fun K "_law_picked" "_law_picked" NW f fd)(Hc:Γ32 P w K mg base):FnOk P w K mg base H_ 2 f fd ["well","row"] (SX):=by
 refine F.ok G1 (λvs H Q E h=>?_) (λcdv A outer s H vs Q E hr h=>?_)
 · obtain⟨b,g,l,a,n,xs,rfl,Bg,hn,ha,ab,ag,lx,q⟩:=h;rfl
 obtain⟨b,g,l,a,n,xs,rfl,Bg,hn,ha,ab,ag,lx,q⟩:=h;refine⟨_,(HK (HY (i:=2) G1.nd rfl (Or.inr rfl) (Mj NT rfl B.list_ JY (HB (pv 1) HC)))
  (HK (HY (i:=3) G1.nd rfl (Or.inl rfl) (HP Hc (hr.mono (by decide)) rfl (HB (pv 0) (HB HF HC))))
  (HK (Ip (Ig Jg (HP Hc (hr.mono (by decide)) rfl (HB (pv 0) (HB HF HC))) HF (Ie _)) (HM (HY (i:=3) G1.nd rfl (Or.inl rfl) (Ia IN rfl B.len_ ID (HB (pv 2) HC)))) Io)
  (HM (HX (J6 (N':=["k","well","left"]) (js:=[none,some 0,some 2]) rfl (IQ (N:=["well","row","left","many"]) (outer:=HQ NW) (by decide+kernel)) (KD rfl B.range_ (HB (Ia (OV rfl) rfl B.min_ O0 (HB (pv 3) (HB (Ia IN rfl B.len_ ID (HB (pv 1) HC)) HC))) HC)) (λ_ _ _ _ _=>(HW (i:=0) Lr rfl (Or.inl rfl))) (λ_ _ _ _ _=>Jx) (λ_ _ _ _ _=>(R0 K rfl AL D_ Ea OR (pv 2) (HB (HP Hc (hr.mono (by decide)) rfl (HB (pv 1) (HB (Ia (UI K rfl) rfl B.len_ ID (HB (pv 2) HC)) HC))) HC))))))))),?_⟩
 refine⟨_,rfl,a,_,rfl,.inl (SqL.of ha),λlf hlf=>?_⟩;have s0:=HN hlf (.lst xs);have e0:(HD H lf (.lst xs)) lf=some (.lst xs):=HH;have B0:=Bg.same s0;obtain⟨fb,fg,fl⟩:=Bg.free hlf;have ha0:=s0 _ _ ha;have S0:SameB b g H (HD H lf (.lst xs)):=s0.sameB;generalize HD H lf (.lst xs)=H0 at*;refine⟨_,rfl,b,g,l,_,4,rfl,B0,by omega,by decide,by decide,λm H1 m0 m3 B1 S1=>?_⟩;have e1:=S1 _ _ e0 fb fg;have ha1:=S1 _ _ ha0 ab ag;have S01:=S0.trans S1;dsimp only;refine K0 (λσ' H'=>∃k:Int,σ'=[some (.ref b),some (.ref a),some (.ref lf),some (.int k)]∧0≤k∧SameB b g H1 H'∧Well H' b g l (n+2)) (λZ hZ=>?_) ?_
 · refine⟨_,rfl,b,g,l,_,8,rfl,B1,by omega,by decide,by decide,λc H2 c0 c1 B2 S2=>⟨rfl,_,rfl,Il (λh=>?_) (λh=>?_)⟩⟩
   · exact⟨_,rfl,lf,_,rfl,.inl (SqL.of (S2 _ _ e1 fb fg)),hZ _ _ ⟨_,rfl,by omega,S2,B2.mono (by omega)⟩⟩
   · exact hZ _ _ ⟨m,rfl,m0,S2,B2.mono (by omega)⟩
 rintro σ' H2 ⟨k,rfl,k0,S2,B2⟩;have e2:=S2 _ _ e1 fb fg;have ha2:=S2 _ _ ha1 ab ag;have S02:=S01.trans S2;have nf:∀x,H2 x=none→H x=none:=λx hx=>B2.back S02 x hx;refine⟨_,rfl,_,rfl,a,_,rfl,.inl (SqL.of ha2),_,_,rfl,?_⟩;obtain⟨M,hM,hM2⟩:∃M:Nat,(if(xs.length:Int)<k then(xs.length:Int) else k)=(M:Int)∧M≤xs.length:=by
  by_cases h:(xs.length:Int)<k
  · exact⟨xs.length,by rw[if_pos h],Af _⟩
  · exact⟨k.toNat,by rw[if_neg h];omega,by omega⟩
 rw[hM];refine⟨_,rfl,(by omega),(by omega),λp hp=>?_⟩;have sp:=HN hp (.lst []);obtain⟨pb,pg,pl⟩:=B2.free hp;have npf:p≠lf:=λe=>by rw[e,e2] at hp;cases hp
 refine LH (lo:=0) (n:=M) (λi σ' ys H'=>(∃v,σ'=[v,some (.ref b),some (.ref lf)])∧(SameB b g H H'∧Well H' b g l (n+2+(i:Int)))∧H' p=some (.lst ys)∧∃zs:List V,H' lf=some (.lst zs)∧zs.length=xs.length - i∧(ys++zs).Perm xs) ⟨⟨none,rfl⟩,⟨S02.trans sp.sameB,(B2.same sp).mono (by omega)⟩,HH,xs,sp _ _ e2,by simp,DD _⟩ ?_ ?_ ?_
 · rintro i σ' ys H' hi ⟨_,_,h1,zs,h2,h3,h4⟩;have:=h4.length_eq;rw[Az] at this;exact⟨h1,IB (by omega)⟩
 · rintro i σ' ys H' N hi ⟨⟨v,rfl⟩,⟨S1,B1⟩,h1,zs,h2,h3,h4⟩ hN;refine⟨_,rfl,.inl ⟨rfl,_,SqL.of h2⟩,_,rfl,_,rfl,lf,_,rfl,.inl (SqL.of h2),b,g,l,_,_,rfl,B1,by omega,by omega,J5 (by omega),λc H2 c0 c1 B2 S2=>?_⟩;obtain⟨k,rfl⟩:∃k:Nat,c=(k:Int):=⟨c.toNat,by omega⟩;have hk:k<zs.length:=by omega
   have f2:=S2 _ _ h2 fb fg;have g2':=S2 _ _ h1 pb pg;refine⟨lf,zs,(k:Int),k,zs[k],rfl,rfl,f2,by omega,by omega,?_,Ay hk,?_⟩
   · unfold PySem.seqIndex?;simp;omega
   · refine⟨by rw[HV npf];exact g2',hN _ _ _ ⟨⟨_,rfl⟩,⟨?_,?_⟩,HH,zs.eraseIdx k,?_,?_,?_⟩⟩
     · exact((S1.trans S2).off hlf).off (nf p hp)
     · exact((B2.off fb fg fl).off pb pg pl).mono (by omega)
     · rw[HV npf.symm,HH]
     · rw[FO];simp[hk];omega
     · rw[BV];exact((Pl zs k hk).append_left ys).trans h4
 · rintro σ' ys H' ⟨_,⟨S1,B1⟩,h1,zs,h2,h3,h4⟩;exact q p ys zs H' (nf p hp) h1 h4 (B1.mono (by omega)) S1
theorem YH(F:Fun K "_law_web" "_law_web" NO f fd)(Hc:Γ32 P w K mg base):FnOk P w K mg base H_ 2 f fd ["well","most"] (Rk):=by
 refine F.ok G2 (λvs H Q E h=>?_) (λcdv A outer s H vs Q E hr h=>?_)
 · obtain⟨b,g,l,n,most,rfl,Bg,hn,m1,m2,q⟩:=h;rfl
 obtain⟨b,g,l,n,most,rfl,Bg,hn,m1,m2,q⟩:=h;refine⟨_,(HK (HY (i:=2) G2.nd rfl (Or.inr rfl) (HP Hc (hr.mono (by decide)) rfl (HB (pv 0) (HB HF HC))))
  (HK (HY (i:=3) G2.nd rfl (Or.inl rfl) (HP Hc (hr.mono (by decide)) rfl (HB (pv 0) (HB (pv 1) HC))))
  (HK (Ip (Ig Jg (pv 2) HF (Ie _)) (HM (HX (zf6 rfl (pv 3) rfl B.list_ rfl B.range_))) Io)
  (HM (HX (J6 (N':=["place","well","pick"]) (js:=[none,some 0,some 2]) rfl (IQ (N:=["well","most","pick","many"]) (outer:=HQ NO) (by decide+kernel)) (KD rfl B.range_ (HB (pv 3) HC)) (λ_ _ _ _ _=>(HW (i:=0) MW rfl (Or.inl rfl))) (λ_ _ _ _ _=>Jx) (λ_ _ _ _ _=>(KG (Ig Jg (pv 2) HF (Ie _)) HF (HP Hc (hr.mono (by decide)) rfl (HB (pv 1) (HB (HU IM (pv 0) HF) HC))))))))))),?_⟩
 refine⟨_,rfl,b,g,l,_,4,rfl,Bg,by omega,by decide,by decide,λpk H1 p0 p3 B1 S1=>?_⟩;refine⟨_,rfl,_,rfl,b,g,l,_,most,rfl,B1,by omega,by omega,J5 (by omega),λm H2 k0 k1 B2 S2=>?_⟩;have S02:=S1.trans S2;have nf:∀x,H2 x=none→H x=none:=λx hx=>B2.back S02 x hx;obtain⟨M,rfl⟩:∃M:Nat,m=(M:Int):=⟨m.toNat,by omega⟩;dsimp only;refine K0 (λσ' H'=>σ'=[some (.ref b),some (.int most),some (.int pk),some (.int (M:Int))]∧H'=H2) (λZ hZ=>?_) ?_
 · refine⟨_,rfl,rfl,_,rfl,Il (λh=>?_) (λh=>hZ _ _ ⟨rfl,rfl⟩)⟩;refine⟨_,rfl,M,rfl,by omega,λr hr=>?_⟩;have s3:=HN hr (.lst (((AI M).map (λ(i:Nat)=>(i:Int))).map V.int));exact q r _ _ (nf r hr) ⟨HH,Y3 (by omega)⟩ ((B2.same s3).mono (by omega)) (S02.trans s3.sameB)
 rintro σ' H' ⟨rfl,rfl⟩;refine⟨_,rfl,_,rfl,(by omega),(by omega),λp hp=>?_⟩;have sp:=HN hp (.lst []);obtain⟨pb,pg,pl⟩:=B2.free hp;refine LH (lo:=0) (n:=M) (λi σ' ys H3=>(∃v,σ'=[v,some (.ref b),some (.int pk)])∧(SameB b g H H3∧Well H3 b g l (n+2+(i:Int)))∧H3 p=some (.lst ys)∧∃L:List Int,ys=L.map V.int∧L.length=i∧∀(j:Nat)y,L[j]?=some y→0≤y∧y≤(j:Int)) ⟨⟨none,rfl⟩,⟨S02.trans sp.sameB,(B2.same sp).mono (by omega)⟩,HH,[],rfl,rfl,λj y e=>by simp at e⟩ ?_ ?_ ?_
 · rintro i σ' ys H3 hi ⟨_,_,h1,L,rfl,h3,h4⟩;exact⟨h1,IB (by rw[Ab];omega)⟩
 · rintro i σ' ys H3 N hi ⟨⟨v,rfl⟩,⟨S3,B3⟩,h1,L,rfl,h3,h4⟩ hN;refine⟨_,rfl,rfl,_,rfl,Il (λh=>?_) (λh=>?_)⟩
   · refine⟨h1,hN _ _ _ ⟨⟨_,rfl⟩,⟨S3.off (nf p hp),(B3.off pb pg pl).mono (by omega)⟩,HH,L++[0],by rw[Ar];rfl,by simp;omega,Tc h4 (by omega) (by omega)⟩⟩
   · refine⟨_,rfl,_,rfl,_,_,rfl,rfl,b,g,l,_,_,rfl,B3,by omega,by omega,J5 (by omega),λc H4 c0 c1 B4 S4=>?_⟩;refine⟨S4 _ _ h1 pb pg,hN _ _ _ ⟨⟨_,rfl⟩,⟨(S3.trans S4).off (nf p hp),(B4.off pb pg pl).mono (by omega)⟩,HH,L++[c],by rw[Ar];rfl,by simp;omega,Tc h4 (by omega) (by omega)⟩⟩
 · rintro σ' ys H3 ⟨_,⟨S3,B3⟩,h1,L,rfl,h3,h4⟩;exact q p L H3 (nf p hp) ⟨h1,by omega,h4⟩ (B3.mono (by omega)) S3
theorem Z2(F:Fun K "_law_near" "_law_near" NL f fd)  :FnOk P w K mg base H_ 1 f fd ["web","p"] (NA):=by
 refine F.ok G3 (λvs H Q E h=>?_) (λcdv A outer s H vs Q E hr h=>?_)
 · obtain⟨a,W,p,rfl,⟨ha,hW⟩,hp,q⟩:=h;rfl
 obtain⟨a,W,p,rfl,⟨ha,hW⟩,hp,q⟩:=h;refine⟨_,(HK (LL (N':=["place","web","p"]) (js:=[none,some 0,some 1]) (i:=2) G3.nd rfl (Or.inl rfl) rfl (IQ (N:=["web","p","found"]) (outer:=HQ NL) (by decide+kernel)) (KD rfl B.range_ (HB (Ia IN rfl B.len_ ID (HB (pv 0) HC)) HC)) (λ_ _ _ _ _=>(HW (i:=0) MV rfl (Or.inl rfl))) (λ_ _ _ _ _=>Kz (Ig Jg (Ii (XX K rfl) (pv 1) (pv 0) (λ_ _=>rfl)) (pv 2) (Ie _))) (λ_ _ _ _ _=>(HU IM (pv 0) HF)))
  (HM (HX (KG (Ig Jg (pv 1) HF (Ie _)) (pv 2) (HU Mx (IP (HB (Ii IA (pv 0) (HU Lh (pv 1) HF) (λ_ _=>rfl)) HC)) (pv 2)))))),?_⟩
 have lw:=hW.1;have lm:(W.map V.int).length=W.length:=Ab _;refine⟨_,rfl,a,_,rfl,.inl (SqL.of ha),_,rfl,by omega,by omega,λl hl=>?_⟩;refine LH (lo:=0) (n:=(W.map V.int).length) (λi σ' ys H'=>(∃v,σ'=[v,some (.ref a),some (.int p)])∧Same H H'∧H' l=some (.lst ys)∧ys=(((AI i).filter (λk=>W.getD k 0==p)).map (λ(k:Nat)=>(k:Int)+1)).map V.int) ⟨⟨none,rfl⟩,HN hl _,HH,rfl⟩ ?_ ?_ ?_
 · rintro i σ' ys H' hi ⟨_,s,h1,h2⟩;refine⟨h1,?_⟩;rw[h2,Ab,Ab];have:=AE (λk=>W.getD k 0==p) (AI i);rw[C2] at this;exact IB (by omega)
 · rintro i σ' ys H' N hi ⟨⟨v,rfl⟩,s,h1,h2⟩ hN;have hi':i<W.length:=by omega
   have e2:W[i]?=some W[i]:=by simp
   have gd:W.getD i 0=W[i]:=by rw[A7,e2];rfl
   generalize W[i]=n at*;have at1:IL (W.map V.int) (0+(i:Int))=some (.int n):=by rw[Int.zero_add];exact J9 (by rw[Aj,e2];rfl)
   refine⟨_,rfl,_,rfl,a,_,_,_,rfl,rfl,SqL.of (s _ _ ha),at1,_,rfl,rfl,_,rfl,?_⟩;by_cases hn:n=p
   · subst hn;rw[decide_eq_true rfl];refine HG ⟨_,rfl,_,_,rfl,rfl,h1,hN _ _ _ ⟨⟨_,rfl⟩,Jh s hl,HH,?_⟩⟩;rw[h2,Dx,Bi,Ar,Ar,BQ,if_pos (by rw[gd];simp),Int.zero_add];rfl
   · rw[decide_eq_false (λz=>hn (by injection z))];refine HE (hN _ _ _ ⟨⟨_,rfl⟩,s,h1,?_⟩);rw[h2,Dx,Bi,BQ,if_neg (by rw[gd];simpa using hn)];simp
 · rintro σ' ys H' ⟨_,s,h1,h2⟩;rw[lm] at h2;have e3:H' l=some (.lst ((WB.kids W p).map V.int)):=by rw[h1,h2];rfl
   refine⟨_,rfl,rfl,_,rfl,Il (λh=>?_) (λh=>?_)⟩
   · have h0:p=0:=by have:=of_decide_eq_true h;injection this
     refine⟨_,rfl,q l H' s hl ?_⟩;rw[e3];unfold WB.roads;rw[if_neg (by omega)];rfl
   · have h0:0<p:=by
      have:=hp.1;have:p≠0:=λz=>h (decide_eq_true (by rw[z]));omega
     have at1:IL (W.map V.int) (p - 1)=some (.int (WB.par W p)):=by obtain⟨k,hk⟩:=Ci (show 0≤p - 1 by omega);have:=WB.par_at hp h0;rw[hk] at this ⊢;exact J9 (by rw[Aj];rw[show((k:Int)).toNat=k from rfl] at this;rw[this];rfl)
     refine⟨_,rfl,_,rfl,_,_,rfl,rfl,a,_,_,_,rfl,rfl,SqL.of (s _ _ ha),at1,LW,λlb hlb=>?_⟩;have s1:=HN hlb (.lst [V.int (WB.par W p)]);have kl:=WB.kids_len W p;refine⟨_,rfl,lb,l,_,_,rfl,rfl,HH,s1 _ _ e3,L7 (by rw[Ab];show 1+_≤_;omega),λl3 hl3=>q l3 _ (s.trans (s1.trans (HN hl3 _))) (RQ (s.trans s1) hl3) ?_⟩;rw[HH];unfold WB.roads;rw[if_pos h0];rfl
theorem ZV(F:Fun K "_law_beyond" "_law_beyond" Px f fd)(Hm:Γ48 P w K mg base):FnOk P w K mg base H_ 2 f fd ["web","p","q"] (TV):=by
 refine F.ok G4 (λvs H Q E h=>?_) (λcdv A outer s H vs Q E hr h=>?_)
 · obtain⟨a,W,p,q',rfl,⟨ha,hW⟩,hp,hq,hm,q⟩:=h;rfl
 obtain⟨a,W,p,q',rfl,⟨ha,hW⟩,hp,hq,hm,q⟩:=h;refine⟨_,(HK (HY (i:=3) G4.nd rfl (Or.inl rfl) (IP (HB (pv 2) HC)))
  (HK (HY (i:=4) G4.nd rfl (Or.inl rfl) HF)
  (HK (Tr AT (Ig Mu (pv 4) (Ia IN rfl B.len_ ID (HB (pv 3) HC)) (Ie _)) (HK (JC AT rfl (Jm (HP Hm (hr.mono (by decide)) rfl (HB (pv 0) (HB (Ii IA (pv 3) (pv 4) (λ_ _=>rfl)) HC)))) (HW (i:=5) G4.nd rfl (Or.inl rfl)) (HM (Ip (PW.pt (Ma (Ig L5 (pv 5) (pv 1) (Ie _)) (Mf (Ig NU (pv 5) (pv 3) (by with_unfolding_all rfl))))) (HM (JI (JM AL AW AX Kb (pv 3) (HB (pv 5) HC)))) Io)))
  (HM (HY (i:=4) G4.nd rfl (Or.inl rfl) (HU IM (pv 4) HF)))))
  (HM (HX (pv 3)))))),?_⟩
 have adj:=(WB.roads_adj hW hp hm).2;refine⟨_,rfl,LW,λl hl=>?_⟩;have s0:=HN hl (.lst [V.int q']);have e0:(HD H l (.lst [V.int q'])) l=some (.lst (([q']:List Int).map V.int)):=HH;generalize HD H l (.lst [V.int q'])=H0 at*;refine IW ?_;refine U4 (λm σ H'=>∃(y5:Option V)(k:Nat)(fs:List Int),σ=[some (.ref a),some (.int p),some (.int q'),some (.ref l),some (.int (k:Int)),y5]∧Same H H'∧H' l=some (.lst (fs.map V.int))∧Bfs W p q' fs∧(∀i x,i<k→fs[i]?=some x→∀y∈WB.roads W x,y=p∨y∈fs)∧k≤fs.length∧m=24 - k)
  (λσ H'=>∃y4 y5 fs,σ=[some (.ref a),some (.int p),some (.int q'),some (.ref l),y4,y5]∧Same H H'∧H' l=some (.lst (fs.map V.int))∧Bfs W p q' fs∧(∀x∈fs,∀y∈WB.roads W x,y=p∨y∈fs)) ?_ ?_ ?_
 · exact⟨_,none,0,[q'],rfl,s0,e0,⟨by simp,λx hx=>by rw[Ax.mp hx];exact WB.side_self hW hp hq adj,Ax.mpr rfl⟩,λi x hi=>absurd hi (CI _),AC _,rfl⟩
 · rintro m σ H1 Z ⟨y5,k,fs,rfl,s1,e1,D1,C1,k1,rfl⟩ hZ;have l24:=D1.len hW;refine⟨_,rfl,_,rfl,l,_,rfl,.inl (SqL.of e1),_,_,rfl,rfl,_,rfl,Il (λh=>?_) (λh=>?_)⟩
   · have hk:k<fs.length:=by have:=of_decide_eq_true h;rw[Ab] at this;omega
     have ek:fs[k]?=some fs[k]:=by simp
     have hx:=Ak ek;have at1:IL (fs.map V.int) (k:Int)=some (.int fs[k]):=J9 (by rw[Aj,ek];rfl);generalize fs[k]=x at*;have px:=(WB.side_mem.mp (D1.inS x hx)).1;refine⟨λσ H'=>∃(y5:Option V)(k':Nat)(fs':List Int),σ=[some (.ref a),some (.int p),some (.int q'),some (.ref l),some (.int (k':Int)),y5]∧Same H H'∧H' l=some (.lst (fs'.map V.int))∧Bfs W p q' fs'∧(∀i x,i<k'→fs'[i]?=some x→∀y∈WB.roads W x,y=p∨y∈fs')∧k'≤fs'.length∧24 - k'<24 - k,?_,?_⟩
     · rintro σ' H' ⟨a1,a2,a3,a4,a5,a6,a7,a8,a9,a10⟩;exact⟨_,a10,a1,a2,a3,a4,a5,a6,a7,a8,a9,rfl⟩
     refine⟨_,rfl,_,rfl,_,rfl,l,_,_,_,rfl,rfl,SqL.of e1,at1,a,W,x,rfl,⟨s1 _ _ ha,hW⟩,px,λln H2 s2 n2 e2=>?_⟩;have lne:l≠ln:=IT e1 n2;refine⟨ln,rfl,⟨_,SqL.of e2⟩,LG (K:=K) (a:=ln) (xs:=(WB.roads W x).map V.int) (λj σ H'=>∃y5 ys,σ=[some (.ref a),some (.int p),some (.int q'),some (.ref l),some (.int (k:Int)),y5]∧Same H H'∧H' ln=some (.lst ((WB.roads W x).map V.int))∧H' l=some (.lst ((fs++ys).map V.int))∧Bfs W p q' (fs++ys)∧(∀(i:Nat)(y:Int),i<j→(WB.roads W x)[i]?=some y→y=p∨y∈fs++ys)) ?_ ?_ ?_ ?_⟩
     · exact⟨y5,[],rfl,s1.trans s2,e2,by rw[Cz];exact s2 _ _ e1,by rw[Cz];exact D1,λi y hi=>absurd hi (CI _)⟩
     · rintro j σ H' _ ⟨_,_,_,_,h,_⟩;exact SqL.of h
     · rintro j v σ H3 hv ⟨y6,ys,rfl,s3,n3,e3,D3,C3⟩;rw[Aj] at hv;cases ey:(WB.roads W x)[j]? with
       | none=>rw[ey] at hv;cases hv
       | some y=>
        rw[ey] at hv;obtain rfl:V.int y=v:=A4 hv;have hyr:=Ak ey;have l3:=D3.len hW;have old:y=p∨y∈fs++ys→∀(i:Nat)(z:Int),i<j+1→(WB.roads W x)[i]?=some z→z=p∨z∈fs++ys:=λh i z hi hz=>by
         by_cases hij:i<j
         · exact C3 i z hij hz
         · obtain rfl:i=j:=by omega
           rw[ey] at hz;cases hz;exact h
        refine⟨_,rfl,_,rfl,rfl,_,rfl,?_⟩;by_cases yp:y=p
        · rw[decide_eq_true (congrArg V.int yp)];exact HE (HE ⟨_,ys,rfl,s3,n3,e3,D3,old (.inl yp)⟩)
        · rw[decide_eq_false (λz=>yp (by injection z))];refine HG ⟨_,rfl,_,rfl,NP (SqL.of e3) ⟨_,rfl,?_⟩⟩;rw[show(fs++ys).any (λz=>z==y)=WB.has (fs++ys) y from rfl];cases c:WB.has (fs++ys) y with
          | true=>exact HE ⟨_,ys,rfl,s3,n3,e3,D3,old (.inr (WB.has_iff.mp c))⟩
          | false=>
           have ny:y ∉ fs++ys:=λz=>by rw[WB.has_iff.mpr z] at c;cases c
           have D4:=D3.put ny (WB.side_closed hW hp hq adj (D1.inS x hx) hyr yp);refine HG ⟨_,rfl,.inl ⟨rfl,_,SqL.of e3⟩,_,rfl,l,_,_,rfl,rfl,e3,(by rw[Ab];exact IB (by omega)),?_⟩;refine⟨_,ys++[y],rfl,Jh s3 hl,by rw[HV lne.symm];exact n3,by rw[HH,←BV,Ar (l₂:=[y])];rfl,by rw[←BV];exact D4,λi z hi hz=>?_⟩;by_cases hij:i<j
           · rw[←BV];exact(C3 i z hij hz).imp_right λh=>AF _ h
           · obtain rfl:i=j:=by omega
             rw[ey] at hz;cases hz;exact .inr (by simp)
     · rintro σ H3 ⟨y6,ys,rfl,s3,n3,e3,D3,C3⟩;refine⟨_,rfl,_,_,rfl,rfl,?_⟩;refine⟨y6,k+1,fs++ys,rfl,s3,e3,D3,λi z hi hz y hy=>?_,by rw[Az];omega,by omega⟩;by_cases hik:i<k
       · rw[Ct (by omega)] at hz;exact(C1 i z hik hz y hy).imp_right λh=>AF _ h
       · obtain rfl:i=k:=by omega
         rw[Ct hk,ek] at hz;cases hz;obtain⟨j,hj⟩:=Ch hy;refine C3 j y ?_ hj;rw[Ab];exact(Aq.mp hj).1
   · have hk:k=fs.length:=by
      have:¬(k:Int)<((fs.map V.int).length:Int):=λz=>h (decide_eq_true z);rw[Ab] at this;omega
     refine hZ _ _ ⟨_,_,fs,rfl,s1,e1,D1,λx hx y hy=>?_⟩;obtain⟨i,hi⟩:=Ch hx;exact C1 i x (by rw[hk];exact(Aq.mp hi).1) hi y hy
 · rintro σ H1 ⟨y4,y5,fs,rfl,s1,e1,D1,C1⟩;exact⟨_,rfl,q l fs H1 s1 hl e1 (D1.done hW hp hq adj C1) (D1.len hW)⟩
theorem Z_(F:Fun K "_law_turned" "_law_turned" NX f fd)(Hc:Γ32 P w K mg base):FnOk P w K mg base H_ 2 f fd ["well","row"] (SY):=by
 refine F.ok G5 (λvs H Q E h=>?_) (λcdv A outer s H vs Q E hr h=>?_)
 · obtain⟨b,g,l,a,n,xs,rfl,Bg,hn,ha,ab,ag,lx,q⟩:=h;rfl
 obtain⟨b,g,l,a,n,xs,rfl,Bg,hn,ha,ab,ag,lx,q⟩:=h;refine⟨_,(HK (HY (i:=2) G5.nd rfl (Or.inr rfl) (Mj NT rfl B.list_ JY (HB (pv 1) HC)))
  (HM (HX (J6 (N':=["k","well","left"]) (js:=[none,some 0,some 2]) rfl (IQ (N:=["well","row","left"]) (outer:=HQ NX) (by decide+kernel)) (KD rfl B.range_ (HB (Ia IN rfl B.len_ ID (HB (pv 1) HC)) HC)) (λ_ _ _ _ _=>(HW (i:=0) Lr rfl (Or.inl rfl))) (λ_ _ _ _ _=>Jx) (λ_ _ _ _ _=>(R0 K rfl AL D_ Ea OR (pv 2) (HB (HP Hc (hr.mono (by decide)) rfl (HB (pv 1) (HB (Ia (UI K rfl) rfl B.len_ ID (HB (pv 2) HC)) HC))) HC))))))),?_⟩
 refine⟨_,rfl,a,_,rfl,.inl (SqL.of ha),λlf hlf=>?_⟩;have s0:=HN hlf (.lst xs);have e0:(HD H lf (.lst xs)) lf=some (.lst xs):=HH;have B0:=Bg.same s0;obtain⟨fb,fg,fl⟩:=Bg.free hlf;have ha0:=s0 _ _ ha;have S0:SameB b g H (HD H lf (.lst xs)):=s0.sameB;generalize HD H lf (.lst xs)=H0 at*;refine⟨_,rfl,a,_,rfl,.inl (SqL.of ha0),_,rfl,(by omega),(by omega),λp hp=>?_⟩;have sp:=HN hp (.lst []);obtain⟨pb,pg,pl⟩:=B0.free hp;have npf:p≠lf:=λe=>by rw[e,e0] at hp;cases hp
 refine LH (lo:=0) (n:=xs.length) (λi σ' ys H'=>(∃v,σ'=[v,some (.ref b),some (.ref lf)])∧(SameB b g H H'∧Well H' b g l (n+(i:Int)))∧H' p=some (.lst ys)∧∃zs:List V,H' lf=some (.lst zs)∧zs.length=xs.length - i∧(ys++zs).Perm xs) ⟨⟨none,rfl⟩,⟨S0.trans sp.sameB,(B0.same sp).mono (by omega)⟩,HH,xs,sp _ _ e0,by simp,DD _⟩ ?_ ?_ ?_
 · rintro i σ' ys H' hi ⟨_,_,h1,zs,h2,h3,h4⟩;have:=h4.length_eq;rw[Az] at this;exact⟨h1,IB (by omega)⟩
 · rintro i σ' ys H' N hi ⟨⟨v,rfl⟩,⟨S1,B1⟩,h1,zs,h2,h3,h4⟩ hN;refine⟨_,rfl,.inl ⟨rfl,_,SqL.of h2⟩,_,rfl,_,rfl,lf,_,rfl,.inl (SqL.of h2),b,g,l,_,_,rfl,B1,by omega,by omega,J5 (by omega),λc H2 c0 c1 B2 S2=>?_⟩;obtain⟨k,rfl⟩:∃k:Nat,c=(k:Int):=⟨c.toNat,by omega⟩;have hk:k<zs.length:=by omega
   have f2:=S2 _ _ h2 fb fg;have g2':=S2 _ _ h1 pb pg;refine⟨lf,zs,(k:Int),k,zs[k],rfl,rfl,f2,by omega,by omega,?_,Ay hk,?_⟩
   · unfold PySem.seqIndex?;simp;omega
   · refine⟨by rw[HV npf];exact g2',hN _ _ _ ⟨⟨_,rfl⟩,⟨?_,?_⟩,HH,zs.eraseIdx k,?_,?_,?_⟩⟩
     · exact((S1.trans S2).off hlf).off (s0.free hp)
     · exact((B2.off fb fg fl).off pb pg pl).mono (by omega)
     · rw[HV npf.symm,HH]
     · rw[FO];simp[hk];omega
     · rw[BV];exact((Pl zs k hk).append_left ys).trans h4
 · rintro σ' ys H' ⟨_,⟨S1,B1⟩,h1,zs,h2,h3,h4⟩;have:zs=[]:=Fe.mp (by omega);subst this;rw[Cz] at h4;exact q p ys H' (s0.free hp) h1 h4 (B1.mono (by omega)) S1
theorem ZZ(F:Fun K "_law_stands" "_law_stands" P0 f fd)(Hn:Γ50 P w K mg base)(Ho:Γ34 P w K mg base)(Hc:Γ32 P w K mg base)(Hq:Γ46 P w K mg base):FnOk P w K mg base H_ 4 f fd ["well","web","pool","many"] (Ua):=by
 refine F.ok G6 (λvs H Q E h=>?_) (λcdv A outer s H vs Q E hr h=>?_)
 · obtain⟨b,g,l,a,c,n,many,W,ws,rfl,Bg,hn,hW,ab,ag,hw,cb,cg,nd,lw,m1,m2,q⟩:=h;rfl
 obtain⟨b,g,l,a,c,n,many,W,ws,rfl,Bg,hn,hW,ab,ag,hw,cb,cg,nd,lw,m1,m2,q⟩:=h;refine⟨_,(HK (HY (i:=4) G6.nd rfl (Or.inl rfl) (IP HC))
  (HK (JC AT rfl (Jm (HP Hn (hr.mono (by decide)) rfl (HB (pv 0) (HB (HP Ho (hr.mono (by decide)) rfl (HB (pv 0) (HB (pv 3) HC))) HC)))) (HW (i:=5) G6.nd rfl (Or.inl rfl)) (HM (JI (JM AL AW AX Kb (pv 4) (HB (I_ (HB (pv 5) (HB (HP Hc (hr.mono (by decide)) rfl (HB (pv 0) (HB (HU IM (Ia IN rfl B.len_ ID (HB (pv 1) HC)) HF) HC))) (HB (KH OJ (HP Hq (hr.mono (by decide)) rfl (HB (pv 0) (HB (pv 2) HC))) KA (KI HF)) HC)))) HC)))))
  (HM (HX (pv 4))))),?_⟩
 refine⟨J2,λr hr'=>?_⟩;obtain⟨rb,rg,rl⟩:=Bg.free hr';have s0:=HN hr' (.lst []);have e0:(HD H r (.lst [])) r=some (.lst []):=HH;have nr:H r=none:=hr';have B0:=Bg.same s0;have ra:r≠a:=λe=>by rw[e,hW.1] at hr';cases hr'
 have rc:r≠c:=λe=>by rw[e,hw.at'] at hr';cases hr'
 have S0:SameB b g H (HD H r (.lst [])):=s0.sameB;generalize HD H r (.lst [])=H0 at*;refine⟨_,rfl,_,rfl,_,rfl,b,g,l,_,many,rfl,B0,by omega,m1,m2,λf fs H1 hf ef asc okf f1 f2 B1 S1=>?_⟩;obtain⟨fb,fg,_⟩:=B0.free hf;refine⟨b,g,l,f,_,_,rfl,B1,by omega,ef,fb,fg,by rw[Ab];omega,λh hv H2 hh eh pm B2 S2=>?_⟩;obtain⟨hs,hp,rfl⟩:=UG pm fs rfl;have S02:=S0.trans (S1.trans S2);have hsl:hs.length≤30:=by rw[hp.length_eq];omega
 have hsn:hs.Nodup:=hp.nodup_iff.mpr (asc.imp λhlt e=>Rx hlt e);obtain⟨hb,hg',_⟩:=B1.free hh;have e2:=S2 _ _ (S1 _ _ e0 rb rg) rb rg;have hr2:h≠r:=λe=>by rw[e,S1 _ _ e0 rb rg] at hh;cases hh
 refine⟨h,rfl,⟨_,SqL.of eh⟩,LG (K:=K) (a:=h) (xs:=hs.map V.str) (λi σ H'=>(∃y,σ=[some (.ref b),some (.ref a),some (.ref c),some (.int many),some (.ref r),y])∧SameB b g H H'∧Well H' b g l (n+1100+101*(i:Int))∧H' h=some (.lst (hs.map V.str))∧∃xs:List Stand,H' r=some (.lst (xs.map λx=>V.ref x.a))∧xs.map (·.hand)=hs.take i∧∀x∈xs,StAt H' W x∧H x.l=none∧x.l≠r∧∀y∈x.ws,y∈ws) ?_ ?_ ?_ ?_⟩
 · exact⟨⟨none,rfl⟩,S02,B2.mono (by omega),eh,[],e2,rfl,λx hx=>(by simp at hx)⟩
 · rintro i σ H' hi ⟨_,_,_,h,_⟩;exact SqL.of h
 · rintro i x σ H3 hx ⟨⟨y,rfl⟩,S3,B3,h3,xs,e3,hd,g3⟩;rw[Aj] at hx;cases ew:hs[i]? with
   | none=>rw[ew] at hx;cases hx
   | some f'=>
    rw[ew] at hx;cases hx;have hil:i<hs.length:=(Aq.mp ew).1;have a3:=S3 _ _ hW.1 ab ag;have w3:=hw.sameW Bg cb cg S3;refine IW ?_;refine⟨_,rfl,.inl ⟨rfl,_,SqL.of e3⟩,_,rfl,_,rfl,_,rfl,a,_,rfl,.inl (SqL.of a3),_,_,rfl,rfl,b,g,l,_,_,rfl,B3,by omega,by omega,J5 (by have:=hW.2.1;rw[Ab];omega),λpo H4 po0 po1 B4 S4=>?_⟩;have w4:WsAt H4 c ws:=w3.sameW B3 cb cg S4;have e4:=S4 _ _ e3 rb rg;refine⟨_,rfl,_,rfl,b,g,l,c,_,_,rfl,B4,by omega,w4.at',cb,cg,by rw[Ab];omega,λpk ys zs H5 hpk epk pm5 B5 S5=>?_⟩;obtain⟨us,up,eu⟩:=UG pm5 ws rfl;have ey:ys=(us.take ys.length).map λx=>V.ref x.1:=by rw[List.map_take,eu,List.take_left]
    have sub1:(us.take ys.length).Sublist us:=DL _ _;generalize us.take ys.length=us' at ey sub1;subst ey;refine⟨_,rfl,pk,_,rfl,SqL.of epk,λnl hnl=>?_⟩;rw[TD (k:=10) rfl,←List.map_take] at*;have sub2:(us'.take 10).Sublist us:=(DL _ _).trans sub1;have l10:(us'.take 10).length≤10:=by rw[AA];omega
    generalize us'.take 10=vs at*;have s6:=HN hnl (.lst (vs.map λx=>V.ref x.1));have e6:(HD H5 nl (.lst (vs.map λx=>V.ref x.1))) nl=some (.lst (vs.map λx=>V.ref x.1)):=HH;have B6:=B5.same s6;have S35:=S4.trans S5;have n5:H nl=none:=B5.back (S3.trans S35) nl hnl;generalize HD H5 nl (.lst (vs.map λx=>V.ref x.1))=H6 at*;refine⟨Ms,λtp htp=>?_⟩;have s7:=HN htp (.tup [V.str f',V.int po,V.ref nl]);have e7:(HD H6 tp (.tup [V.str f',V.int po,V.ref nl])) tp=some (.tup [V.str f',V.int po,V.ref nl]):=HH;have B7:=B6.same s7;have s57:Same H5 (HD H6 tp (.tup [V.str f',V.int po,V.ref nl])):=s6.trans s7;have e6':=s7 _ _ e6;generalize HD H6 tp (.tup [V.str f',V.int po,V.ref nl])=H7 at*;have S37:=S35.trans s57.sameB;have e7r:=s57 _ _ (S5 _ _ e4 rb rg);have w7:∀x∈vs,WishAt H7 x.1 x.2∧WOk x.2:=λx hx=>by have mx:=up.mem_iff.mp (sub2.subset hx);exact⟨(((w4.ok x mx).1).sameW B4 S5).same s57,(w4.ok x mx).2⟩
    have nr7:nl≠r:=λe=>by rw[e,S5 _ _ e4 rb rg] at hnl;cases hnl
    have lx:xs.length≤30:=by have:=congrArg Db hd;rw[Ab,AA] at this;omega
    have ndv:(vs.map (·.2)).Nodup:=((up.map (·.2)).nodup_iff.mpr nd).sublist (sub2.map _);have fo:FieldOk f':=okf f' (hp.mem_iff.mp (Ak ew));have new:StAt H7 W ⟨tp,f',po,nl,vs⟩:=⟨e7,⟨e6',w7,A2 l10 (by decide)⟩,ndv,l10,fo,⟨po0,(by rw[Ab] at po1;show po≤(W.length:Int);omega)⟩⟩;refine⟨r,_,_,rfl,rfl,e7r,?_,?_⟩
    · rw[Ab];exact IB (by omega)
    · have tu:Tups H7 (HD H7 r (.lst ((xs.map λx=>V.ref x.a)++[V.ref tp]))):=λz zs e=>by
       rw[HV (λq=>by rw[q,e7r] at e;cases e)];exact e
      have ol:∀y:Stand,StAt H7 W y→y.l≠r→StAt (HD H7 r (.lst ((xs.map λx=>V.ref x.a)++[V.ref tp]))) W y:=λy h hyr=>
       ⟨tu _ _ h.at',⟨by rw[HV hyr];exact h.ws.at',λx hx=>⟨(h.ws.ok x hx).1.keep tu,(h.ws.ok x hx).2⟩,h.ws.len⟩,h.nd,h.few,h.name,h.post⟩
      refine⟨⟨_,rfl⟩,(S3.trans S37).off nr,(B7.off rb rg rl).mono (by omega),by rw[HV hr2];exact S37 _ _ h3 hb hg',xs++[⟨tp,f',po,nl,vs⟩],by rw[HH,Ar];rfl,?_,λx hx=>?_⟩
      · rw[Ar,hd,Di,ew];rfl
      · rcases AD.mp hx with z | z
        · obtain⟨g1,g2,g4,g6⟩:=g3 x z;obtain⟨xb,xg,_⟩:=Bg.free g2;have g5:StAt H7 W x:=⟨s57 _ _ (B4.tup S5 (B3.tup S4 g1.at')),((g1.ws.sameW B3 xb xg S4).sameW B4 xb xg S5).same s57,g1.nd,g1.few,g1.name,g1.post⟩;exact⟨ol x g5 g4,g2,g4,g6⟩
        · rw[Ax.mp z];exact⟨ol _ new nr7,n5,nr7,λy hy=>up.mem_iff.mp (sub2.subset hy)⟩
 · rintro σ H3 ⟨⟨y,rfl⟩,S3,B3,h3,xs,e3,hd,g3⟩;rw[Ab,Bd] at hd;refine⟨_,rfl,q r xs H3 nr ⟨e3,λx hx=>(g3 x hx).1,by rw[hd];exact hsn,?_⟩ ⟨ws.map (·.2),by rw[Ab];exact lw,λx hx y hy=>Ba ((g3 x hx).2.2.2 y hy)⟩ (λx hx=>(g3 x hx).2.1) (B3.mono (by rw[Ab];omega)) S3⟩;have:=congrArg Db hd;rw[Ab] at this;omega
theorem zfa(F:Fun K "_law_wanted" "_law_wanted" P3 f fd)  :FnOk P w K mg base H_ 1 f fd ["stands","posts"] (Ub):=by
 refine F.ok G7 (λvs H Q E h=>?_) (λcdv A outer s H vs Q E hr h=>?_)
 · obtain⟨l,c,W,xs,F,rfl,hx,hc,q⟩:=h;rfl
 obtain⟨l,c,W,xs,F,rfl,hx,hc,q⟩:=h;refine⟨_,(HK (HY (i:=2) G7.nd rfl (Or.inl rfl) (IP HC))
  (HK (JC AT rfl (Jm (pv 0)) (JW rfl (Ih (HW (i:=3) G7.nd rfl (Or.inl rfl)) (Ih (HW (i:=4) G7.nd rfl (Or.inl rfl)) (Ih (HW (i:=5) G7.nd rfl (Or.inl rfl)) Jq)))) (HM (Ip (Ig TN (pv 4) (pv 1) (by with_unfolding_all rfl)) (HM (HY (i:=2) G7.nd rfl (Or.inl rfl) (HU Mx (pv 2) (pv 5)))) Io)))
  (HM (HX (pv 2))))),?_⟩
 refine⟨J2,λr0 hr0=>?_⟩;have s0:=HN hr0 (.lst []);refine⟨_,rfl,l,rfl,⟨_,SqL.of (s0 _ _ hx.at')⟩,LG (K:=K) (a:=l) (xs:=xs.map λx=>V.ref x.a) (λi σ H'=>(∃r y3 y4 y5,σ=[some (.ref l),some (.ref c),some (.ref r),y3,y4,y5]∧H r=none∧H' r=some (.lst ((Jr (WB.has F) (xs.take i)).map λx=>V.ref x.1)))∧Same H H') ?_ ?_ ?_ ?_⟩
 · exact⟨⟨r0,none,none,none,rfl,hr0,HH⟩,s0⟩
 · rintro i σ H' hi ⟨_,s⟩;exact SqL.of (s _ _ hx.at')
 · rintro i v σ H1 hv ⟨⟨r,y3,y4,y5,rfl,nr,e1⟩,s1⟩;rw[Aj] at hv;cases ew:xs[i]? with
   | none=>rw[ew] at hv;cases hv
   | some x1=>
    rw[ew] at hv;cases hv;have o1:=(hx.ok x1 (Ak ew)).same s1;refine⟨x1.a,_,rfl,SqT.of o1.at',rfl,_,_,rfl,_,_,rfl,_,_,rfl,rfl,?_⟩;refine⟨_,rfl,_,rfl,Sd (SqL.of (s1 _ _ hc)) ⟨_,rfl,?_⟩⟩;have sn:=Zo (f:=WB.has F) ew;rw[show F.any (λy=>y==x1.post)=WB.has F x1.post from rfl];cases c:WB.has F x1.post with
    | true=>
     rw[c,if_pos rfl] at sn;refine HG ⟨_,rfl,_,rfl,r,x1.l,_,_,rfl,rfl,e1,o1.ws.at',?_,λr2 hr2=>?_⟩
     · have h1:=Ui (f:=WB.has F) (xs:=xs.take i) λx hx'=>(hx.ok x (CP hx')).few;rw[AA] at h1;have h2:=o1.few;have h3:=hx.len;rw[Ab,Ab];exact L7 (by omega)
     · exact⟨⟨r2,_,_,_,rfl,s1.free hr2,by rw[HH,sn,Ar]⟩,s1.trans (HN hr2 _)⟩
    | false=> rw[c,if_neg (by decide),Cz] at sn;exact HE ⟨⟨r,_,_,_,rfl,nr,by rw[e1,sn]⟩,s1⟩
 · rintro σ H1 ⟨⟨r,y3,y4,y5,rfl,nr,e1⟩,s1⟩;rw[Ab,Bd] at e1;exact⟨_,rfl,q r H1 s1 nr (WsAt.wants (hx.same s1) e1)⟩
theorem zcX(F:Fun K "_law_stands_kept" "_law_stands_kept" Ob f fd)  :FnOk P w K mg base H_ 1 f fd ["stands"] (RA):=by
 refine F.ok zcQ (λvs H Q E h=>?_) (λcdv A outer s H vs Q E hr h=>?_)
 · obtain⟨l,W,xs,rfl,hx,q⟩:=h;rfl
 obtain⟨l,W,xs,rfl,hx,q⟩:=h;refine⟨_,(HM (HX (J6 (N':=["hand","post","wishes"]) (js:=[none,none,none]) rfl (IQ (N:=["stands"]) (outer:=HQ Ob) (by decide+kernel)) (Jm (pv 0)) (λ_ _ _ _ _=>(Ll K rfl (n:=3) rfl (Ih (HW (i:=0) Ko rfl (Or.inl rfl)) (Ih (HW (i:=1) Ko rfl (Or.inl rfl)) (Ih (HW (i:=2) Ko rfl (Or.inl rfl)) Jq))))) (λ_ _ _ _ _=>Jx) (λ_ _ _ _ _=>(I_ (HB (pv 0) (HB (pv 1) (HB (Mj (zfA K rfl) rfl B.list_ JY (HB (pv 2) HC)) HC)))))))),?_⟩;refine⟨_,rfl,l,rfl,⟨_,SqL.of hx.at'⟩,λr hr=>?_⟩;have hl:=hx.len;refine LI (xs:=xs.map λx=>V.ref x.a) (λi σ' vs H'=>(∃v1 v2 v3,σ'=[v1,v2,v3])∧Same H H'∧H' r=some (.lst vs)∧∃ys:List Stand,vs=(ys.map λx=>V.ref x.a)∧ys.map I0=(xs.take i).map I0∧∀y∈ys,StAt H' W y∧y.l≠r) ⟨⟨none,none,none,rfl⟩,HN hr _,HH,[],rfl,rfl,λy hy=>by simp at hy⟩ ?_ ?_ ?_
 · rintro i σ' vs H' hi ⟨_,s,h1,ys,rfl,h2,h3⟩;refine⟨SqL.of (s _ _ hx.at'),h1,?_⟩;have:=congrArg Db h2;rw[Ab,Ab,AA] at this;rw[Ab];exact IB (by omega)
 · rintro i x σ' vs H' N hy ⟨⟨v1,v2,v3,rfl⟩,s,h1,ys,rfl,h2,h3⟩ hN;rw[Aj] at hy;cases e1:xs[i]? with
   | none=>rw[e1] at hy;cases hy
   | some x1=>
    rw[e1] at hy;cases hy;have o1:=(hx.ok x1 (Ak e1)).same s;refine⟨x1.a,_,rfl,SqT.of o1.at',rfl,_,_,rfl,_,_,rfl,_,_,rfl,rfl,?_⟩;refine⟨_,rfl,_,rfl,_,rfl,x1.l,_,rfl,.inl (SqL.of o1.ws.at'),λnl hnl=>?_⟩;have s2:=HN hnl (.lst (x1.ws.map λx=>V.ref x.1));have e2:(HD H' nl (.lst (x1.ws.map λx=>V.ref x.1))) nl=some (.lst (x1.ws.map λx=>V.ref x.1)):=HH;generalize HD H' nl (.lst (x1.ws.map λx=>V.ref x.1))=H2 at*;refine⟨Ms,λtp htp=>?_⟩;have s3:=HN htp (.tup [V.str x1.hand,V.int x1.post,V.ref nl]);have e3:(HD H2 tp (.tup [V.str x1.hand,V.int x1.post,V.ref nl])) tp=some (.tup [V.str x1.hand,V.int x1.post,V.ref nl]):=HH;generalize HD H2 tp (.tup [V.str x1.hand,V.int x1.post,V.ref nl])=H3 at*;have s13:=s2.trans s3;have o3:=o1.same s13;have new:StAt H3 W ⟨tp,x1.hand,x1.post,nl,x1.ws⟩:=⟨e3,⟨s3 _ _ e2,o3.ws.ok,o3.ws.len⟩,o3.nd,o3.few,o3.name,o3.post⟩;have h13:=s13 _ _ h1;refine⟨h13,hN _ _ _ ⟨⟨_,_,_,rfl⟩,Jh (s.trans s13) hr,HH,ys++[⟨tp,x1.hand,x1.post,nl,x1.ws⟩],by rw[Ar];rfl,?_,λy hy=>?_⟩⟩
    · rw[Ar,h2,Di,e1,Ar];rfl
    · have ol:∀y:Stand,StAt H3 W y→y.l≠r→StAt (HD H3 r (.lst ((ys.map λx=>V.ref x.a)++[V.ref tp]))) W y:=λy h hyr=>by
       have tu:Tups H3 (HD H3 r (.lst ((ys.map λx=>V.ref x.a)++[V.ref tp]))):=λz zs e=>by rw[HV (λq=>by rw[q,h13] at e;cases e)];exact e
       exact⟨tu _ _ h.at',⟨by rw[HV hyr];exact h.ws.at',λx hx=>⟨(h.ws.ok x hx).1.keep tu,(h.ws.ok x hx).2⟩,h.ws.len⟩,h.nd,h.few,h.name,h.post⟩
      rcases AD.mp hy with z | z
      · exact⟨ol y ((h3 y z).1.same s13) (h3 y z).2,(h3 y z).2⟩
      · rw[Ax.mp z];have nn:nl≠r:=λe=>by rw[e,h1] at hnl;cases hnl
        exact⟨ol _ new nn,nn⟩
 · rintro σ' vs H' ⟨_,s,h1,ys,rfl,h2,h3⟩;rw[Ab,Bd] at h2;refine q r ys H' hr s ⟨h1,λy hy=>(h3 y hy).1,?_,?_⟩ h2
   · have:=congrArg (List.map (·.1)) h2;rw[Cd,Cd] at this;rw[show(ys.map (·.hand))=xs.map (·.hand) from this];exact hx.nd
   · have:=congrArg Db h2;rw[Ab,Ab] at this;omega
theorem Vs(F:Fun K "law" "law" L6 f fd)(Hr:Γ31 P w K mg base)(Hs:Γ47 P w K mg base)(Ho:Γ34 P w K mg base)(Ht:Γ36 P w K mg base)(Hu:Γ45 P w K mg base)(Hv:Γ51 P w K mg base)(Hc:Γ32 P w K mg base)(Hm:Γ48 P w K mg base)(Hw:Γ43 P w K mg base)(Hx:Γ30 P w K mg base)(Hy:Γ52 P w K mg base)(Hz:Γ53 P w K mg base)(Hk:Γ44 P w K mg base)(HA:Γ49 P w K mg base):FnOk P w K mg base H_ 12 f fd ["script"] (Nr K):=by
 refine F.ok G8 (λvs H Q E h=>?_) (λcdv A outer s H vs Q E hr h=>?_)
 · obtain⟨a,ns,rfl,hS,h63,q⟩:=h;rfl
 obtain⟨a,ns,rfl,hS,h63,q⟩:=h;refine⟨_,(HK (HY (i:=1) G8.nd rfl (Or.inl rfl) (HP Hr (hr.mono (by decide)) rfl (HB (pv 0) HC)))
  (HK (HY (i:=2) G8.nd rfl (Or.inl rfl) (HU Pd (HP Hc (hr.mono (by decide)) rfl (HB (pv 1) (HB HF HC))) HF))
  (HK (HY (i:=3) G8.nd rfl (Or.inl rfl) (HP Hs (hr.mono (by decide)) rfl (HB (pv 1) (HB (Ii IA (IP (HB HF (HB HF HC))) (pv 2) (λ_ _=>rfl)) HC))))
  (HK (HY (i:=4) G8.nd rfl (Or.inl rfl) (HP Ho (hr.mono (by decide)) rfl (HB (pv 1) (HB (Ii IA (IP (HB HF (HB HF (HB HF HC)))) (HP Hc (hr.mono (by decide)) rfl (HB (pv 1) (HB HF HC))) (λ_ _=>rfl)) HC))))
  (HK (HY (i:=5) G8.nd rfl (Or.inl rfl) (HP Ht (hr.mono (by decide)) rfl (HB (pv 1) HC)))
  (HK (HY (i:=6) G8.nd rfl (Or.inl rfl) (HP Hu (hr.mono (by decide)) rfl (HB (pv 1) (HB (pv 4) (HB (pv 5) (HB (HU IM (Ii IA (IP (HB HF (HB HF HC))) (pv 2) (λ_ _=>rfl)) (HP Hc (hr.mono (by decide)) rfl (HB (pv 1) (HB HF HC)))) (HB (HU IM HF (HP Hc (hr.mono (by decide)) rfl (HB (pv 1) (HB (Ii IA (IP (HB HF (HB HF HC))) (pv 2) (λ_ _=>rfl)) HC)))) HC)))))))
  (HK (HY (i:=7) G8.nd rfl (Or.inl rfl) (HP Hv (hr.mono (by decide)) rfl (HB (pv 1) (HB (pv 3) (HB (pv 6) (HB (Ii IA (IP (HB HF (HB HF HC))) (pv 2) (λ_ _=>rfl)) HC))))))
  (HK (Ip (Ig Jg (HP Hc (hr.mono (by decide)) rfl (HB (pv 1) (HB HF HC))) HF (Ie _)) (HM (HY (i:=7) G8.nd rfl (Or.inl rfl) (IP HC))) Io)
  (HK (JC AT rfl (KD rfl B.range_ (HB (HU IM HF (Ia (OV rfl) rfl B.min_ O0 (HB (Ii IA (IP (HB HF (HB HF HC))) (pv 2) (λ_ _=>rfl)) (HB (Ia IN rfl B.len_ ID (HB (pv 0) HC)) HC)))) HC)) (HW (i:=8) G8.nd rfl (Or.inl rfl)) (HK (HY (i:=9) G8.nd rfl (Or.inl rfl) (HP Hc (hr.mono (by decide)) rfl (HB (pv 1) (HB (HU IM (Ia IN rfl B.len_ ID (HB (pv 3) HC)) HF) HC))))
  (HK (HY (i:=10) G8.nd rfl (Or.inl rfl) (HP Hm (hr.mono (by decide)) rfl (HB (pv 3) (HB (pv 9) HC))))
  (HM (Ip (Ig (Rz (Kc hr)) (pv 10) (IP HC) (Ie _)) (HK (HY (i:=11) G8.nd rfl (Or.inl rfl) (Ii IA (pv 10) (HP Hc (hr.mono (by decide)) rfl (HB (pv 1) (HB (Ia IN rfl B.len_ ID (HB (pv 10) HC)) HC))) (λ_ _=>rfl)))
  (HK (HY (i:=12) G8.nd rfl (Or.inl rfl) (HP Hw (hr.mono (by decide)) rfl (HB (HP Hy (hr.mono (by decide)) rfl (HB (pv 7) (HB (HP HA (hr.mono (by decide)) rfl (HB (pv 3) (HB (pv 9) (HB (pv 11) HC)))) HC))) HC)))
  (HK (HY (i:=13) G8.nd rfl (Or.inl rfl) (I_ (HB (Mj NT rfl B.list_ JY (HB (pv 3) HC)) (HB (HP Hz (hr.mono (by decide)) rfl (HB (pv 7) HC)) HC))))
  (HK (HY (i:=14) G8.nd rfl (Or.inl rfl) (HP Hx (hr.mono (by decide)) rfl (HB (Ii JN (pv 13) HF (λ_ _=>rfl)) (HB (Ii JN (pv 13) HF (λ_ _=>rfl)) (HB (pv 9) (HB (pv 11) HC))))))
  (HK (Ip (Ji (Ja (HP Hk (hr.mono (by decide)) rfl (HB (pv 14) (HB (pv 12) HC))))) (HM (HX IV)) Io)
  (HK (JI (JM AL AW AX Kb (pv 14) (HB (I_ HC) HC)))
  (HK (Ip (Ji (Ja (HP Hk (hr.mono (by decide)) rfl (HB (pv 13) (HB (I_ (HB (pv 3) (HB (pv 7) HC))) HC))))) (HM (HX IV)) Io)
  (HM (Ip (Ji (Ja (HP Hk (hr.mono (by decide)) rfl (HB (HP Hx (hr.mono (by decide)) rfl (HB (Ii JN (pv 13) HF (λ_ _=>rfl)) (HB (Ii JN (pv 13) HF (λ_ _=>rfl)) (HB (pv 9) (HB (pv 11) HC))))) (HB (pv 12) HC))))) (HM (HX IV)) Io))))))))) Io)))))
  (HM (HX IV))))))))))),?_⟩
 refine⟨_,rfl,a,ns,rfl,hS,h63,λb g l H1 B1 S1 nb ng=>?_⟩;refine⟨_,rfl,b,g,l,_,8,rfl,B1,by decide,by decide,by decide,λc H2 c0 c1 B2 S2=>⟨_,_,rfl,rfl,⟨by decide,by decide⟩,?_⟩⟩;dsimp only;have lg01:c / 7=0∨c / 7=1:=by omega
 generalize c / 7=lg at lg01;have pair:∀x y:Int,∃z:Int,IL [V.int x,V.int y] lg=some (.int z)∧(z=x∨z=y):=λx y=>by
  rcases lg01 with rfl | rfl
  · exact⟨x,rfl,.inl rfl⟩
  · exact⟨y,rfl,.inr rfl⟩
 refine IW ?_;refine⟨_,rfl,IJ,λu1 hu1=>?_⟩;have s3:=HN hu1 (.lst [V.int 10,V.int 24]);have e3:(HD H2 u1 (.lst [V.int 10,V.int 24])) u1=some (.lst [V.int 10,V.int 24]):=HH;have B3:=B2.same s3;generalize HD H2 u1 (.lst [V.int 10,V.int 24])=H3 at*;obtain⟨most,hmost,mo⟩:=pair 10 24;refine⟨_,rfl,u1,_,lg,_,rfl,rfl,SqL.of e3,hmost,b,g,l,_,most,rfl,B3,by decide,by omega,by omega,λwa W H4 nwa hW4 B4 S4=>?_⟩;obtain⟨wb,wg,_⟩:=B3.free nwa;refine IW ?_;refine⟨_,rfl,Ms,λu2 hu2=>?_⟩;have s5:=HN hu2 (.lst [V.int 3,V.int 3,V.int 6]);have e5:(HD H4 u2 (.lst [V.int 3,V.int 3,V.int 6])) u2=some (.lst [V.int 3,V.int 3,V.int 6]):=HH;have B5:=B4.same s5;have hW5:WebAt (HD H4 u2 (.lst [V.int 3,V.int 3,V.int 6])) wa W:=⟨s5 _ _ hW4.1,hW4.2⟩;obtain⟨u2b,u2g,_⟩:=B4.free hu2;generalize HD H4 u2 (.lst [V.int 3,V.int 3,V.int 6])=H5 at*;refine⟨_,rfl,b,g,l,_,3,rfl,B5,by decide,by decide,by decide,λc2 H6 c20 c21 B6 S6=>?_⟩;obtain⟨mf,hmf,mf1,mf6⟩:∃z:Int,IL [V.int 3,V.int 3,V.int 6] c2=some (.int z)∧1≤z∧z≤6:=by
  have:c2=0∨c2=1∨c2=2:=by omega
  rcases this with rfl | rfl | rfl
  · exact⟨3,rfl,by decide,by decide⟩
  · exact⟨3,rfl,by decide,by decide⟩
  · exact⟨6,rfl,by decide,by decide⟩
 have hW6:WebAt H6 wa W:=⟨S6 _ _ hW5.1 wb wg,hW5.2⟩;refine⟨u2,_,c2,_,rfl,rfl,SqL.of (S6 _ _ e5 u2b u2g),hmf,b,g,l,_,mf,rfl,B6,by decide,mf1,by omega,λna fs H7 n7 e7 asc7 ok7 l1 l6 B7 S7=>?_⟩;obtain⟨nab,nag,_⟩:=B6.free n7;have N7:NamesAt H7 b g na fs:=⟨e7,nab,nag,by omega,ok7,asc7⟩;have hW7:WebAt H7 wa W:=⟨S7 _ _ hW6.1 wb wg,hW6.2⟩;refine IW ?_;refine⟨_,rfl,b,g,l,_,rfl,B7,by decide,λt lo sz H8 et lo1 lo2 sz1 sz2 B8 S8=>?_⟩;have N8:=N7.sameB S8;have hW8:WebAt H8 wa W:=⟨S8 _ _ hW7.1 wb wg,hW7.2⟩;have t8:=et;refine IW ?_;refine⟨_,rfl,_,rfl,_,rfl,IJ,λu3 hu3=>?_⟩;have s9:=HN hu3 (.lst [V.int 1,V.int 30]);have e9:(HD H8 u3 (.lst [V.int 1,V.int 30])) u3=some (.lst [V.int 1,V.int 30]):=HH;have B9:=B8.same s9;have N9:=N8.sameB s9.sameB;have hW9:WebAt (HD H8 u3 (.lst [V.int 1,V.int 30])) wa W:=⟨s9 _ _ hW8.1,hW8.2⟩;have t9:=s9 _ _ t8;generalize HD H8 u3 (.lst [V.int 1,V.int 30])=H9 at*;obtain⟨w0,hw0,w0o⟩:=pair 1 30;refine⟨_,rfl,u3,_,lg,_,rfl,rfl,SqL.of e9,hw0,_,rfl,b,g,l,_,4,rfl,B9,by decide,by decide,by decide,λc3 H0 c30 c31 B0 S0=>⟨_,_,rfl,rfl,?_⟩⟩;have N0:=N9.sameB S0;have hW0:WebAt H0 wa W:=⟨S0 _ _ hW9.1 wb wg,hW9.2⟩;have t0:=B9.tup S0 t9;dsimp only;obtain⟨wide,ew,wd1,wd2⟩:∃wide:Int,w0+c3=wide∧1≤wide∧wide≤34:=⟨_,rfl,by omega,by omega⟩;rw[ew];refine⟨_,rfl,IJ,λu5 hu5=>?_⟩;have s10:=HN hu5 (.lst [V.int 8,V.int 60]);have e10:(HD H0 u5 (.lst [V.int 8,V.int 60])) u5=some (.lst [V.int 8,V.int 60]):=HH;have B10:=B0.same s10;have N10:=N0.sameB s10.sameB;have hW10:WebAt (HD H0 u5 (.lst [V.int 8,V.int 60])) wa W:=⟨s10 _ _ hW0.1,hW0.2⟩;have t10:=s10 _ _ t0;generalize HD H0 u5 (.lst [V.int 8,V.int 60])=H10 at*;obtain⟨mp,hmp,mpo⟩:=pair 8 60;refine⟨_,rfl,u5,_,lg,_,rfl,rfl,SqL.of e10,hmp,b,g,l,_,mp,rfl,B10,by decide,by omega,J5 (by omega),λc4 H11 c40 c41 B11 S11=>⟨_,_,rfl,rfl,?_⟩⟩;have N11:=N10.sameB S11;have hW11:WebAt H11 wa W:=⟨S11 _ _ hW10.1 wb wg,hW10.2⟩;have t11:=B10.tup S11 t10;refine⟨b,g,l,na,t,_,lo,sz,wide,2+c4,fs,rfl,B11,by decide,N11,t11,sz1,sz2,wd1,by omega,by omega,by omega,λpa ws H12 n12 W12 lw ndw B12 S12=>?_⟩;obtain⟨pab,pag,_⟩:=B11.free n12;have N12:=N11.sameB S12;have hW12:WebAt H12 wa W:=⟨S12 _ _ hW11.1 wb wg,hW11.2⟩;have t12:=B11.tup S12 t11;refine IW ?_;refine⟨_,rfl,_,rfl,_,rfl,IJ,λu4 hu4=>?_⟩;have s13:=HN hu4 (.lst [V.int 8,V.int 30]);have e13:(HD H12 u4 (.lst [V.int 8,V.int 30])) u4=some (.lst [V.int 8,V.int 30]):=HH;have B13:=B12.same s13;have N13:=N12.sameB s13.sameB;have hW13:WebAt (HD H12 u4 (.lst [V.int 8,V.int 30])) wa W:=⟨s13 _ _ hW12.1,hW12.2⟩;have t13:=s13 _ _ t12;have W13:=W12.same s13;generalize HD H12 u4 (.lst [V.int 8,V.int 30])=H13 at*;obtain⟨ms,hms,mso⟩:=pair 8 30;refine⟨_,rfl,u4,_,lg,_,rfl,rfl,SqL.of e13,hms,b,g,l,wa,pa,_,ms,W,ws,rfl,B13,by omega,hW13,wb,wg,W13,pab,pag,ndw,by omega,by omega,by omega,λsa xs H14 n14 X14 F14 fr14 B14 S14=>?_⟩;obtain⟨sab,sag,_⟩:=B13.free n14;have N14:=N13.sameB S14;have hW14:WebAt H14 wa W:=⟨S14 _ _ hW13.1 wb wg,hW13.2⟩;have t14:=B13.tup S14 t13;have lfree:∀x∈xs,x.l≠b∧x.l≠g:=λx hx=>⟨(B13.free (fr14 x hx)).1,(B13.free (fr14 x hx)).2.1⟩;refine IW ?_;dsimp only;refine K0 (λσ' H'=>∃(sa:Addr)(xs:List Stand),σ'=[some (.ref a),some (.ref b),some (.int lg),some (.ref wa),some (.ref na),some (.ref t),some (.ref pa),some (.ref sa),none,none,none,none,none,none,none]∧StsAt H' W sa xs∧FewS xs∧sa≠b∧sa≠g∧(∀x∈xs,x.l≠b∧x.l≠g)∧SameB b g H14 H'∧Well H' b g l 20000) (λZ hZ=>?_) ?_
 · refine⟨_,rfl,b,g,l,_,8,rfl,B14,by omega,by decide,by decide,λc5 H15 c50 c51 B15 S15=>⟨rfl,_,rfl,Il (λh=>?_) (λh=>?_)⟩⟩
   · refine⟨J2,λu5 hu5=>?_⟩;have s16:=HN hu5 (.lst []);obtain⟨ub,ug,_⟩:=B15.free hu5;exact hZ _ _ ⟨u5,[],rfl,⟨HH,λx hx=>(by simp at hx),Ew,by decide⟩,⟨[],by decide,λx hx=>(by simp at hx)⟩,ub,ug,λx hx=>(by simp at hx),S15.trans s16.sameB,(B15.same s16).mono (by omega)⟩
   · exact hZ _ _ ⟨sa,xs,rfl,X14.sameW B14 sab sag lfree S15,F14,sab,sag,lfree,S15,B15.mono (by omega)⟩
 clear X14 fr14 lfree n14 sab sag F14;have S1e:SameB b g H1 H14:=S2.trans (s3.sameB.trans (S4.trans (s5.sameB.trans (S6.trans (S7.trans (S8.trans (s9.sameB.trans (S0.trans (s10.sameB.trans (S11.trans (S12.trans (s13.sameB.trans S14))))))))))));rintro σ' H15 ⟨sa,xs,rfl,X15,F15,sab,sag,lfree,S15,B15⟩;have hW15:WebAt H15 wa W:=⟨S15 _ _ hW14.1 wb wg,hW14.2⟩;refine⟨IJ,λu6 hu6=>?_⟩;have s16:=HN hu6 (.lst [V.int 30,V.int 2]);have e16:(HD H15 u6 (.lst [V.int 30,V.int 2])) u6=some (.lst [V.int 30,V.int 2]):=HH;have B16:=B15.same s16;have X16:=X15.same s16;have hW16:WebAt (HD H15 u6 (.lst [V.int 30,V.int 2])) wa W:=⟨s16 _ _ hW15.1,hW15.2⟩;generalize HD H15 u6 (.lst [V.int 30,V.int 2])=H16 at*;obtain⟨zz,hzz,zzo⟩:=pair 30 2;obtain⟨N,eN,N0',N1'⟩:∃N:Int,4+(if((ns.map V.int).length:Int)<zz then((ns.map V.int).length:Int) else zz)=N∧0≤N∧N≤34:=⟨_,rfl,by split<;>omega,by split<;>omega⟩
 refine⟨_,rfl,u6,_,lg,_,rfl,rfl,SqL.of e16,hzz,_,rfl,a,_,rfl,.inl (XJ hS nb ng S1 (S1e.trans (S15.trans s16.sameB))),_,_,rfl,_,_,rfl,rfl,N,congrArg (λn=>[V.int n]) eN,by omega,by omega,OY (lo:=0) (n:=N.toNat) (λi σ H'=>(∃y8 y9 y10 y11 y12 y13 y14,σ=[some (.ref a),some (.ref b),some (.int lg),some (.ref wa),some (.ref na),some (.ref t),some (.ref pa),some (.ref sa),y8,y9,y10,y11,y12,y13,y14])∧SameB b g H16 H'∧Well H' b g l (20000+2*(i:Int))) ?_ ?_ ?_⟩
 · exact⟨⟨none,none,none,none,none,none,none,rfl⟩,λ_ _ h _ _=>h,B16.mono (by omega)⟩
 · rintro i σ H20 hi ⟨⟨y8,y9,y10,y11,y12,y13,y14,rfl⟩,S20,B20⟩;have X20:=X16.sameW B16 sab sag lfree S20;have hW20:WebAt H20 wa W:=⟨S20 _ _ hW16.1 wb wg,hW16.2⟩;refine IW ?_;refine⟨_,rfl,_,rfl,wa,_,rfl,.inl (SqL.of hW20.1),_,_,rfl,rfl,b,g,l,_,_,rfl,B20,by omega,by omega,J5 (by have:=hW20.2.1;rw[Ab];omega),λp H21 p0 p1 B21 S21=>?_⟩;have hp:WB.Post W p:=⟨p0,(by rw[Ab] at p1;omega)⟩;have hW21:WebAt H21 wa W:=⟨S21 _ _ hW20.1 wb wg,hW20.2⟩;have X21:=X20.sameW B20 sab sag lfree S21;refine IW ?_;refine⟨_,rfl,_,rfl,wa,W,p,rfl,hW21,hp,λbe H22 s22 nbe e22=>?_⟩;obtain⟨beb,beg,_⟩:=B21.free nbe;refine IW ?_;refine⟨_,rfl,J2,λu7 hu7=>?_⟩;have s23:=HN hu7 (.lst []);have s213:Same H21 (HD H22 u7 (.lst [])):=s22.trans s23;have e23:=s23 _ _ e22;refine⟨be,u7,_,rfl,rfl,e23,HH,_,rfl,?_⟩;generalize HD H22 u7 (.lst [])=H23 at*;have B23:=B21.same s213;have S23:SameB b g H16 H23:=S20.trans (S21.trans s213.sameB);have hW23:=hW21.same s213;have X23:=X21.same s213;have rl:=WB.roads_len hW23.2 p;cases er:((WB.roads W p).map V.int).isEmpty with
   | true=>exact HE ⟨⟨_,_,_,_,_,_,_,rfl⟩,S23,B23.mono (by omega)⟩
   | false=>
    have ne:0<(WB.roads W p).length:=by
     cases hr:WB.roads W p with
     | nil=>rw[hr] at er;cases er
     | cons x r=>simp
    refine HG ?_;refine IW ?_;refine⟨_,rfl,_,rfl,_,rfl,be,_,rfl,.inl (SqL.of e23),b,g,l,_,_,rfl,B23,by omega,(by rw[Ab];omega),J5 (by rw[Ab];omega),λc H24 c0 c1 B24 S24=>?_⟩;rw[Ab] at c1;obtain⟨m,rfl⟩:=Ci c0;have hm':m<(WB.roads W p).length:=by omega
    have em:(WB.roads W p)[m]?=some (WB.roads W p)[m]:=by simp
    have atq:IL ((WB.roads W p).map V.int) (m:Int)=some (.int (WB.roads W p)[m]):=J9 (by rw[Aj,em];rfl);have hm:=Ak em;generalize(WB.roads W p)[m]=q' at*;have hq:=(WB.roads_adj hW23.2 hp hm).1;refine⟨be,_,_,_,rfl,rfl,SqL.of (S24 _ _ e23 beb beg),atq,?_⟩;have hW24:WebAt H24 wa W:=⟨S24 _ _ hW23.1 wb wg,hW23.2⟩;have X24:=X23.sameW B23 sab sag lfree S24;have S24':=S23.trans S24;refine IW ?_;refine⟨_,rfl,_,rfl,_,rfl,_,rfl,wa,W,p,q',rfl,hW24,hp,hq,hm,λF0 F H25 s25 nF eF mF lF=>?_⟩;refine⟨sa,F0,W,xs,F,rfl,X24.same s25,eF,λwl H26 s26 nwl W26=>?_⟩;refine⟨wl,_,rfl,W26,F15.wants,λdu qs H27 s27 ndu T27 srt27=>?_⟩;have s247:=s25.trans (s26.trans s27);have W27:=W26.same s27;have X27:=X24.same s247;have hW27:=hW24.same s247;have U27:WsAt H27 du qs:=⟨T27.1,λx hx=>W27.ok x (T27.2.1 x hx),A2 T27.2.2.2 W27.len⟩;refine IW ?_;refine⟨_,rfl,wa,_,rfl,.inl (SqL.of hW27.1),λlw' hlw=>?_⟩;have s28:=HN hlw (.lst (W.map V.int));have e28:(HD H27 lw' (.lst (W.map V.int))) lw'=some (.lst (W.map V.int)):=HH;generalize HD H27 lw' (.lst (W.map V.int))=H28 at*;refine⟨_,rfl,sa,W,xs,rfl,X27.same s28,λka ks H29 nka s29 K29 ek=>?_⟩;refine⟨IJ,λtp htp=>?_⟩;have s30:=HN htp (.tup [V.ref lw',V.ref ka]);have e30:(HD H29 tp (.tup [V.ref lw',V.ref ka])) tp=some (.tup [V.ref lw',V.ref ka]):=HH;generalize HD H29 tp (.tup [V.ref lw',V.ref ka])=H30 at*;have s270:=s28.trans (s29.trans s30);have L30:WebAt H30 lw' W:=⟨(s29.trans s30) _ _ e28,hW27.2⟩;have K30:=K29.same s30;have W30:=W27.same s270;have ew':Jr (λx=>WB.has (WB.wayB W x p) q') ks=Jr (WB.has F) xs:=Xs ek λx hx=>XN mF (X27.ok x hx).post;refine IW ?_;refine⟨_,rfl,tp,_,0,_,rfl,rfl,SqT.of e30,rfl,_,rfl,tp,_,1,_,rfl,rfl,SqT.of e30,rfl,_,rfl,_,rfl,lw',ka,W,ks,p,q',rfl,L30,K30,F15.keep ek,hp,hq,hm,λfo rs H31 s31 nfo T31 srt31=>?_⟩;rw[ew'] at T31;have A31:WsAt H31 fo rs:=⟨T31.1,λx hx=>(W30.same s31).ok x (T31.2.1 x hx),A2 T31.2.2.2 W30.len⟩;have eq1:rs.map (·.2)=qs.map (·.2):=Ta T31.2.2.1 T27.2.2.1 srt31 srt27;refine IW ?_;refine⟨_,rfl,_,rfl,3,by decide,_,_,_,rfl,by decide,A31.repY,(by rw[eq1];exact(U27.same (s270.trans s31)).repY),Pj _,λH32 s32=>⟨_,rfl,HE ?_⟩⟩;have A32:=A31.same s32;refine⟨_,rfl,.inl ⟨rfl,_,SqL.of A32.at'⟩,J2,λet' het=>?_⟩;have s33:=HN het (.tup []);have A33:=A32.same s33;refine⟨fo,_,_,rfl,rfl,A33.at',(by rw[Ab];have:=A33.len;exact IB (by omega)),?_⟩;have s304:=Jh (o:= .lst (rs.map (λx=>V.ref x.1)++[V.ref et'])) (s31.trans (s32.trans s33)) nfo;generalize HD (HD H32 et' (.tup [])) fo (.lst (rs.map (λx=>V.ref x.1)++[V.ref et']))=H34 at*;have s274:=s270.trans s304;refine⟨_,rfl,_,rfl,_,rfl,IJ,λtq htq=>?_⟩;have s35:=HN htq (.tup [V.ref wa,V.ref sa]);have e35:(HD H34 tq (.tup [V.ref wa,V.ref sa])) tq=some (.tup [V.ref wa,V.ref sa]):=HH;generalize HD H34 tq (.tup [V.ref wa,V.ref sa])=H35 at*;have s305:=s304.trans s35;have s275:=s274.trans s35;refine⟨6,by decide,_,_,Lb W (ks.map I0),rfl,by decide,SL (s305 _ _ e30) (L30.same s305) (K30.same s305),by rw[ek];exact SL e35 (hW27.same s275) (X27.same s275),Xc _ _,λH36 s36=>⟨_,rfl,HE ?_⟩⟩;have s306:=s305.trans s36;have e36:=s306 _ _ e30;refine⟨_,rfl,tp,_,0,_,rfl,rfl,SqT.of e36,rfl,_,rfl,tp,_,1,_,rfl,rfl,SqT.of e36,rfl,_,rfl,_,rfl,lw',ka,W,ks,p,q',rfl,L30.same s306,K30.same s306,F15.keep ek,hp,hq,hm,λfo2 rs2 H37 s37 nfo2 T37 srt37=>?_⟩;rw[ew'] at T37;have A37:WsAt H37 fo2 rs2:=⟨T37.1,λx hx=>((W30.same s306).same s37).ok x (T37.2.1 x hx),A2 T37.2.2.2 W30.len⟩;have eq2:rs2.map (·.2)=qs.map (·.2):=Ta T37.2.2.1 T27.2.2.1 srt37 srt27;have s277:=s270.trans (s306.trans s37);refine⟨_,rfl,3,by decide,_,_,_,rfl,by decide,A37.repY,(by rw[eq2];exact(U27.same s277).repY),Pj _,λH38 s38=>⟨_,rfl,HE ?_⟩⟩;have s248:=s247.trans (s277.trans s38);exact⟨⟨_,_,_,_,_,_,_,rfl⟩,S24'.trans s248.sameB,(B24.same s248).mono (by omega)⟩
 · rintro σ H20 ⟨⟨y8,y9,y10,y11,y12,y13,y14,rfl⟩,S20,B20⟩;exact q H20
end
open PySem.W (nsIn mg_of mg_none_of fnOf keepIn codeIn)
abbrev dF(n:Str)(s:Stmt):=fnOf n n (Kk s) (JZ s) (HQ s) .none
theorem IX{K:Ad}{st:Stmt}{f:Addr}{fd:Bv}{p0:Str}(F:Fun K x x st f fd)(h:∀(kV doc pm:Value)(an:Option Addr)(cdv ct u0:Value),bindArgs (fnOf x x (Kk st) (JZ st) (HQ st) .none kV doc pm an cdv ct) ⟨[u0],[]⟩=pure [(p0,u0)]:=by intros;rfl):Binds K fd [p0] []:=
 F.binds λkV doc pm an cdv ct=>lS λu0=>l0 (h kV doc pm an cdv ct u0)
theorem Jo{K:Ad}{st:Stmt}{f:Addr}{fd:Bv}{p0 p1:Str}(F:Fun K x x st f fd)(h:∀(kV doc pm:Value)(an:Option Addr)(cdv ct u0 u1:Value),bindArgs (fnOf x x (Kk st) (JZ st) (HQ st) .none kV doc pm an cdv ct) ⟨[u0,u1],[]⟩=pure [(p0,u0),(p1,u1)]:=by intros;rfl):Binds K fd [p0,p1] []:=
 F.binds λkV doc pm an cdv ct=>lS λu0=>lS λu1=>l0 (h kV doc pm an cdv ct u0 u1)
theorem Oh{K:Ad}{st:Stmt}{f:Addr}{fd:Bv}{p0 p1 p2:Str}(F:Fun K x x st f fd)(h:∀(kV doc pm:Value)(an:Option Addr)(cdv ct u0 u1 u2:Value),bindArgs (fnOf x x (Kk st) (JZ st) (HQ st) .none kV doc pm an cdv ct) ⟨[u0,u1,u2],[]⟩=pure [(p0,u0),(p1,u1),(p2,u2)]:=by intros;rfl):Binds K fd [p0,p1,p2] []:=
 F.binds λkV doc pm an cdv ct=>lS λu0=>lS λu1=>lS λu2=>l0 (h kV doc pm an cdv ct u0 u1 u2)
theorem Og{K:Ad}{st:Stmt}{f:Addr}{fd:Bv}{p0 p1 p2 p3:Str}(F:Fun K x x st f fd)(h:∀(kV doc pm:Value)(an:Option Addr)(cdv ct u0 u1 u2 u3:Value),bindArgs (fnOf x x (Kk st) (JZ st) (HQ st) .none kV doc pm an cdv ct) ⟨[u0,u1,u2,u3],[]⟩=pure [(p0,u0),(p1,u1),(p2,u2),(p3,u3)]:=by intros;rfl):Binds K fd [p0,p1,p2,p3] []:=
 F.binds λkV doc pm an cdv ct=>lS λu0=>lS λu1=>lS λu2=>lS λu3=>l0 (h kV doc pm an cdv ct u0 u1 u2 u3)
theorem UT{K:Ad}{st:Stmt}{f:Addr}{fd:Bv}{p0 p1 p2 p3 p4:Str}(F:Fun K x x st f fd)(h:∀(kV doc pm:Value)(an:Option Addr)(cdv ct u0 u1 u2 u3 u4:Value),bindArgs (fnOf x x (Kk st) (JZ st) (HQ st) .none kV doc pm an cdv ct) ⟨[u0,u1,u2,u3,u4],[]⟩=pure [(p0,u0),(p1,u1),(p2,u2),(p3,u3),(p4,u4)]:=by intros;rfl):Binds K fd [p0,p1,p2,p3,p4] []:=
 F.binds λkV doc pm an cdv ct=>lS λu0=>lS λu1=>lS λu2=>lS λu3=>lS λu4=>l0 (h kV doc pm an cdv ct u0 u1 u2 u3 u4)
structure KF(K:Ad)(x:Str)(st:Stmt)(f:Addr)(fd:Bv):Prop where
 a:nsIn K A9 x=some (some (.ref f))
 F:Fun K x x st f fd
theorem all_mk{l:Fi}{w:World}{K:Ad}{mg:Str→Option Value}{fa f1 f2 f3 f4 f5 f6 f7 f8 f9 f10 f11 f12 f13 f14 f15 f16 f17 f18 f19 f20 f21 f22 f23 f24 f25 f26 f27 f28 f29 f30 f31 f32 f33 f34 f35 f36 f37 f38 f39 f40 f41 f42 f43 f44 f45 f46 f47 f48 f49 f50 f51 f52 f53 f54 f55:Addr}{g1 g2 g3 g4 g5 g6 g7 g8 g9 g10 g11 g12 g13 g14 g15 g16 g17 g18 g19 g20 g21 g22 g23 g24 g25 g26 g27 g28 g29 g30 g31 g32 g33 g34 g35 g36 g37 g38 g39 g40 g41 g42 g43 g44 g45 g46 g47 g48 g49 g50 g51 g52 g53 g54 g55:Bv}(X:K.In h)(G:h.Ns A9 mg)(hfa:mg "law"=some (.ref fa))
 (h1:KF K "is_whole" Pp f1 g1)
 (h2:KF K "is_end" OZ f2 g2)
 (h3:KF K "is_span" Ps f3 g3)
 (h4:KF K "span_reaches" PV f4 g4)
 (h5:KF K "is_field" NJ f5 g5)
 (h6:KF K "is_wish_part" PR f6 g6)
 (h7:KF K "fields_ascend" NS f7 g7)
 (h8:KF K "is_wish" NN f8 g8)
 (h9:KF K "are_wishes" NV f9 g9)
 (h10:KF K "are_unlike_wishes" P_ f10 g10)
 (h11:KF K "spans_by_field" Oa f11 g11)
 (h12:KF K "reaches_spans" PY f12 g12)
 (h13:KF K "rank_of_low" PZ f13 g13)
 (h14:KF K "rank_of_high" PU f14 g14)
 (h15:KF K "rank" Nx f15 g15)
 (h16:KF K "is_name" Pu f16 g16)
 (h17:KF K "is_under" Po f17 g17)
 (h18:KF K "greatest_of" MC f18 g18)
 (h19:KF K "wishes_in_order" PM f19 g19)
 (h20:KF K "is_web" NH f20 g20)
 (h21:KF K "check_web" P7 f21 g21)
 (h22:KF K "is_post" Pw f22 g22)
 (h23:KF K "roads_from" NY f23 g23)
 (h24:KF K "check_joined" PN f24 g24)
 (h25:KF K "way_back" PL f25 g25)
 (h26:KF K "way_between" MD f26 g26)
 (h27:KF K "is_stand" Pn f27 g27)
 (h28:KF K "are_stands" MB f28 g28)
 (h29:KF K "check_stands" PQ f29 g29)
 (h30:KF K "wishes_beyond" MG f30 g30)
 (h31:KF K "known_at_rest" PX f31 g31)
 (h32:KF K "_law_well" MF f32 g32)
 (h33:KF K "_law_take" PH f33 g33)
 (h34:KF K "_law_name" NK f34 g34)
 (h35:KF K "_law_fields" Pz f35 g35)
 (h36:KF K "_law_base" Pq f36 g36)
 (h37:KF K "_law_grid" Pr f37 g37)
 (h38:KF K "_law_span" PF f38 g38)
 (h39:KF K "_law_wish" PJ f39 g39)
 (h40:KF K "_law_wishes" P4 f40 g40)
 (h41:KF K "_law_part" P8 f41 g41)
 (h42:KF K "_law_covers" Py f42 g42)
 (h43:KF K "_law_rank" PB f43 g43)
 (h44:KF K "_law_greatest" Mk f44 g44)
 (h45:KF K "_law_alike" N_ f45 g45)
 (h46:KF K "_law_pool" P9 f46 g46)
 (h47:KF K "_law_picked" NW f47 g47)
 (h48:KF K "_law_web" NO f48 g48)
 (h49:KF K "_law_near" NL f49 g49)
 (h50:KF K "_law_beyond" Px f50 g50)
 (h51:KF K "_law_turned" NX f51 g51)
 (h52:KF K "_law_stands" P0 f52 g52)
 (h53:KF K "_law_wanted" P3 f53 g53)
 (h54:KF K "_law_stands_kept" Ob f54 g54)
 (h55:KF K "law" L6 f55 g55)
 {tML':Tok} (eML':nsIn K A9 "MOST_LETTERS"=some (some (.int 8 tML')))
 {tMR':Tok} (eMR':nsIn K A9 "MOST_ROADS"=some (some (.int 23 tMR')))
 {tMH':Tok} (eMH':nsIn K A9 "MOST_HANDS"=some (some (.int 30 tMH')))
 {tMW':Tok} (eMW':nsIn K A9 "MOST_WISHES"=some (some (.int 10 tMW')))
 (z_len:nsIn K A9 "len"=some none)
 (z_range:nsIn K A9 "range"=some none)
 (z_isinstance:nsIn K A9 "isinstance"=some none)
 (z_int:nsIn K A9 "int"=some none)
 (z_bool:nsIn K A9 "bool"=some none)
 (z_tuple:nsIn K A9 "tuple"=some none)
 (z_list:nsIn K A9 "list"=some none)
 (z_max:nsIn K A9 "max"=some none)
 (z_min:nsIn K A9 "min"=some none)
 (z_all:nsIn K A9 "all"=some none)
 (z_zip:nsIn K A9 "zip"=some none)
 (z_str:nsIn K A9 "str"=some none)
 (z_dict:nsIn K A9 "dict"=some none)
 (z_sorted:nsIn K A9 "sorted"=some none)
 (z_set:nsIn K A9 "set"=some none)
 (z_any:nsIn K A9 "any"=some none)
 (z_sum:nsIn K A9 "sum"=some none)
 (z_enumerate:nsIn K A9 "enumerate"=some none)
 (z_repr:nsIn K A9 "repr"=some none)
 (z_ord:nsIn K A9 "ord"=some none)
 (z_chr:nsIn K A9 "chr"=some none)
 (z_abs:nsIn K A9 "abs"=some none)
 (z_reversed:nsIn K A9 "reversed"=some none)
 :∃fd:Bv,(∀(s:Shared)(v:Value),BindsTo s fd ⟨[v],[]⟩ [("script",v)])∧∀base:Heap,K.In base→base.Ns A9 mg→FnOk l.prog w K mg base H_ 12 fa fd ["script"] (Nr K):=by
 have e:=hfa.symm.trans (PySem.W.mg_of X G h55.a);cases e;obtain⟨_,⟨⟨oc,od,kV,dc,pm,an,cd,ct,sl,rfl,l',c'⟩,k'⟩⟩:=h55;have B:Bl mg:=⟨mg_none_of X G z_len,mg_none_of X G z_range,mg_none_of X G z_isinstance,mg_none_of X G z_int,mg_none_of X G z_bool,mg_none_of X G z_tuple,mg_none_of X G z_list,mg_none_of X G z_max,mg_none_of X G z_min,mg_none_of X G z_all,mg_none_of X G z_zip,mg_none_of X G z_str,mg_none_of X G z_dict,mg_none_of X G z_sorted,mg_none_of X G z_set,mg_none_of X G z_any,mg_none_of X G z_sum,mg_none_of X G z_enumerate,mg_none_of X G z_repr,mg_none_of X G z_ord,mg_none_of X G z_chr,mg_none_of X G z_abs,mg_none_of X G z_reversed⟩;refine⟨Df "law" "law" (Kk L6) (JZ L6) (HQ L6) .none kV dc pm an cd ct,λs v=> .of_eq rfl,λbase _ _  =>?_⟩;have QML':=mg_of X G eML';have QMR':=mg_of X G eMR';have QMH':=mg_of X G eMH';have QMW':=mg_of X G eMW';have G9:Γ0 l.prog w K mg base:=⟨_,_,Zy B QML' QMR' QMH' QMW' h1.F,IX h1.F,h1.F.2,mg_of X G h1.a⟩;have GA:Γ1 l.prog w K mg base:=⟨_,_,Yd B QML' QMR' QMH' QMW' h2.F G9,IX h2.F,h2.F.2,mg_of X G h2.a⟩;have GC:Γ2 l.prog w K mg base:=⟨_,_,YF B QML' QMR' QMH' QMW' h3.F GA,IX h3.F,h3.F.2,mg_of X G h3.a⟩;have GH:Γ3 l.prog w K mg base:=⟨_,_,zd8 B QML' QMR' QMH' QMW' h4.F,Jo h4.F,h4.F.2,mg_of X G h4.a⟩;have GB:Γ4 l.prog w K mg base:=⟨_,_,ZK B QML' QMR' QMH' QMW' h5.F,IX h5.F,h5.F.2,mg_of X G h5.a⟩;have GE:Γ5 l.prog w K mg base:=⟨_,_,zeb B QML' QMR' QMH' QMW' h6.F GB GC,IX h6.F,h6.F.2,mg_of X G h6.a⟩;have GD:Γ6 l.prog w K mg base:=⟨_,_,zdL B QML' QMR' QMH' QMW' h7.F,IX h7.F,h7.F.2,mg_of X G h7.a⟩;have GF:Γ7 l.prog w K mg base:=⟨_,_,YG B QML' QMR' QMH' QMW' h8.F GD GE,IX h8.F,h8.F.2,mg_of X G h8.a⟩;have GG:Γ8 l.prog w K mg base:=⟨_,_,ZU B QML' QMR' QMH' QMW' h9.F GF,IX h9.F,h9.F.2,mg_of X G h9.a⟩;have GT:Γ9 l.prog w K mg base:=⟨_,_,zcF B QML' QMR' QMH' QMW' h10.F GG,IX h10.F,h10.F.2,mg_of X G h10.a⟩;have GK:Γ10 l.prog w K mg base:=⟨_,_,zdo B QML' QMR' QMH' QMW' h11.F,IX h11.F,h11.F.2,mg_of X G h11.a⟩;have GL:Γ11 l.prog w K mg base:=⟨_,_,zdJ B QML' QMR' QMH' QMW' h12.F GH,Jo h12.F,h12.F.2,mg_of X G h12.a⟩;have GI:Γ12 l.prog w K mg base:=⟨_,_,zey B QML' QMR' QMH' QMW' h13.F,IX h13.F,h13.F.2,mg_of X G h13.a⟩;have GJ:Γ13 l.prog w K mg base:=⟨_,_,zd9 B QML' QMR' QMH' QMW' h14.F,IX h14.F,h14.F.2,mg_of X G h14.a⟩;have GN:Γ14 l.prog w K mg base:=⟨_,_,We B QML' QMR' QMH' QMW' h15.F GI GJ,IX h15.F,h15.F.2,mg_of X G h15.a⟩;have GS:Γ15 l.prog w K mg base:=⟨_,_,YD B QML' QMR' QMH' QMW' h16.F GB,IX h16.F,h16.F.2,mg_of X G h16.a⟩;have GM:Γ16 l.prog w K mg base:=⟨_,_,Zx B QML' QMR' QMH' QMW' h17.F GK GL,Jo h17.F,h17.F.2,mg_of X G h17.a⟩;have Ha:Γ17 l.prog w K mg base:=⟨_,_,zez B QML' QMR' QMH' QMW' h18.F GM,IX h18.F,h18.F.2,mg_of X G h18.a⟩;have G_:Γ18 l.prog w K mg base:=⟨_,_,zcW B QML' QMR' QMH' QMW' h19.F GN,IX h19.F,h19.F.2,mg_of X G h19.a⟩;have GO:Γ19 l.prog w K mg base:=⟨_,_,Ye B QML' QMR' QMH' QMW' h20.F G9,IX h20.F,h20.F.2,mg_of X G h20.a⟩;have GV:Γ20 l.prog w K mg base:=⟨_,_,Zv B QML' QMR' QMH' QMW' h21.F GO,IX h21.F,h21.F.2,mg_of X G h21.a⟩;have GP:Γ21 l.prog w K mg base:=⟨_,_,YE B QML' QMR' QMH' QMW' h22.F G9,Jo h22.F,h22.F.2,mg_of X G h22.a⟩;have GQ:Γ22 l.prog w K mg base:=⟨_,_,ze8 B QML' QMR' QMH' QMW' h23.F,Jo h23.F,h23.F.2,mg_of X G h23.a⟩;have GZ:Γ23 l.prog w K mg base:=⟨_,_,zed B QML' QMR' QMH' QMW' h24.F GP GQ,Oh h24.F,h24.F.2,mg_of X G h24.a⟩;have GR:Γ24 l.prog w K mg base:=⟨_,_,ZB B QML' QMR' QMH' QMW' h25.F,Jo h25.F,h25.F.2,mg_of X G h25.a⟩;have GX:Γ25 l.prog w K mg base:=⟨_,_,zex B QML' QMR' QMH' QMW' h26.F GR,Oh h26.F,h26.F.2,mg_of X G h26.a⟩;have GU:Γ26 l.prog w K mg base:=⟨_,_,ZL B QML' QMR' QMH' QMW' h27.F GS GP GT,Jo h27.F,h27.F.2,mg_of X G h27.a⟩;have GW:Γ27 l.prog w K mg base:=⟨_,_,ZT B QML' QMR' QMH' QMW' h28.F GU,Jo h28.F,h28.F.2,mg_of X G h28.a⟩;have GY:Γ28 l.prog w K mg base:=⟨_,_,zec B QML' QMR' QMH' QMW' h29.F GV GW,Jo h29.F,h29.F.2,mg_of X G h29.a⟩;have Hb:Γ29 l.prog w K mg base:=⟨_,_,zdI B QML' QMR' QMH' QMW' h30.F GX,Og h30.F,h30.F.2,mg_of X G h30.a⟩;have Hx:Γ30 l.prog w K mg base:=⟨_,_,zdK B QML' QMR' QMH' QMW' h31.F GY GZ G_ Ha Hb,Og h31.F,h31.F.2,mg_of X G h31.a⟩;have Hr:Γ31 l.prog w K mg base:=⟨_,_,Z8 B QML' QMR' QMH' QMW' h32.F,IX h32.F,h32.F.2,mg_of X G h32.a⟩;have Hc:Γ32 l.prog w K mg base:=⟨_,_,Z7 B QML' QMR' QMH' QMW' h33.F,Jo h33.F,h33.F.2,mg_of X G h33.a⟩;have Hd:Γ33 l.prog w K mg base:=⟨_,_,Z1 B QML' QMR' QMH' QMW' h34.F Hc,Jo h34.F,h34.F.2,mg_of X G h34.a⟩;have Ho:Γ34 l.prog w K mg base:=⟨_,_,ZX B QML' QMR' QMH' QMW' h35.F Hd Hc,Jo h35.F,h35.F.2,mg_of X G h35.a⟩;have He:Γ35 l.prog w K mg base:=⟨_,_,Zz B QML' QMR' QMH' QMW' h36.F Hc,IX h36.F,h36.F.2,mg_of X G h36.a⟩;have Ht:Γ36 l.prog w K mg base:=⟨_,_,Z0 B QML' QMR' QMH' QMW' h37.F Hc He,IX h37.F,h37.F.2,mg_of X G h37.a⟩;have Hf:Γ37 l.prog w K mg base:=⟨_,_,Z6 B QML' QMR' QMH' QMW' h38.F Hc,Oh h38.F,h38.F.2,mg_of X G h38.a⟩
 have Hg:Γ38 l.prog w K mg base:=⟨_,_,Z9 B QML' QMR' QMH' QMW' h39.F Hc Hf,Og h39.F,h39.F.2,mg_of X G h39.a⟩;have Hl:Γ39 l.prog w K mg base:=⟨_,_,ze9 B QML' QMR' QMH' QMW' h40.F Hc Hg,UT h40.F,h40.F.2,mg_of X G h40.a⟩;have Hh:Γ40 l.prog w K mg base:=⟨_,_,Z3 B QML' QMR' QMH' QMW' h41.F,Jo h41.F,h41.F.2,mg_of X G h41.a⟩;have Hj:Γ41 l.prog w K mg base:=⟨_,_,ZW B QML' QMR' QMH' QMW' h42.F Hh,Jo h42.F,h42.F.2,mg_of X G h42.a⟩;have Hi:Γ42 l.prog w K mg base:=⟨_,_,Z5 B QML' QMR' QMH' QMW' h43.F,IX h43.F,h43.F.2,mg_of X G h43.a⟩;have Hw:Γ43 l.prog w K mg base:=⟨_,_,zea B QML' QMR' QMH' QMW' h44.F Hi Hj,IX h44.F,h44.F.2,mg_of X G h44.a⟩;have Hk:Γ44 l.prog w K mg base:=⟨_,_,Zw B QML' QMR' QMH' QMW' h45.F  (PySem.W.mg_of X G h45.a),Jo h45.F,h45.F.2,mg_of X G h45.a⟩;have Hu:Γ45 l.prog w K mg base:=⟨_,_,Z4 B QML' QMR' QMH' QMW' h46.F Hl,UT h46.F,h46.F.2,mg_of X G h46.a⟩;have Hq:Γ46 l.prog w K mg base:=⟨_,_,ZY B QML' QMR' QMH' QMW' h47.F Hc,Jo h47.F,h47.F.2,mg_of X G h47.a⟩;have Hs:Γ47 l.prog w K mg base:=⟨_,_,YH B QML' QMR' QMH' QMW' h48.F Hc,Jo h48.F,h48.F.2,mg_of X G h48.a⟩;have Hm:Γ48 l.prog w K mg base:=⟨_,_,Z2 B QML' QMR' QMH' QMW' h49.F,Jo h49.F,h49.F.2,mg_of X G h49.a⟩;have HA:Γ49 l.prog w K mg base:=⟨_,_,ZV B QML' QMR' QMH' QMW' h50.F Hm,Oh h50.F,h50.F.2,mg_of X G h50.a⟩;have Hn:Γ50 l.prog w K mg base:=⟨_,_,Z_ B QML' QMR' QMH' QMW' h51.F Hc,Jo h51.F,h51.F.2,mg_of X G h51.a⟩;have Hv:Γ51 l.prog w K mg base:=⟨_,_,ZZ B QML' QMR' QMH' QMW' h52.F Hn Ho Hc Hq,Og h52.F,h52.F.2,mg_of X G h52.a⟩;have Hy:Γ52 l.prog w K mg base:=⟨_,_,zfa B QML' QMR' QMH' QMW' h53.F,Jo h53.F,h53.F.2,mg_of X G h53.a⟩;have Hz:Γ53 l.prog w K mg base:=⟨_,_,zcX B QML' QMR' QMH' QMW' h54.F,IX h54.F,h54.F.2,mg_of X G h54.a⟩;exact Vs B QML' QMR' QMH' QMW' (fun_mk (st:=L6) l' c' k') Hr Hs Ho Ht Hu Hv Hc Hm Hw Hx Hy Hz Hk HA
theorem walk{l:Fi}{q:AU}{loose:List Str}{XP:(Str→Option Value)→Heap→Prop}{YP:World→Heap→Prop}{d:DefRec}{K:Params→Ad}(hn:l.most=some 63)(hdf:d.params.defaults=[])
 (hY:∀(w:World)(h:Heap),YP w h→(K w.params).In h)
 (F:∀(w:World)(mg:Str→Option Value)(fa:Addr)(h:Heap),(K w.params).In h→h.Ns A9 mg→mg d.name=some (.ref fa)→
  ∃fd:Bv,(∀(s:Shared)(u:Value),BindsTo s fd ⟨[u],[]⟩ [("script",u)])∧∀base:Heap,(K w.params).In base→base.Ns A9 mg→FnOk l.prog w (K w.params) mg base H_ 12 fa fd ["script"] (Nr (K w.params))):
 PySem.W.WalkO q loose XP YP l.row.toRowW d [] (λf vs=>PySem.call f vs):=
 L2.walk_of (n:=63) (k:=12) (x:="script") (CX:=λ_=>H_) (sp:=λw=>Nr (K w.params)) hn (by decide) hdf ⟨rfl,by decide,by decide,rfl⟩ hY F (λ_ _ a ns hl _ hS=>⟨a,ns,rfl,hS,hl,λ_=>rfl⟩) λ_ _ _ _ _ z=>z
end K61
namespace PySem.W.Fast
theorem tw17552015044937683078:0=0:=rfl
theorem tw7299860621291153064:0=0:=rfl
theorem tw7393905741681295915:0=0:=rfl
theorem tw17084821515784091373:0=0:=rfl
theorem tw16190755236493064206:0=0:=rfl
theorem tw13380791941655432917:0=0:=rfl
theorem tw13605231512835925686:0=0:=rfl
theorem tw8880673416923225272:0=0:=rfl
theorem tw9418782110949236600:0=0:=rfl
theorem tw9360692565752481436:0=0:=rfl
theorem tw5737545398847843328:0=0:=rfl
theorem tw6352188085719049216:0=0:=rfl
theorem tw9982784118907880704:0=0:=rfl
theorem tw7636648330760599840:0=0:=rfl
theorem tw15177032204803127680:0=0:=rfl
theorem tw16366502768207736224:0=0:=rfl
theorem tw5190756119656791552:0=0:=rfl
theorem tw215754912309025280:0=0:=rfl
theorem tw478443313839726144:0=0:=rfl
theorem tw17801719519605022336:0=0:=rfl
theorem tw13356414860664552096:0=0:=rfl
theorem tw3871864425358717664:0=0:=rfl
theorem tw17138442705151995744:0=0:=rfl
theorem tw8744647602813593472:0=0:=rfl
theorem tw14692833811563322465:0=0:=rfl
theorem tw3225284888759843937:0=0:=rfl
theorem tw9416262069389421697:0=0:=rfl
theorem tw10114452560497214657:0=0:=rfl
theorem tw7550169332067219649:0=0:=rfl
theorem tw3880235172100446401:0=0:=rfl
theorem tw7921454885085693217:0=0:=rfl
theorem tw7169475632883013953:0=0:=rfl
theorem tw5383450859717675361:0=0:=rfl
theorem tw12103045284492641697:0=0:=rfl
theorem tw11552402219979872673:0=0:=rfl
theorem tw5683914908129388001:0=0:=rfl
theorem tw4453828521777216001:0=0:=rfl
theorem tw4651344817970250241:0=0:=rfl
theorem tw15231303577129591425:0=0:=rfl
theorem tw7853994035842561665:0=0:=rfl
theorem tw12360663424314128001:0=0:=rfl
theorem tw8408071864752045729:0=0:=rfl
theorem tw13111205092447102721:0=0:=rfl
theorem tw15618761063595471617:0=0:=rfl
theorem tw8489879708679240449:0=0:=rfl
theorem tw16492678638671147937:0=0:=rfl
theorem tw14714779959312626657:0=0:=rfl
theorem tw5332869811299537954:0=0:=rfl
theorem tw17608696275500165186:0=0:=rfl
theorem tw16012893774754173026:0=0:=rfl
theorem tw12359828773007902818:0=0:=rfl
theorem tw515986066636596386:0=0:=rfl
theorem tw704057707123179778:0=0:=rfl
theorem tw14863417035874928898:0=0:=rfl
theorem tw11314188799348727074:0=0:=rfl
theorem tw17531694793229358466:0=0:=rfl
theorem tw13463710478418154946:0=0:=rfl
theorem tw12989015778239040066:0=0:=rfl
theorem tw18425707359034403458:0=0:=rfl
theorem tw18333685705111326402:0=0:=rfl
theorem tw4598664209944084226:0=0:=rfl
theorem tw13552932125178392418:0=0:=rfl
theorem tw8098029823403485058:0=0:=rfl
theorem tw6493862834170038403:0=0:=rfl
theorem tw1783599023352963:0=0:=rfl
theorem tw10249475198602937763:0=0:=rfl
theorem tw12280105899660470787:0=0:=rfl
theorem tw3410600074443371203:0=0:=rfl
theorem tw11560836709939114787:0=0:=rfl
theorem tw18358065922972649347:0=0:=rfl
theorem tw12975245655499885539:0=0:=rfl
theorem tw17779287800684950564:0=0:=rfl
theorem tw9676643695761540196:0=0:=rfl
theorem tw6251968012944053412:0=0:=rfl
theorem tw10507947052959034820:0=0:=rfl
theorem tw15858807668848522788:0=0:=rfl
theorem tw1889697019461342756:0=0:=rfl
theorem tw4788782857333353092:0=0:=rfl
theorem tw15894733716896448132:0=0:=rfl
theorem tw5884753754664829700:0=0:=rfl
theorem tw6254887829530515364:0=0:=rfl
theorem tw940426309534160868:0=0:=rfl
theorem tw11026900030028650725:0=0:=rfl
theorem tw18040976146767713861:0=0:=rfl
theorem tw2494995259379679973:0=0:=rfl
theorem tw16398276424540832517:0=0:=rfl
theorem tw4671544594555412357:0=0:=rfl
theorem tw14405880693101903781:0=0:=rfl
theorem tw17413448845129896070:0=0:=rfl
theorem tw15713092538914226342:0=0:=rfl
theorem tw14330512238379963590:0=0:=rfl
theorem tw18106147178103013734:0=0:=rfl
theorem tw2422981207847000422:0=0:=rfl
theorem tw7691055510836393478:0=0:=rfl
theorem tw4464531462296586790:0=0:=rfl
theorem tw16482063974705214054:0=0:=rfl
theorem tw5306465538768937766:0=0:=rfl
theorem tw12920877592128131878:0=0:=rfl
theorem tw10851622498144058182:0=0:=rfl
theorem tw7295650140370978758:0=0:=rfl
theorem tw15426055573468182535:0=0:=rfl
theorem tw4347447038203651143:0=0:=rfl
theorem tw17514805421555145863:0=0:=rfl
theorem tw5051218181276129415:0=0:=rfl
theorem tw1290890945686700295:0=0:=rfl
theorem tw1611610964290544935:0=0:=rfl
theorem tw13477561432121739591:0=0:=rfl
theorem tw11799973293388822919:0=0:=rfl
theorem tw202141711125071239:0=0:=rfl
theorem tw11281363268543268295:0=0:=rfl
theorem tw9767889104190340615:0=0:=rfl
theorem tw2784819309622160935:0=0:=rfl
theorem tw7527948521374481991:0=0:=rfl
theorem tw5403516698732072615:0=0:=rfl
theorem tw17060451487318524615:0=0:=rfl
theorem tw5350933764856296263:0=0:=rfl
theorem tw17674228531390551975:0=0:=rfl
theorem tw6198497105103429575:0=0:=rfl
theorem tw16653693092637544391:0=0:=rfl
theorem tw2891644426824312904:0=0:=rfl
theorem tw6848724349887318184:0=0:=rfl
theorem tw12989243127841670376:0=0:=rfl
theorem tw790071614319499528:0=0:=rfl
theorem tw7621178716605563240:0=0:=rfl
theorem tw10658570711375625672:0=0:=rfl
theorem tw6823136787988162024:0=0:=rfl
theorem tw13326674445339143656:0=0:=rfl
theorem tw7188243770885578248:0=0:=rfl
theorem tw12383707411237869128:0=0:=rfl
theorem tw17739723951131701896:0=0:=rfl
theorem tw1681120959774458536:0=0:=rfl
theorem tw3371355791653975752:0=0:=rfl
theorem tw14325993119758763816:0=0:=rfl
theorem tw1866344388441893704:0=0:=rfl
theorem tw10936352056442320712:0=0:=rfl
theorem tw16614436013170852905:0=0:=rfl
theorem tw15256575297043372137:0=0:=rfl
theorem tw7156219286541973641:0=0:=rfl
theorem tw3864672384893165833:0=0:=rfl
theorem tw4525389620061264233:0=0:=rfl
theorem tw1779621285492381129:0=0:=rfl
theorem tw13162272933919693321:0=0:=rfl
theorem tw4767422240048118313:0=0:=rfl
theorem tw17329257587708886601:0=0:=rfl
theorem tw12699333962755297961:0=0:=rfl
theorem tw9416611013137016585:0=0:=rfl
theorem tw4978783550927313801:0=0:=rfl
theorem tw12534667818790251626:0=0:=rfl
theorem tw17915087526234549386:0=0:=rfl
theorem tw13813222804356706474:0=0:=rfl
theorem tw6033978114502301898:0=0:=rfl
theorem tw9439421192514147690:0=0:=rfl
theorem tw13926139072666049962:0=0:=rfl
theorem tw1718923663906916906:0=0:=rfl
theorem tw14688279720460121738:0=0:=rfl
theorem tw12386676719425538026:0=0:=rfl
theorem tw14595737486007374891:0=0:=rfl
theorem tw4802959900186700011:0=0:=rfl
theorem tw10928042224719738219:0=0:=rfl
theorem tw10987739171015362987:0=0:=rfl
theorem tw13573645992281923083:0=0:=rfl
theorem tw4472462903260520107:0=0:=rfl
theorem tw11902848566793660363:0=0:=rfl
theorem tw13563396142672468172:0=0:=rfl
theorem tw8341649479109374188:0=0:=rfl
theorem tw12062122165986527596:0=0:=rfl
theorem tw11469865361095341548:0=0:=rfl
theorem tw6731765386663411212:0=0:=rfl
theorem tw17177702145693538828:0=0:=rfl
theorem tw9456820206986422828:0=0:=rfl
theorem tw15584283192803941036:0=0:=rfl
theorem tw18031135285540240172:0=0:=rfl
theorem tw11028621074167582572:0=0:=rfl
theorem tw17125237343900044172:0=0:=rfl
theorem tw3712747846062356396:0=0:=rfl
theorem tw10182291311910281164:0=0:=rfl
theorem tw11975218516529273965:0=0:=rfl
theorem tw3555613113176479853:0=0:=rfl
theorem tw18375325178377743565:0=0:=rfl
theorem tw16957989460844215533:0=0:=rfl
theorem tw9292434106018995437:0=0:=rfl
theorem tw8632774863653169421:0=0:=rfl
theorem tw14347779468793323853:0=0:=rfl
theorem tw6307737566916682189:0=0:=rfl
theorem tw7764523665709729325:0=0:=rfl
theorem tw13727667836573435629:0=0:=rfl
theorem tw4798234701132717805:0=0:=rfl
theorem tw13759808228170300141:0=0:=rfl
theorem tw10111222442684381965:0=0:=rfl
theorem tw9844219519714533133:0=0:=rfl
theorem tw3101410370596989869:0=0:=rfl
theorem tw4872277409241920429:0=0:=rfl
theorem tw5450990095188203469:0=0:=rfl
theorem tw2616450660613707757:0=0:=rfl
theorem tw15751873085511878702:0=0:=rfl
theorem tw2579866209377324078:0=0:=rfl
theorem tw9742993766440683662:0=0:=rfl
theorem tw1811078766437927054:0=0:=rfl
theorem tw13704380879438601358:0=0:=rfl
theorem tw12175475986128056590:0=0:=rfl
theorem tw18268806179407556910:0=0:=rfl
theorem tw731434515940904334:0=0:=rfl
theorem tw4252102635860289934:0=0:=rfl
theorem tw13440043860583957038:0=0:=rfl
theorem tw6090887421043178126:0=0:=rfl
theorem tw8051376442332678862:0=0:=rfl
theorem tw16017974646073418510:0=0:=rfl
theorem tw6179196403796445199:0=0:=rfl
theorem tw7574982671956061263:0=0:=rfl
theorem tw8358274912564914543:0=0:=rfl
theorem tw3707217457059092207:0=0:=rfl
theorem tw16654147648547763983:0=0:=rfl
theorem tw15495866463967803183:0=0:=rfl
theorem tw588549011857518640:0=0:=rfl
theorem tw17837930272979271760:0=0:=rfl
theorem tw7635040881268384912:0=0:=rfl
theorem tw14601039198997166288:0=0:=rfl
theorem tw4281290411918043376:0=0:=rfl
theorem tw18076090735466226992:0=0:=rfl
theorem tw9284036740906036624:0=0:=rfl
theorem tw6931364532857020976:0=0:=rfl
theorem tw17238088590469821008:0=0:=rfl
theorem tw742433758898624112:0=0:=rfl
theorem tw2923400458654288560:0=0:=rfl
theorem tw13660834205707567920:0=0:=rfl
theorem tw11435806022684698480:0=0:=rfl
theorem tw2162789585966212048:0=0:=rfl
theorem tw7688054113479324656:0=0:=rfl
theorem tw965153511769203729:0=0:=rfl
theorem tw1307110721198295057:0=0:=rfl
theorem tw16354313778024898673:0=0:=rfl
theorem tw960123081227129041:0=0:=rfl
theorem tw3072841459321500977:0=0:=rfl
theorem tw13963747320237720945:0=0:=rfl
theorem tw11939545540674950673:0=0:=rfl
theorem tw10875436208460043889:0=0:=rfl
theorem tw17830540989267519089:0=0:=rfl
theorem tw12743132152806209297:0=0:=rfl
theorem tw9289537984676046705:0=0:=rfl
theorem tw7000383742389481393:0=0:=rfl
theorem tw7639790021345742801:0=0:=rfl
theorem tw15954344510318952626:0=0:=rfl
theorem tw13068307991275008274:0=0:=rfl
theorem tw11594823750301697554:0=0:=rfl
theorem tw12820618232120097298:0=0:=rfl
theorem tw16286372314140453554:0=0:=rfl
theorem tw9375973791123999538:0=0:=rfl
theorem tw14034480238968030066:0=0:=rfl
theorem tw13412519481413028979:0=0:=rfl
theorem tw16834629957735316595:0=0:=rfl
theorem tw1596783894367238355:0=0:=rfl
theorem tw9700999360589020403:0=0:=rfl
theorem tw2985488096781101331:0=0:=rfl
theorem tw17007916010061491475:0=0:=rfl
theorem tw522438644517199155:0=0:=rfl
theorem tw15841599406179409235:0=0:=rfl
theorem tw3488622777328032115:0=0:=rfl
theorem tw18181532507608668723:0=0:=rfl
theorem tw14078809374984809107:0=0:=rfl
theorem tw14134001197310727891:0=0:=rfl
theorem tw9589505928596393811:0=0:=rfl
theorem tw16679057776867887955:0=0:=rfl
theorem tw17374173831613456371:0=0:=rfl
theorem tw5746640878011994132:0=0:=rfl
theorem tw15301406955586777140:0=0:=rfl
theorem tw10912508352016017588:0=0:=rfl
theorem tw14984196954819023092:0=0:=rfl
theorem tw18123478029285042484:0=0:=rfl
theorem tw12950148969334866260:0=0:=rfl
theorem tw9390865806193013332:0=0:=rfl
theorem tw17085621136742354676:0=0:=rfl
theorem tw1126150453847974900:0=0:=rfl
theorem tw17075016634144949397:0=0:=rfl
theorem tw12388784057496399029:0=0:=rfl
theorem tw2916382484090593461:0=0:=rfl
theorem tw11682651769767841973:0=0:=rfl
theorem tw11028690443094473973:0=0:=rfl
theorem tw3905328843194583701:0=0:=rfl
theorem tw8748269953923538709:0=0:=rfl
theorem tw11755017918049426293:0=0:=rfl
theorem tw10031519493439701877:0=0:=rfl
theorem tw17319939006094845142:0=0:=rfl
theorem tw3774736876812773750:0=0:=rfl
theorem tw7996473745610494422:0=0:=rfl
theorem tw5442326066576953974:0=0:=rfl
theorem tw1848735237668067158:0=0:=rfl
theorem tw5757299406324454423:0=0:=rfl
theorem tw7691912511988620471:0=0:=rfl
theorem tw11011067603168591159:0=0:=rfl
theorem tw2027282838405997015:0=0:=rfl
theorem tw5492188503400633847:0=0:=rfl
theorem tw10142337333524128279:0=0:=rfl
theorem tw14925068560148948535:0=0:=rfl
theorem tw16763389151547236919:0=0:=rfl
theorem tw11901326067396438647:0=0:=rfl
theorem tw5069300387348751063:0=0:=rfl
theorem tw9245729405021511511:0=0:=rfl
theorem tw5717521434545706871:0=0:=rfl
theorem tw4295353862094216440:0=0:=rfl
theorem tw4172333877380310296:0=0:=rfl
theorem tw3143151083196862776:0=0:=rfl
theorem tw7450648611197009304:0=0:=rfl
theorem tw17260301897653607896:0=0:=rfl
theorem tw2258652177589418488:0=0:=rfl
theorem tw8881647265272927800:0=0:=rfl
theorem tw9672530059637663288:0=0:=rfl
theorem tw6039541753230424728:0=0:=rfl
theorem tw17634487659335058104:0=0:=rfl
theorem tw9117974613660246776:0=0:=rfl
theorem tw10076017802525836056:0=0:=rfl
theorem tw9897268556659450872:0=0:=rfl
theorem tw2970337159707886745:0=0:=rfl
theorem tw3567579238317062489:0=0:=rfl
theorem tw7951398876552039865:0=0:=rfl
theorem tw4742564664421549593:0=0:=rfl
theorem tw2165886059783225977:0=0:=rfl
theorem tw11683721790176631449:0=0:=rfl
theorem tw9426137997107901113:0=0:=rfl
theorem tw2891187152619944665:0=0:=rfl
theorem tw15043957902363707097:0=0:=rfl
theorem tw5850501295392408313:0=0:=rfl
theorem tw9878307147562958713:0=0:=rfl
theorem tw6339829583500785657:0=0:=rfl
theorem tw16965667767857440922:0=0:=rfl
theorem tw6484854994890242330:0=0:=rfl
theorem tw17019387974291609914:0=0:=rfl
theorem tw6011259894584983898:0=0:=rfl
theorem tw14764823366900766330:0=0:=rfl
theorem tw6392473690309689978:0=0:=rfl
theorem tw13032333725969100442:0=0:=rfl
theorem tw10899046590326274778:0=0:=rfl
theorem tw3024789742322613242:0=0:=rfl
theorem tw10253731113156231323:0=0:=rfl
theorem tw661094421255965051:0=0:=rfl
theorem tw6836045552377195963:0=0:=rfl
theorem tw5758607927220017627:0=0:=rfl
theorem tw7785790931533293051:0=0:=rfl
theorem tw6495579404389719611:0=0:=rfl
theorem tw16449316921331772091:0=0:=rfl
theorem tw5371593181266514683:0=0:=rfl
theorem tw13716406895441268828:0=0:=rfl
theorem tw7916920049886349436:0=0:=rfl
theorem tw15051168609152666780:0=0:=rfl
theorem tw13252473726476484860:0=0:=rfl
theorem tw16209361235345048828:0=0:=rfl
theorem tw4390979473138108700:0=0:=rfl
theorem tw2667092315919947100:0=0:=rfl
theorem tw16584702639170254268:0=0:=rfl
theorem tw9417581489321895676:0=0:=rfl
theorem tw11211483576905004956:0=0:=rfl
theorem tw13715144391418265693:0=0:=rfl
theorem tw9155916801886011581:0=0:=rfl
theorem tw14427150791065345405:0=0:=rfl
theorem tw8152255312512434589:0=0:=rfl
theorem tw18120054667359015773:0=0:=rfl
theorem tw2682117364810427229:0=0:=rfl
theorem tw14019561841691757662:0=0:=rfl
theorem tw16619890337043139774:0=0:=rfl
theorem tw14124011931235148030:0=0:=rfl
theorem tw2008760537514138878:0=0:=rfl
theorem tw5830520453245760798:0=0:=rfl
theorem tw16118295869948890814:0=0:=rfl
theorem tw11427550258453468894:0=0:=rfl
theorem tw985113025412260830:0=0:=rfl
theorem tw14169233157130535934:0=0:=rfl
theorem tw7551923632171220159:0=0:=rfl
theorem tw443834402839538975:0=0:=rfl
theorem tw17774659099781195103:0=0:=rfl
theorem tw1183475913300633055:0=0:=rfl
theorem tw11064651591437902399:0=0:=rfl
theorem tw2976732907763707583:0=0:=rfl
theorem tw2955836566813707039:0=0:=rfl
theorem tw4289626633897444191:0=0:=rfl
theorem tw14398148129670723519:0=0:=rfl
theorem tw163438495910953951:0=0:=rfl
end PySem.W.Fast
open PySem PySem.W PyProof.Rows
set_option hygiene false in
local macro_rules | `(tactic| walk_at "kF")=> `(tactic| (refine' K61.KF.mk ?a (L2.fun_mk ?l ?c ?k);(case a=>k_is);(case l=>k_is);(case c=>k_is);(case k=>k_is)))
set_option maxRecDepth 100000 in
set_option maxHeartbeats 0 in
theorem PySem.Challenge.cw_newsways_k61_known_at_rest_holds : PySem.Challenge.rw_newsways_k61_known_at_rest.Holds := by
 w_on;o_law;k_head;(case hw=>w_witness2)
 k_fill
 refine K61.walk (l:=PySem.Challenge.rw_newsways_k61_known_at_rest) rfl rfl (λw h Y=>PySem.W.kIn_of Y) ?F
 case F=>
  intro w mg fa h KX G hmg;refine' K61.all_mk KX G hmg ?h1 ?h2 ?h3 ?h4 ?h5 ?h6 ?h7 ?h8 ?h9 ?h10 ?h11 ?h12 ?h13 ?h14 ?h15 ?h16 ?h17 ?h18 ?h19 ?h20 ?h21 ?h22 ?h23 ?h24 ?h25 ?h26 ?h27 ?h28 ?h29 ?h30 ?h31 ?h32 ?h33 ?h34 ?h35 ?h36 ?h37 ?h38 ?h39 ?h40 ?h41 ?h42 ?h43 ?h44 ?h45 ?h46 ?h47 ?h48 ?h49 ?h50 ?h51 ?h52 ?h53 ?h54 ?h55 ?eML' ?eMR' ?eMH' ?eMW'  ?z_len ?z_range ?z_isinstance ?z_int ?z_bool ?z_tuple ?z_list ?z_max ?z_min ?z_all ?z_zip ?z_str ?z_dict ?z_sorted ?z_set ?z_any ?z_sum ?z_enumerate ?z_repr ?z_ord ?z_chr ?z_abs ?z_reversed
  (case h1=>walk_at "kF");(case h2=>walk_at "kF");(case h3=>walk_at "kF");(case h4=>walk_at "kF");(case h5=>walk_at "kF");(case h6=>walk_at "kF");(case h7=>walk_at "kF");(case h8=>walk_at "kF");(case h9=>walk_at "kF");(case h10=>walk_at "kF");(case h11=>walk_at "kF");(case h12=>walk_at "kF");(case h13=>walk_at "kF");(case h14=>walk_at "kF");(case h15=>walk_at "kF");(case h16=>walk_at "kF");(case h17=>walk_at "kF");(case h18=>walk_at "kF");(case h19=>walk_at "kF");(case h20=>walk_at "kF");(case h21=>walk_at "kF");(case h22=>walk_at "kF");(case h23=>walk_at "kF");(case h24=>walk_at "kF");(case h25=>walk_at "kF");(case h26=>walk_at "kF");(case h27=>walk_at "kF");(case h28=>walk_at "kF");(case h29=>walk_at "kF");(case h30=>walk_at "kF");(case h31=>walk_at "kF");(case h32=>walk_at "kF");(case h33=>walk_at "kF");(case h34=>walk_at "kF");(case h35=>walk_at "kF");(case h36=>walk_at "kF");(case h37=>walk_at "kF");(case h38=>walk_at "kF");(case h39=>walk_at "kF");(case h40=>walk_at "kF");(case h41=>walk_at "kF");(case h42=>walk_at "kF");(case h43=>walk_at "kF");(case h44=>walk_at "kF");(case h45=>walk_at "kF");(case h46=>walk_at "kF");(case h47=>walk_at "kF");(case h48=>walk_at "kF");(case h49=>walk_at "kF");(case h50=>walk_at "kF");(case h51=>walk_at "kF");(case h52=>walk_at "kF");(case h53=>walk_at "kF");(case h54=>walk_at "kF");(case h55=>walk_at "kF")
  (case eML'=>k_is);(case eMR'=>k_is);(case eMH'=>k_is);(case eMW'=>k_is)
  (case z_len=>k_is);(case z_range=>k_is);(case z_isinstance=>k_is);(case z_int=>k_is);(case z_bool=>k_is);(case z_tuple=>k_is);(case z_list=>k_is);(case z_max=>k_is);(case z_min=>k_is);(case z_all=>k_is);(case z_zip=>k_is);(case z_str=>k_is);(case z_dict=>k_is);(case z_sorted=>k_is);(case z_set=>k_is);(case z_any=>k_is);(case z_sum=>k_is);(case z_enumerate=>k_is);(case z_repr=>k_is);(case z_ord=>k_is);(case z_chr=>k_is);(case z_abs=>k_is);(case z_reversed=>k_is)
