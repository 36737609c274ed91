import PyProof.Rows.All
import Wide.All
import OpenK.AllK
import Wide.FinOn
import Lean
import PyProof.EqAt
import PyProof.EqKinds
import PyProof.TupleCall
import PyProof.NeKinds
import KE.IntBitsLaws
import PyProof.StrWalks
import PyProof.FString5
import PyProof.ConsumeWalk
import PyProof.DictCompW
import PyProof.ZipIter
import PyProof.EnumMake
import PyProof.Rows.SetFrom
import KE.KRevSl
import PyProof.FitsBits
import PyProof.Rows.SortStr
import PyProof.StrBlockL
import PyProof.JoinWalk
import PyProof.AttrMissHeap
import PyProof.ListNew
import PyProof.DictUpdate
import PyProof.DictWalks
import KE.KSortTup
import PyProof.Rows.StrMeet
import KE.KSortKey
import PyProof.ListRange
import PyProof.SumAny
import PyProof.WalkInts
import PyProof.StationsW
import PyProof.RulesAs
import OpenK.KRaise
import PyProof.ExcInit
import PyProof.ExcBaseAll.ValueError
import PyProof.PassesOwn
import PyProof.NsDelKeeps
import PyProof.Rows.Catch
import PyProof.FString
import PyProof.Rows.FStr
import PyProof.ExcArgs
import PyProof.ExcAttrAll.ValueError
import PyProof.Rows.SortWalk
import PyProof.ReprRoads
import PyProof.ReprText
import PyProof.CallFns
import KE.KEqDict
import PyProof.AutoListH
import PyProof.SliceStr2
import PyProof.StrOps2
import PyProof.Rows.StrMadeLen
import PyProof.StrLawsIn
import PyProof.TupleKey
import PyProof.DictRoadsH
import PyProof.SetScanFacts
import OpenK.KTop
import PySem.Challenge.RW_newsways_k63_who_is_given
open Array renaming length_toList → Aj, getElem?_toList → AI, getElem?_eq_getElem → AY, getElem?_eq_some_iff → BL, forIn_toList → Ck, getD_eq_getD_getElem? → Cz, mem_toList_iff → Da, toList_push → D3, getElem?_eq_none → DA, size_append → E7, size_map → Fy
open Bool renaming false_ne_true → An, false_eq_true → A3, and_eq_true → AV, not_true → BJ, eq_iff_iff → BO, and_false → CU, not_eq_true' → D2, true_and → E1, not_eq_true → EO
open Classical renaming byContradiction → EH
open False renaming elim → C4
open Int renaming toNat_natCast → Ba, emod_lt_of_pos → Bw, emod_nonneg → BR, mul_le_mul → Fz
open List renaming length_map → Ab, getElem?_map → Ah, size_toArray → Ak, getElem?_eq_some_iff → Am, mem_cons_of_mem → Ao, mem_of_getElem? → Aq, mem_cons_self → Ar, map_append → Au, map_cons → Av, mem_singleton → Aw, mem_cons → Ax, length_cons → A5, mem_append_right → A6, replicate → AA, getElem?_eq_getElem → AB, length_take → AC, not_mem_nil → AD, length_append → AG, mem_append → AM, mem_map → AU, range → AX, take_of_length_le → AZ, length_replicate → Bk, mem_map_of_mem → Bm, take_length → Bt, Nodup → Bx, replicate_succ' → By, map_map → BK, pairwise_iff_getElem → BP, lookup_cons → BV, take_succ → BY, length_range → Ca, map_replicate → Cm, any_cons → Cq, filter_cons_of_pos → Cr, filter_cons_of_neg → Cs, all_cons → C2, getElem?_of_mem → C7, length → C8, toList_toArray → CF, length_eq_zero_iff → CH, mem_filterMap → CI, append_nil → CK, find?_cons → CL, length_filter_le → CV, getElem?_eq_none → CY, length_drop → Db, length_eraseIdx → De, filterMap_cons → Dh, drop_eq_getElem_cons → Dm, any_map → Du, getElem?_cons_succ → Dw, take_sublist → Dz, append_assoc → D0, range_succ_eq_map → D8, getElem_map → DE, mem_append_left → DI, nodup_cons → DJ, map_nil → DL, foldl_cons → DN, length_reverse → DV, mem_range → DZ, drop_zero → Eb, filter_append → Eh, map_filterMap → Ei, getElem?_drop → Em, getElem?_append_right → Eo, getD_eq_getElem?_getD → Es, nodup_iff_pairwise_ne → Ez, map_take → E2, nodup_append → EA, getElem?_append_left → ED, of_mem_zip → EY, forIn_cons → Fa, getElem?_set_self → Fc, drop_eq_nil_of_le → Fj, length_pos_of_mem → Fm, length_singleton → Fp, forIn_nil → Fs, nodup_nil → Fu, getElem?_toArray → Fx, getElem?_set_ne → F0, mem_of_mem_drop → FC, mem_iff_getElem → FD, getElem?_range → FJ, length_pos_iff → FM, find?_eq_none → FN
open List.Perm renaming refl → C_, of_eq → Fb
open List.Sublist renaming refl → EB
open List.cons renaming injEq → DO
open Nat renaming le_refl → Ae, ne_of_lt → Al, lt_of_lt_of_le → Ay, le_trans → AF, le_of_lt → Bd, zero_le → Br, lt_succ_self → BH, lt_trans → BU, ne_of_gt → Cc, lt_of_le_of_lt → Cj, lt_irrefl → Cp, le_add_right → Ct, le_succ → C9, mod_lt → CM, lt_succ_of_lt → CS, add_le_add_left → FI
open Ne renaming symm → Ch
open Option renaming map_some → DK, isSome_iff_exists → EI, getD_none → EJ, some_ne_none → FK
open Option.some renaming inj → A7
open PyProof.Rows renaming callWith_type1 → Bh, slot_tuple_getitem → Bu, callWith_builtin1 → Co, subscriptTail_builtinR → Fe
open PyProof.Rows.F renaming plain_set_update_loop → Bj, entry_set_update_loop → BW
open PySem renaming wpAny_bind → Aa, wpAny_pure → Ac, sizeLine → As, starEach → Az, mainGlobals → A0, SetTable → A8, wpAny_mono → A9, wpAny_holding → AE, bootBuiltins → AQ, wpAny_call_entry → AR, wpAny_loadPart' → AS, wpAny_seqItems → AT, wpAny_setState_of → AW, codeAny_builtin → A_, Program → Bb, wpAny_truthy_bool → Be, wpAny_newObj_type → Bf, wpAny_Call_Name_kw → Bi, wpAny_callSpecial?_slot → Bo, compareOp → Bq, wpAny_field → Bs, FuncData → Bv, wpAny_forIn_list → BA, Around → BB, wpAny_specialOf → BF, cellsFrom → BG, plainId_quiet → BI, wpAny_setField → BM, wpAny_rule → BX, wpAny_richCompare_same_room → Cb, codeAny_mono → Cd, wpAny_typeOf → Ce, wpAny_standAt → Cf, sysModules → Cn, wpAny_isInstance → Cu, wpAny_setField_rec → Cy, letOwnedTupleGo → C1, wpAny_comprehension_free → CC, mem_of_lookup → CD, wpAny_pyIter_list → CO, foldedSetIterable → CP, wpAny_askSetting → Dc, codeAny_call_builtin → Dd, wpAny_callSpecialIfBoundUnlessNone?_slot → Df, wpAny_passesOwn → Di, codeAny_of_tree → Dl, wpAny_pyIter_tuple → Dq, scanBound → Dt, wpAny_storeSet_of → D4, wpAny_dictEntries → D6, wpAny_updateSeq_pair → DM, wpAny_setEntries_of → DW, wpAny_of_eq → Ec, compStart → Eg, wpAny_tupleItemsOf → El, wpAny_onRaise → Et, wpAny_attempt → Eu, wpAny_assign_Name → E4, wpAny_sequenceKey → E5, slot_list_getitem → E6, wpAny_call → EC, wpAny_getItem_list_slice → EK, entryFor_of_tree → EN, wpAny_pyNext_tuple_item → EQ, wpAny_execs_nil → EX, wpAny_updateSeq → EZ, wpAny_pyNext_tuple_end → Fd, wpAny_letGo → Ff, wpAny_listPart → Fq, wpAny_runValue → Fv
open PySem.Around renaming under_plainId → AO, in1_units → Bn
open PySem.AutoSeq1 renaming sub_list_list → Fk
open PySem.Builtin.Dict renaming dictSlotArgs → EG, updateFrom → EV, samePairs → Fl
open PySem.Builtin.Frozenset renaming updateFrom → Ea
open PySem.Builtin.Int renaming intBits → DU
open PySem.Builtin.List renaming listSameRef → CB, listSubscript? → Ed, listLengthHint → Ej, listExtendWith → Ek, listAllItems → EF, listTooLong → EL
open PySem.Builtin.Range renaming rangeSize → ER
open PySem.Builtin.Slice renaming slicePlaces → C5, sliceAdjust → Dj, sliceApplied → Ep
open PySem.Builtin.SmallTypes renaming nextOf → Bp, ownedTupleIsFree → BZ, ownedTupleHandOut → Ds
open PySem.Builtin.Str renaming strSliceIndices → AH
open PySem.Builtin.Tuple renaming tupleExact → CA, tupleCompareSizes → CG, tupleItemsOf → Dg, tupleHashOf → Dn
open PySem.Calls renaming spliced_cons → CJ, spliced_nil → CQ, Name_function_global → En
open PySem.F renaming called_set → AL, plainAttrs_list → Bc, slot_list_append → BC, type_list_append → BD, slot_tuple_hash → B_, slot_tuple_iterator_next → Cg, slot_NoneType_hash → C3, slot_zip_next → CW, slot_tuple_eq → CZ, args_tuple_add_2 → Dr, entry_tuple_add → Dv, args_tuple_iterator_next_1 → D1, slot_tuple_add → D7, entry_tuple_iterator_next → D9, slot_list_pop → DG, type_list_pop → DH, sub_list_frozenset → Ex, args_zip_next_1 → ES, entry_type_call → ET, plain_list_iadd → EU, entry_zip_next → Fg, typeCall_set_1 → Fh, entry_set_init → Fi, plain_set_new → Ft, slot_set_iter → Fw, sub_list_set → F9, slot_dict_eq → FB
open PySem.Heap renaming get?_push_of_some → Ad, lt_size → Ag, get?_push_size → Ai, size_push → AJ, SameBut → BS, get?_update_self → Ci, get?_update_other → CN
open PySem.Heap.IsTuple renaming push → E9
open PySem.Heap.SameBut renaming update → AN
open PySem.Obj renaming mapSeq → C6, mapFields → DD
open PySem.PassesOwn renaming never → Bz
open PySem.SeqAt renaming EqAt → EE
open PySem.SeqAt.EqAt renaming same → Dk, int_str → Do, str_int → Dp, none_int → DQ, none_str → DR, int_none → DS, str_none → DT, none_bool → F6, bool_none → F7, bool_bool → F8, bool_int → FE, bool_str → FF, int_bool → FG, str_bool → FH
open PySem.SeqAt.RcAt renaming tuples → E8, lists_lengths → EM
open PySem.SeqAt.RcNeAt renaming lists_lengths → Er
open PySem.SetTable renaming below → AK, grown → BN, insertAt_perm → DB, advance → DF, fits → Ey, sameMemory → FL
open PySem.SetTable.below renaming go → D5
open PySem.Shared renaming TypeIs → Ew
open PySem.Str renaming ofString → Cw
open PySem.Value renaming isStrOf → DC, isStrOf_shape → DP
open PySem.W renaming Frag → Af, kia_one → BE, kia_tup → BQ, cellsFrom_some → Cv, fnOf → CT, kitx_list → Dx, kitx_dict → Dy, keepIn → D_, methodObj → E3, instObj → EW, OpenLaw → E_, lookIn → Fn, codeIn → Fo
open PySem.W.KFB renaming if_not → Ef
variable{s:PySem.Shared}{w:PySem.World}{A:PySem.Around}{E:PySem.Value→PySem.Shared→Prop}{K:Af}{pins:List (PySem.Addr×PySem.Obj)}{prog:PySem.Program}{pos:PySem.Pos}{h:PySem.Heap}{a:PySem.Addr}{b:PySem.Addr}{i:Nat}{n:Nat}{us:List PySem.Value}{P:PySem.Program}{u:PySem.Value}{e:PySem.Expr}{scope:PySem.Scope}
open PySem PySem.Spec PyProof.Rows
set_option Elab.async false
set_option linter.all false
set_option maxRecDepth 100000
namespace L2
abbrev Hs:=Sum Int Str
def KH:Hs→Value→Bool
 | .inl k,v=>Value.isInt k v
 | .inr x,v=>DC x v
def OK(w:World):Hs→Int
 | .inl k=>hashInt k
 | .inr x=>hashStr w x
theorem JI:∀{k:Hs}{v:Value},KH k v=true→(∃i t,k=Sum.inl i∧v=Value.int i t)∨(∃x t,k=Sum.inr x∧v=Value.str x t)
 | .inl i,v,h=>by obtain⟨t,e⟩:=Value.isInt_shape (k:=i) (v:=v) h;exact .inl ⟨i,t,rfl,e⟩
 | .inr x,v,h=>by obtain⟨t,e⟩:=DP (x:=x) (v:=v) h;exact .inr ⟨x,t,rfl,e⟩
theorem Ru(i:Int)(t:Tok):KH (.inl i) (.int i t)=true:=by simp[KH,Value.isInt]
theorem QX(x:Str)(t:Tok):KH (.inr x) (.str x t)=true:=by simp[KH,DC]
theorem Tq(a b:Int):decide ((Sum.inl a:Hs)=Sum.inl b)=(a==b):=by
 by_cases e:a=b
 · subst e;simp
 · have h:¬(Sum.inl a:Hs)=Sum.inl b:=λq=>e (Sum.inl.inj q);rw[decide_eq_false h];exact(beq_eq_false_iff_ne.mpr e).symm
theorem Tu(a b:Str):decide ((Sum.inr a:Hs)=Sum.inr b)=decide (a=b):=by
 by_cases e:a=b
 · subst e;simp
 · have h:¬(Sum.inr a:Hs)=Sum.inr b:=λq=>e (Sum.inr.inj q);rw[decide_eq_false h,decide_eq_false e]
theorem Tr(a:Int)(b:Str):decide ((Sum.inl a:Hs)=Sum.inr b)=false:=decide_eq_false (λq=>nomatch q)
theorem Ts(a:Str)(b:Int):decide ((Sum.inr a:Hs)=Sum.inl b)=false:=decide_eq_false (λq=>nomatch q)
def IP(prog:Bb)(w:World):PySem.KeyKind prog w Hs where
 is:=KH
 hash:=OK w
 inj:=λv a b ha hb=>by
  rcases JI ha with⟨i,t,rfl,rfl⟩ | ⟨x,t,rfl,rfl⟩
  · rcases JI hb with⟨j,u,rfl,e⟩ | ⟨y,u,rfl,e⟩
    · injection e with e1 _;rw[e1]
    · exact nomatch e
  · rcases JI hb with⟨j,u,rfl,e⟩ | ⟨y,u,rfl,e⟩
    · exact nomatch e
    · injection e with e1 _;rw[e1]
 byValue:=λk v h=>by rcases JI h with⟨i,t,rfl,rfl⟩ | ⟨x,t,rfl,rfl⟩<;>rfl
 pyHash:=λhv h=>by
  rcases JI hv with⟨i,t,rfl,rfl⟩ | ⟨x,t,rfl,rfl⟩
  · exact wpAny_pyHash_int h
  · exact wpAny_pyHash_str h
 eqBool:=λhu hv h=>by
  rcases JI hu with⟨i,t,rfl,rfl⟩ | ⟨x,t,rfl,rfl⟩
  · rcases JI hv with⟨j,u,rfl,rfl⟩ | ⟨y,u,rfl,rfl⟩
    · rw[Tq] at h;exact wpAny_eqBool_int h
    · rw[Tr] at h;exact Do i t y u _ _ _ _ h
  · rcases JI hv with⟨j,u,rfl,rfl⟩ | ⟨y,u,rfl,rfl⟩
    · rw[Ts] at h;exact Dp x t j u _ _ _ _ h
    · rw[Tu] at h;exact wpAny_eqBool_str h
 «strs»:=λk x t v h=>by
  rcases JI h with⟨i,u,rfl,e⟩ | ⟨y,u,rfl,e⟩
  · exact nomatch e
  · injection e with e1 _
    subst e1;cases v<;>rfl
theorem Ww(prog:Bb)(w:World)(i:Int)(t:Tok):(IP prog w).is (.inl i) (.int i t)=true:=Ru i t
theorem Wx(prog:Bb)(w:World)(x:Str)(t:Tok):(IP prog w).is (.inr x) (.str x t)=true:=QX x t
inductive V where
 | non | bl (b:Bool) | int (i:Int) | str (x:Str) | byt (b:Array UInt8) | flt (b:UInt64) | ref (a:Addr) | ty (n:String)
 deriving DecidableEq
def RelV:V→Value→Prop
 | .non,u=>u=Value.none
 | .bl b,u=>u=Value.bool b
 | .int i,u=>∃t,u=Value.int i t
 | .str x,u=>∃t,u=Value.str x t
 | .byt b,u=>∃t,u=Value.bytes b t
 | .flt b,u=>∃t,u=Value.float b t
 | .ref a,u=>u=Value.ref a
 | .ty n,u=>u=Value.type n
abbrev Vals:List V→List Value→Prop:=Paired RelV
theorem Vals.length{xs:List V}(r:Vals xs us):xs.length=us.length:=Paired.length r
theorem Vals.get:∀{xs:List V}{us:List Value}{i:Nat}{x:V},Vals xs us→xs[i]?=some x→∃u,us[i]?=some u∧RelV x u
 | _,_,_,_,.nil,e=>by simp at e
 | _,_,0,_,.cons r _,e=>by simp at e;subst e;exact⟨_,rfl,r⟩
 | _,_,i+1,x,.cons _ t,e=>by obtain⟨u,h1,h2⟩:=Vals.get (i:=i) (x:=x) t (by simpa using e);exact⟨u,by simpa using h1,h2⟩
theorem Vals.set{x:V}(r:RelV x u):∀{xs:List V}{us:List Value}(i:Nat),Vals xs us→Vals (xs.set i x) (us.set i u)
 | _,_,_,.nil=> .nil
 | _,_,0,.cons _ t=> .cons r t
 | _,_,i+1,.cons q t=> .cons q (Vals.set r i t)
theorem Vals.append:∀{xs ys:List V}{us ws:List Value},Vals xs us→Vals ys ws→Vals (xs++ys) (us++ws)
 | _,_,_,_,.nil,s=>s
 | _,_,_,_,.cons r t,s=> .cons r (Vals.append t s)
theorem Vals.take:∀{xs:List V}{us:List Value}(n:Nat),Vals xs us→Vals (xs.take n) (us.take n)
 | _,_,0,_=> .nil
 | _,_,_+1,.nil=> .nil
 | _,_,n+1,.cons r t=> .cons r (Vals.take n t)
theorem Vals.drop:∀{xs:List V}{us:List Value}(n:Nat),Vals xs us→Vals (xs.drop n) (us.drop n)
 | _,_,0,r=>r
 | _,_,_+1,.nil=> .nil
 | _,_,n+1,.cons _ t=>Vals.drop n t
def RelO:Option V→Option Value→Prop
 | some v,some u=>RelV v u
 | none,none=>True
 | _,_=>False
def KV{κ:Type}:List (κ×V)→List (κ×Value)→Prop:=Paired λ(p:κ×V)(q:κ×Value)=>p.1=q.1∧RelV p.2 q.2
def kV:Hs→V
 | .inl i=> .int i
 | .inr x=> .str x
inductive HO where
 | lst (xs:List V)
 | tup (xs:List V)
 | dK (kvs:List (Hs×V)) | dT (kvs:List (List Hs×V))
 | set (S:Int→Bool) (n:Nat)
 | ins (C dx:Addr) (fs:List (Str×V))
 | own (x:Addr)
 | xd (fs:List (Str×V))
 | met (f x:Addr)
 | rng (lo hi:Int)
 | frz (o:Obj) (u:HO)
 | tbl (ps:Array Value)
 | ext (φ:Heap→Prop)
def IsTupP(h:Heap)(a:Addr)(items:Array Value):Prop:=∃o,h.get? a=some o∧o.cls= .type "tuple"∧o.dict=none∧∃n,o.data= .seq items n
theorem IsTupP.tup{items:Array Value}(x:IsTupP h a items):IsTup h a items:=let⟨o,h1,h2,_,h3⟩:=x;⟨o,h1,h2,h3⟩
theorem IsTupP.new(h:Heap)(items:Array Value):IsTupP (h.push {cls:= .type "tuple",data:= .seq items}) h.objs.size items:=⟨_,Ai _ rfl,rfl,rfl,_,rfl⟩
abbrev Hp:=Addr→Option HO
def GY(H:Hp)(a:Addr)(o:HO):Hp:=λb=>if b=a then some o else H b
theorem Hb{H:Hp}{o:HO}:GY H a o a=some o:=by unfold GY;rw[if_pos rfl]
theorem Hm{H:Hp}{o:HO}(h:b≠a):GY H a o b=H b:=by unfold GY;rw[if_neg h]
theorem TR{H:Hp}{o u:HO}:GY (GY H a o) a u=GY H a u:=by funext b;unfold GY;split<;>rfl
theorem ME{H:Hp}{o u:HO}(h:H a=some o)(h':H b=some u)(d:o≠u):a≠b:=by intro e;subst e;rw[h] at h';exact d (A7 h')
theorem IA{H:Hp}{o:HO}(h:H a=some o)(h':H b=none):a≠b:=by intro e;subst e;rw[h] at h';cases h'
section
variable(P:Bb)(w:World)
def ObjOk(H:Hp)(h:Heap)(a:Addr):HO→Prop
 | .lst xs=>xs.length≤As∧∃(its:List Value)(n:Nat),Vals xs its∧h.get? a=some {cls:= .type "list",data:= .seq its.toArray n}
 | .tup xs=>xs.length≤As∧∃its:List Value,Vals xs its∧IsTupP h a its.toArray
 | .dK kvs=>kvs.length≤As∧(a==Cn)=false∧∃vs,KV kvs vs∧h.DictOf (IP P w) a vs
 | .dT kvs=>kvs.length≤As∧(a==Cn)=false∧∃xs:List (List Hs×Addr×Value),
  Paired (λ(p:List Hs×V)(q:List Hs×Addr×Value)=>p.1=q.1∧H q.2.1=some (.tup (p.1.map kV))∧RelV p.2 q.2.2) kvs xs∧
  ∃o es ep,h.get? a=some o∧o.ExactDict∧o.data= .dict es ep∧es.toList=xs.map (entryOfKey (tupleKind (IP P w)))∧(xs.map (·.1)).Nodup
 | .set S n=>h.SetOf (intKind P w) a S n
 | .ins C dx fs=>H dx=some (.own a)∧fs.length≤1000∧dx≠a∧h.get? a=some (EW C dx)∧
  ∃mA,h.Ns1 dx mA∧(∀f,RelO (fs.lookup f) (mA f))∧PySem.Within mA (fs.map (·.1))
 | .own _=>∃o,h.get? a=some o
 | .xd fs=>∃mA,h.Ns1 a mA∧∀f,RelO (fs.lookup f) (mA f)
 | .rng lo hi=>∃t u v,h.get? a=some {cls:= .type "range",data:= .fields #[.int lo t,.int hi u,.int 1 v]}
 | .frz o u=>h.get? a=some o∧ObjOk H h a u
 | .tbl ps=>h.get? a=some {cls:= .none,data:= .fields ps}
 | .met f x=>h.get? a=some (E3 (.ref f) (.ref x))
 | .ext φ=>φ h∧(∃o,h.get? a=some o)∧∀h1 h2:Heap,φ h1→(∀o,h1.get? a=some o→h2.get? a=some o)→φ h2
def HOk(H:Hp)(h:Heap):Prop:=∀a o,H a=some o→ObjOk P w H h a o
end
section
variable{H H':Hp}{h':Heap}{o:HO}
theorem ObjOk.lt(x:ObjOk P w H h a o):a<h.objs.size:=by
 cases o with
 | lst xs=>obtain⟨_,_,_,_,e⟩:=x;exact Ag e
 | tup xs=>obtain⟨_,_,_,p⟩:=x;exact(show IsTupP _ _ _ from p).tup.lt
 | dK kvs=>obtain⟨_,_,_,_,o,_,_,e,_⟩:=x;exact Ag e
 | dT kvs=>obtain⟨_,_,_,_,o,_,_,e,_⟩:=x;exact Ag e
 | set S n=>obtain⟨o,_,_,_,e,_⟩:=x;exact Ag e
 | ins C dx fs=>obtain⟨_,_,_,e,_⟩:=x;exact Ag e
 | own y=>obtain⟨_,e⟩:=x;exact Ag e
 | xd fs=>obtain⟨_,⟨_,_,_,e,_⟩,_⟩:=x;exact Ag e
 | rng lo hi=>obtain⟨_,_,_,e⟩:=x;exact Ag e
 | frz ob u=>obtain⟨e,_⟩:=x;exact Ag e
 | tbl ps=>exact Ag (show h.get? a=some _ from x)
 | met f y=>exact Ag (show h.get? a=some _ from x)
 | ext φ=>obtain⟨_,⟨_,e⟩,_⟩:=x;exact Ag e
theorem Paired.mapP{α β:Type}{F G:α→β→Prop}:∀{l₁:List α}{l₂:List β},Paired F l₁ l₂→(∀a b,F a b→G a b)→Paired G l₁ l₂
 | _,_,.nil,_=> .nil
 | _,_,.cons r t,f=> .cons (f _ _ r) (Paired.mapP t f)
theorem ObjOk.stay(x:ObjOk P w H h a o)(k:∀b u,(b=a∨H b=some (.own a))→h.get? b=some u→h'.get? b=some u)
 (ho:∀b,H b=some (.own a)→H' b=some (.own a)) (ht:∀b xs,H b=some (.tup xs)→H' b=some (.tup xs)):ObjOk P w H' h' a o:=by
 induction o with
 | lst xs=>obtain⟨z,its,n,r,e⟩:=x;exact⟨z,its,n,r,k _ _ (.inl rfl) e⟩
 | tup xs=>obtain⟨z,its,r,ob,e,c⟩:=x;exact⟨z,its,r,ob,k _ _ (.inl rfl) e,c⟩
 | dK kvs=>obtain⟨z,y,vs,r,ob,es,ep,e,c⟩:=x;exact⟨z,y,vs,r,ob,es,ep,k _ _ (.inl rfl) e,c⟩
 | dT kvs=> obtain⟨z,y,xs,r,ob,es,ep,e,c⟩:=x;exact⟨z,y,xs,Paired.mapP r λp q z=>⟨z.1,ht _ _ z.2.1,z.2.2⟩,ob,es,ep,k _ _ (.inl rfl) e,c⟩
 | set S n=>obtain⟨ob,es,ep,t,e,c⟩:=x;exact⟨ob,es,ep,t,k _ _ (.inl rfl) e,c⟩
 | ins C dx fs=> obtain⟨d,z,ne,e,mA,⟨od,es,ep,e2,c⟩,r⟩:=x;exact⟨ho _ d,z,ne,k _ _ (.inl rfl) e,mA,⟨od,es,ep,k _ _ (.inr d) e2,c⟩,r⟩
 | own y=>obtain⟨ob,e⟩:=x;exact⟨ob,k _ _ (.inl rfl) e⟩
 | xd fs=>obtain⟨mA,⟨od,es,ep,e,c⟩,r⟩:=x;exact⟨mA,⟨od,es,ep,k _ _ (.inl rfl) e,c⟩,r⟩
 | rng lo hi=>obtain⟨t,u,v,e⟩:=x;exact⟨t,u,v,k _ _ (.inl rfl) e⟩
 | frz ob u ih=>obtain⟨e,q⟩:=x;exact⟨k _ _ (.inl rfl) e,ih q⟩
 | tbl ps=> have e:h.get? a=some {cls:= .none,data:= .fields ps}:=x;show h'.get? a=some {cls:= .none,data:= .fields ps};exact k a _ (.inl rfl) e
 | met f y=> have e:h.get? a=some (E3 (.ref f) (.ref y)):=x;show h'.get? a=some (E3 (.ref f) (.ref y));exact k a _ (.inl rfl) e
 | ext φ=>obtain⟨p,⟨o,e⟩,st⟩:=x;exact⟨st _ _ p λo q=>k _ _ (.inl rfl) q,⟨o,k _ _ (.inl rfl) e⟩,st⟩
theorem HOk.lt(x:HOk P w H h)(e:H a=some o):a<h.objs.size:=(x a o e).lt
theorem HOk.fresh(x:HOk P w H h)(e:h.objs.size≤a):H a=none:=by
 cases q:H a with
 | none=>rfl
 | some u=>exact absurd (Ay (x.lt q) e) (Cp _)
theorem HOk.kept(x:HOk P w H h)(k:∀b u,h.get? b=some u→h'.get? b=some u):HOk P w H h':=λa o e=>
 (x a o e).stay (λb u _ q=>k b u q) (λ_ q=>q) λ_ _ q=>q
theorem HOk.laid(x:HOk P w H h)(k:∀b u,h.get? b=some u→h'.get? b=some u)(hp:h.objs.size≤a)(new:ObjOk P w (GY H a o) h' a o):HOk P w (GY H a o) h':=λb u e=>by
 have hn:=x.fresh hp;by_cases hb:b=a
 · subst hb;rw[Hb] at e;cases e;exact new
 · rw[Hm hb] at e;exact(x b u e).stay (λc v _ q=>k c v q) (λc q=>by rw[Hm (IA q hn)];exact q) λc xs q=>by rw[Hm (IA q hn)];exact q
end
def Rd(H:Hp)(a:Addr)(u:HO):Prop:=H a=some u∨∃o,H a=some (.frz o u)
theorem Rd.ok{H:Hp}{u:HO}(r:Rd H a u)(x:HOk P w H h):ObjOk P w H h a u:=by
 rcases r with r | ⟨o,r⟩
 · exact x a u r
 · obtain⟨_,q⟩:=x a _ r;exact q
def LL:Option HO→Prop
 | some (.lst _)=>True
 | some (.dK _)=>True
 | some (.dT _)=>True
 | some (.set _ _)=>True
 | some (.ins _ _ _)=>True
 | some (.ext _)=>True
 | _=>False
section
variable{H:Hp}{h':Heap}{x e:Addr}{o':HO}
theorem HOk.write(ok:HOk P w H h)(mu:LL (H x))(he:e=x∨H e=some (.own x))(k:∀b u,b≠e→h.get? b=some u→h'.get? b=some u)(heo:∃u,h'.get? e=some u)
 (new:ObjOk P w (GY H x o') h' x o'):HOk P w (GY H x o') h':=λb u q=>by
 have nown:∀c y,H c=some (.own y)→c≠x:=λc y r z=>by subst z;rw[r] at mu;exact mu
 have ntup:∀c xs,H c=some (.tup xs)→c≠x:=λc xs r z=>by subst z;rw[r] at mu;exact mu
 by_cases hb:b=x
 · subst hb;rw[Hb] at q;cases q;exact new
 · rw[Hm hb] at q;by_cases hbe:b=e
   · have q':H b=some (.own x):=by
      rcases he with z | z
      · exact absurd (hbe.trans z) hb
      · rw[hbe];exact z
     rw[q] at q';cases q';obtain⟨v,hv⟩:=heo;exact⟨v,by rw[hbe];exact hv⟩
   · refine(ok b u q).stay (λc v hc r=>k c v ?_ r) (λc r=>by rw[Hm (nown c b r)];exact r) λc xs r=>by rw[Hm (ntup c xs r)];exact r
     rcases hc with rfl | hc
     · exact hbe
     · rintro rfl;rcases he with z | z
       · exact nown c b hc z
       · rw[hc] at z;cases z;exact hb rfl
end
structure Un(fs ex:List Addr)(H H':Hp)(h h':Heap):Prop where
 keep:∀b o,h.get? b=some o→H b=none→b ∉ fs→b ∉ ex→h'.get? b=some o
 slot:∀b o,h.get? b=some o→H b=none→b∈fs→b ∉ ex→∃sl,h'.get? b=some {o with slots:=sl}
 free:∀b o,h.get? b=some o→H b=none→b ∉ ex→H' b=none
 there:∀b o,h.get? b=some o→b ∉ ex→∃o',h'.get? b=some o'
 tups:∀b xs,H b=some (.tup xs)→H' b=some (.tup xs)
 frzs:∀b o u,H b=some (.frz o u)→H' b=some (.frz o u)
 tbls:∀b ps,H b=some (.tbl ps)→∃more,H' b=some (.tbl (ps++more))
section
variable{fs fs' ex ex':List Addr}{H H1 H2:Hp}{h1 h2 h':Heap}{x e:Addr}{o:HO}
theorem Un.any(u:Un fs ex H H1 h h1){ob:Obj}(q:h.get? b=some ob)(n:H b=none)(hx:b ∉ ex):∃sl,h1.get? b=some {ob with slots:=sl}:=by
 by_cases hb:b∈fs
 · exact u.slot b ob q n hb hx
 · exact⟨ob.slots,u.keep b ob q n hb hx⟩
theorem Un.kept(k:∀b u,h.get? b=some u→h'.get? b=some u):Un fs ex H H h h':=
 ⟨λb ob q _ _ _=>k b ob q,λb ob q _ _ _=>⟨ob.slots,k b ob q⟩,λ_ _ _ n _=>n,λb ob q _=>⟨ob,k b ob q⟩,λ_ _ q=>q,λ_ _ _ q=>q,λ_ ps q=>⟨#[],by rw[q];simp⟩⟩
theorem Un.refl:Un fs ex H H h h:=Un.kept λ_ _ q=>q
theorem Un.laid(k:∀b u,h.get? b=some u→h'.get? b=some u)(hp:h.objs.size≤a)(hn:H a=none):Un fs ex H (GY H a o) h h' where
 keep:=λb u q _ _ _=>k b u q
 slot:=λb u q _ _ _=>⟨u.slots,k b u q⟩
 free:=λb u q n _=>by rw[Hm (Al (Ay (Ag q) hp))];exact n
 there:=λb u q _=>⟨u,k b u q⟩
 tups:=λb xs q=>by rw[Hm (IA q hn)];exact q
 frzs:=λb u xs q=>by rw[Hm (IA q hn)];exact q
 tbls:=λb ps q=>⟨#[],by rw[Hm (IA q hn),q];simp⟩
theorem Un.write(mu:LL (H x))(he:e=x∨H e=some (.own x))(k:∀b u,b≠e→h.get? b=some u→h'.get? b=some u)(heo:∃u,h'.get? e=some u):Un fs ex H (GY H x o) h h':=by
 have hx:∀b,H b=none→b≠x:=λb n z=>by subst z;rw[n] at mu;exact mu
 have hb:∀b,H b=none→b≠e:=λb n z=>by
  subst z;rcases he with r | r
  · exact hx b n r
  · rw[n] at r;cases r
 have hm:∀b u,H b=some u→¬LL (some u)→b≠x:=λb u q nm z=>by subst z;rw[q] at mu;exact nm mu
 refine⟨λb u q n _ _=>k b u (hb b n) q,λb u q n _ _=>⟨u.slots,k b u (hb b n) q⟩,λb u q n _=>by rw[Hm (hx b n)];exact n,λb u q _=>?_,
  λb xs q=>by rw[Hm (hm b _ q λz=>z)];exact q,λb u xs q=>by rw[Hm (hm b _ q λz=>z)];exact q,λb ps q=>⟨#[],by rw[Hm (hm b _ q λz=>z),q];simp⟩⟩
 by_cases hbe:b=e
 · subst hbe;exact heo
 · exact⟨u,k b u hbe q⟩
end
def trk(h:Heap)(H:Hp):List Addr:=(AX h.objs.size).filter λa=>(H a).isSome
def Ix(h:Heap)(H:Hp):Heap:=PySem.W.hideAll h (trk h H)
theorem Vs(h:Heap)(H:Hp):(Ix h H).objs.size=h.objs.size:=PySem.W.hideAll_size _ _
theorem US{H:Hp}{o:Obj}(e:h.get? b=some o)(n:H b=none):(Ix h H).get? b=some o:=
 PySem.W.hideAll_get _ e λhm=>by have q:(H b).isSome=true:=(List.mem_filter.mp hm).2;rw[n] at q;simp at q
theorem Uk{H:Hp}{o:Obj}(e:(Ix h H).get? b=some o):h.get? b=some o∧H b=none:=by
 have e':h.get? b=some o:=PySem.W.of_hideAll (trk h H) e;refine⟨e',?_⟩;cases q:H b with
 | none=>rfl
 | some x=> have hm:b∈trk h H:=List.mem_filter.mpr ⟨DZ.mpr (Ag e'),by simp[q]⟩;have z:(Ix h H).get? b=none:=PySem.W.hideAll_none (trk h H) hm;rw[z] at e;cases e
def Ux(g h:Heap)(L:Addr):List (Addr×Obj):=(AX h.objs.size).filterMap λa=>if a=L∨(g.get? a).isSome=true then none else(h.get? a).map λo=>(a,o)
def rest(g h:Heap)(L d:Addr):List (Addr×Obj):=(Ux g h L).filter λp=>decide (p.1≠d)
structure Mod(K:Af)(mg:Str→Option Value)(base:Heap):Prop where
 kin:K.In base
 glob:base.Ns A0 mg
 blt:∃mb,base.Ns builtinsNs mb∧∀x:Str,x≠"__name__"→mb x=AQ x
 nolimit:base.NoLimit
structure Cx where
 prog:Bb
 w:World
 K:Af
 mg:Str→Option Value
 base:Heap
 A:BB
 N:List Str
 s₀:Shared
 H₀:Hp
 env:Env
 outer:List Env
 stack:List Env
 ex:List Addr
 fn:Str→Bool
 calm:Bool
 pn:List (Addr×Obj)
 xe:Value→Shared→Prop
def Jv(l:List Env):List Addr:=l.filterMap (·.frame)
abbrev Cx.fs(X:Cx):List Addr:=Jv X.outer
def M9(sc:Scope)(x:Str):Prop:=sc.names.lookup x=some .local∨sc.names.lookup x=some .cell∨sc.names.lookup x=some .free
def La(sc:Scope)(x:Str):Prop:=sc.names.lookup x=some .local∨sc.names.lookup x=some .cell
def OX(env:Env)(h:Heap)(m:Str→Option Value)(x:Str)(u:Value):Prop:=
 (env.kindOf x=some .local∧m x=some u)∨((env.kindOf x=some .cell∨env.kindOf x=some .free)∧∃c,env.cells.lookup x=some c∧h.IsCell c (some u))
structure Cx.Ok(X:Cx):Prop where
 mod:Mod X.K X.mg X.base
 kind:X.env.scope.kind= .function
 glob:X.env.globals=A0
 blt:X.env.builtins=builtinsNs
 above:X.s₀.heap.objs.size≤X.env.locals
 inj:∀x y c,X.env.cells.lookup x=some c→X.env.cells.lookup y=some c→x=y
 has:∀x,(X.env.kindOf x=some .cell∨X.env.kindOf x=some .free)→∃c,X.env.cells.lookup x=some c
 cab:∀x c,X.fn x=true→X.env.cells.lookup x=some c→X.s₀.heap.objs.size≤c
 hd:X.calm=true→X.A.handled=none
 frames:X.A.frames=some X.stack
 stk:X.stack=X.outer∨(X.stack=X.env::X.outer∧X.env.frame=some X.env.locals)
 exf:∀b∈X.ex,b≠X.env.locals∧∀x c,X.env.cells.lookup x=some c→c≠b
 bs:∀b o,X.base.get? b=some o→X.s₀.heap.get? b=some o∧X.H₀ b=none
 bsz:X.base.objs.size≤X.s₀.heap.objs.size
 noex:∀b o,X.base.get? b=some o→b ∉ X.ex
 exfs:∀b∈X.ex,b ∉ X.fs
 funs:X.s₀.heap.FunFrames X.base X.outer
 frf:∀b∈X.fs,X.H₀ b=none
structure Inv(X:Cx)(pins:List (Addr×Obj))(σ:List (Option V))(H:Hp)(s:Shared):Prop where
 ok:X.Ok
 os:s.os=X.s₀.os
 bare:AllBare s.gens
 base:Un X.fs X.ex X.H₀ H X.s₀.heap s.heap
 loc:∃m,s.heap.Ns X.env.locals m∧∀(i:Nat)(x:Str)(v:V),X.N[i]?=some x→σ[i]?=some (some v)→M9 X.env.scope x→∃u,RelV v u∧OX X.env s.heap m x u
 cell:∀x c,X.env.cells.lookup x=some c→∃v,s.heap.IsCell c v
 free:H X.env.locals=none
 freeC:∀x c,X.env.cells.lookup x=some c→H c=none
 pin:∀p∈X.pn++pins,s.heap.get? p.1=some p.2∧H p.1=none∧p.1≠X.env.locals∧p.1 ∉ X.fs∧∀v,p.2.data≠ .cell v
 hok:HOk X.prog X.w H s.heap
 len:σ.length=X.N.length
section
variable{X:Cx}{σ:List (Option V)}{H H':Hp}{h':Heap}
theorem Cx.Ok.nofr(ok:X.Ok){o:Obj}(e:X.base.get? b=some o):b ∉ X.fs:=λhb=>by have:=(ok.funs.mem hb).1;rw[e] at this;cases this
theorem Inv.bs(I:Inv X pins σ H s):∀b o,X.base.get? b=some o→s.heap.get? b=some o∧H b=none:=λb o e=>
 ⟨I.base.keep b o (I.ok.bs b o e).1 (I.ok.bs b o e).2 (I.ok.nofr e) (I.ok.noex b o e),I.base.free b o (I.ok.bs b o e).1 (I.ok.bs b o e).2 (I.ok.noex b o e)⟩
theorem Inv.bk(I:Inv X pins σ H s):∀b o,X.base.get? b=some o→s.heap.get? b=some o:=λb o e=>(I.bs b o e).1
theorem Inv.mod(I:Inv X pins σ H s):Mod X.K X.mg X.base:=I.ok.mod
theorem Inv.kIn(I:Inv X pins σ H s):X.K.In s.heap:=I.ok.mod.kin.keeps I.bk
theorem Inv.lt(I:Inv X pins σ H s):X.env.locals<s.heap.objs.size:=let⟨_,hn,_⟩:=I.loc;hn.lt
theorem Inv.sz(I:Inv X pins σ H s):X.s₀.heap.objs.size≤s.heap.objs.size:=AF I.ok.above (Bd I.lt)
theorem Inv.nofs(I:Inv X pins σ H s)(h:s.heap.objs.size≤a):a ∉ X.fs:=λhb=>by obtain⟨_,o,ho,_⟩:=I.ok.funs.mem hb;exact absurd (Ay (Ag ho) (AF I.sz h)) (Cp _)
theorem Inv.cne(I:Inv X pins σ H s):∀x c,X.env.cells.lookup x=some c→c≠X.env.locals:=λx c e z=>by obtain⟨v,o,ho,hd⟩:=I.cell x c e;obtain⟨m,⟨o',es,ep,ho',hd',_⟩,_⟩:=I.loc;rw[z,ho'] at ho;cases ho;rw[hd'] at hd;cases hd
theorem Inv.funs(I:Inv X pins σ H s):s.heap.FunFrames X.base X.outer:=by
 have all:∀(l:List Env),(∀b∈Jv l,b∈X.fs)→X.s₀.heap.FunFrames X.base l→s.heap.FunFrames X.base l:=by
  intro l
  induction l with
  | nil=>intro _ _;trivial
  | cons env r ih=> intro hs hl;obtain⟨hk,⟨L,o,hf,hn,ho,hd⟩,hr⟩:=hl;have hL:L∈X.fs:=hs L (by unfold Jv;rw[Dh,hf];exact Ar);obtain⟨sl,e⟩:=I.base.slot L o ho (I.ok.frf L hL) hL λz=>I.ok.exfs L z hL;exact⟨hk,⟨L,_,hf,hn,e,hd⟩,ih (λb hb=>hs b (by unfold Jv;rw[Dh,hf];exact Ao _ hb)) hr⟩
 exact all X.outer (λ_ hb=>hb) I.ok.funs
theorem Inv.stack(I:Inv X pins σ H s):s.heap.FunFrames X.base X.stack:=by
 rcases I.ok.stk with e | ⟨e,hf⟩
 · rw[e];exact I.funs
 · rw[e];obtain⟨m,hn,_⟩:=I.loc;refine .cons (by rw[I.ok.kind];decide) hf hn ?_ I.funs;exact Heap.get?_none_of_le (AF I.ok.bsz I.ok.above)
theorem Inv.stkSub(I:Inv X pins σ H s):∀b∈Jv X.stack,b∈X.env.locals::X.fs:=λb hb=>by
 rcases I.ok.stk with e | ⟨e,hf⟩
 · rw[e] at hb;exact Ao _ hb
 · rw[e] at hb;unfold Jv at hb;rw[Dh,hf] at hb;exact hb
theorem Inv.stkFree(I:Inv X pins σ H s):∀b∈Jv X.stack,H b=none:=λb hb=>by
 rcases Ax.mp (I.stkSub b hb) with e | hb
 · rw[e];exact I.free
 · obtain⟨_,o,ho,_⟩:=I.ok.funs.mem hb;exact I.base.free b o ho (I.ok.frf b hb) λz=>I.ok.exfs b z hb
theorem Inv.step{g':Array GenState}{t':Nat}{d':Drawn}{ch:List Addr}(I:Inv X pins σ H s)
 (hch:∀b∈ch,(b∈X.ex∨X.s₀.heap.objs.size≤b)∧b≠X.env.locals∧(∀x c,X.env.cells.lookup x=some c→c≠b)∧∀p∈X.pn++pins,p.1≠b)
 (keep:∀b o,b≠X.env.locals→b ∉ X.fs→b ∉ ch→s.heap.get? b=some o→H b=none→h'.get? b=some o)
 (slot:∀b o,b≠X.env.locals→b∈X.fs→b ∉ ch→s.heap.get? b=some o→H b=none→∃sl,h'.get? b=some {o with slots:=sl}) (free:∀b o,b ∉ ch→s.heap.get? b=some o→H b=none→H' b=none)
 (there:∀b o,b ∉ ch→s.heap.get? b=some o→∃o',h'.get? b=some o')
 (tups:∀b xs,H b=some (.tup xs)→H' b=some (.tup xs)) (frzs:∀b o u,H b=some (.frz o u)→H' b=some (.frz o u)) (tbls:∀b ps,H b=some (.tbl ps)→∃more,H' b=some (.tbl (ps++more)))
 (ns:∀m,s.heap.Ns X.env.locals m→h'.Ns X.env.locals m) (hok:HOk X.prog X.w H' h') (hg:AllBare g'):
 Inv X pins σ H' {s with heap:=h',gens:=g',drawn:=d',toks:=t'}:=by
 have neL:∀b o,X.s₀.heap.get? b=some o→b≠X.env.locals:=λb o e=>Al (Ay (Ag e) I.ok.above);have neC:∀b o,X.s₀.heap.get? b=some o→b ∉ X.ex→b ∉ ch:=λb o e hx hb=>by
  rcases(hch b hb).1 with z | z
  · exact hx z
  · exact absurd (Ay (Ag e) z) (Cp _)
 have cellK:∀x c,X.env.cells.lookup x=some c→∀v,s.heap.IsCell c v→h'.IsCell c v:=λx c e v ⟨o,ho,hd⟩=>by
  have nch:c ∉ ch:=λz=>(hch c z).2.2.1 x c e rfl;by_cases hc:c∈X.fs
  · obtain⟨sl,q⟩:=slot c o (I.cne x c e) hc nch ho (I.freeC x c e);exact⟨_,q,hd⟩
  · exact⟨o,keep c o (I.cne x c e) hc nch ho (I.freeC x c e),hd⟩
 refine⟨I.ok,I.os,hg,⟨λb o e n hb hx=>?_,λb o e n hb hx=>?_,λb o e n hx=>?_,λb o e hx=>?_,λb xs e=>tups b xs (I.base.tups b xs e),λb o xs e=>frzs b o xs (I.base.frzs b o xs e),λb ps e=>?_⟩,?_,λx c e=>?_,?_,λx c e=>?_,λp hp=>?_,hok,I.len⟩
 · exact keep b o (neL b o e) hb (neC b o e hx) (I.base.keep b o e n hb hx) (I.base.free b o e n hx)
 · obtain⟨sl,e1⟩:=I.base.slot b o e n hb hx;obtain⟨sl',e2⟩:=slot b _ (neL b o e) hb (neC b o e hx) e1 (I.base.free b o e n hx);exact⟨sl',e2⟩
 · obtain⟨o',e1⟩:=I.base.there b o e hx;exact free b o' (neC b o e hx) e1 (I.base.free b o e n hx)
 · obtain⟨o',e1⟩:=I.base.there b o e hx;exact there b o' (neC b o e hx) e1
 · obtain⟨m1,e1⟩:=I.base.tbls b ps e;obtain⟨m2,e2⟩:=tbls b _ e1;exact⟨m1++m2,by rw[e2,Array.append_assoc]⟩
 · obtain⟨m,hn,hl⟩:=I.loc;refine⟨m,ns m hn,λi x v e1 e2 e3=>?_⟩;obtain⟨u,r,l⟩:=hl i x v e1 e2 e3;refine⟨u,r,?_⟩;rcases l with l | ⟨k,c,e,z⟩
   · exact .inl l
   · exact .inr ⟨k,c,e,cellK x c e _ z⟩
 · obtain⟨v,z⟩:=I.cell x c e;exact⟨v,cellK x c e v z⟩
 · obtain⟨m,⟨o,_,_,ho,_⟩,_⟩:=I.loc;exact free _ o (λz=>(hch _ z).2.1 rfl) ho I.free
 · obtain⟨v,o,ho,hd⟩:=I.cell x c e;exact free c o (λz=>(hch c z).2.2.1 x c e rfl) ho (I.freeC x c e)
 · obtain⟨e,n,ne,nf,d⟩:=I.pin p hp;have nch:p.1 ∉ ch:=λz=>(hch p.1 z).2.2.2 p hp rfl;exact⟨keep p.1 p.2 ne nf nch e n,free p.1 p.2 nch e n,ne,nf,d⟩
theorem Inv.un{t':Nat}(I:Inv X pins σ H s)(u:Un X.fs [] H H' s.heap h')(hok:HOk X.prog X.w H' h'):Inv X pins σ H' {s with heap:=h',toks:=t'}:=by obtain⟨m,⟨o,es,ep,ho,r⟩,_⟩:=id I.loc;obtain⟨sl,hL⟩:=u.any ho I.free (by simp);exact I.step (g':=s.gens) (d':=s.drawn) (ch:=[]) (λ_ z=>nomatch z) (λb o _ hb _ e n=>u.keep b o e n hb (by simp)) (λb o _ hb _ e n=>u.slot b o e n hb (by simp)) (λb o _ e n=>u.free b o e n (by simp)) (λb o _ e=>u.there b o e (by simp)) u.tups u.frzs u.tbls (λm' hm=>by obtain⟨o',es',ep',ho',r'⟩:=hm;rw[ho] at ho';cases ho';exact⟨_,es',ep',hL,r'⟩) hok I.bare
theorem Inv.call{g':Array GenState}{t':Nat}{d':Drawn}{ch:List Addr}(I:Inv X pins σ H s)(u:Un (Jv X.stack) ch H H' s.heap h')(hok:HOk X.prog X.w H' h')(hg:AllBare g')
 (hch:∀b∈ch,(b∈X.ex∨X.s₀.heap.objs.size≤b)∧b≠X.env.locals∧(∀x c,X.env.cells.lookup x=some c→c≠b)∧∀p∈X.pn++pins,p.1≠b):
 Inv X pins σ H' {s with heap:=h',gens:=g',drawn:=d',toks:=t'}:=by
 obtain⟨m,⟨o,es,ep,ho,r⟩,_⟩:=id I.loc;obtain⟨sl,hL⟩:=u.any ho I.free λz=>(hch _ z).2.1 rfl;exact I.step (ch:=ch) hch (λb o hL hb hc e n=>u.keep b o e n (λz=>(Ax.mp (I.stkSub b z)).elim hL hb) hc) (λb o _ _ hc e n=>u.any e n hc) (λb o hc e n=>u.free b o e n hc) (λb o hc e=>u.there b o e hc) u.tups u.frzs u.tbls (λm' hm=>by obtain⟨o',es',ep',ho',r'⟩:=hm;rw[ho] at ho';cases ho';exact⟨_,es',ep',hL,r'⟩) hok hg
theorem Inv.turned{t':Nat}{it:Addr}(I:Inv X pins σ H s)(k:∀b o,b≠it→s.heap.get? b=some o→h'.get? b=some o)(hn:H it=none)(hL:it≠X.env.locals)
 (h1:it∈X.ex∨X.s₀.heap.objs.size≤it) (h2:∀x c,X.env.cells.lookup x=some c→c≠it) (h3:∀p∈X.pn++pins,p.1≠it):Inv X pins σ H {s with heap:=h',toks:=t'}:=by
 have nit:∀b u,H b=some u→b≠it:=λb u e z=>by rw[z,hn] at e;cases e
 refine I.step (g':=s.gens) (d':=s.drawn) (ch:=[it]) (λb hb=>?_) (λb o _ _ hc e _=>k b o (λz=>hc (by simp[z])) e) (λb o _ _ hc e _=>⟨o.slots,k b o (λz=>hc (by simp[z])) e⟩) (λ_ _ _ _ n=>n)
  (λb o hc e=>⟨o,k b o (λz=>hc (by simp[z])) e⟩) (λ_ _ e=>e) (λ_ _ _ e=>e) (λb ps e=>⟨#[],by rw[e];simp⟩) (λm hm=>?_) (λb u e=>?_) I.bare
 · have e:b=it:=by simpa using hb
   subst e;exact⟨h1,hL,h2,h3⟩
 · obtain⟨o,es,ep,ho,r⟩:=hm;exact⟨o,es,ep,k _ o (Ch hL) ho,r⟩
 · refine(I.hok b u e).stay (λc v hc q=>k c v ?_ q) (λ_ q=>q) λ_ _ q=>q;rcases hc with z | z
   · rw[z];exact nit b u e
   · exact nit c _ z
theorem Inv.tok(I:Inv X pins σ H s)(t:Nat):Inv X pins σ H {s with toks:=t}:=I.un (h':=s.heap) (t':=t) Un.refl I.hok
theorem Inv.kept{t':Nat}(I:Inv X pins σ H s)(k:∀b u,s.heap.get? b=some u→h'.get? b=some u):Inv X pins σ H {s with heap:=h',toks:=t'}:=I.un (Un.kept k) (I.hok.kept k)
theorem Inv.laid{o:HO}{t':Nat}(I:Inv X pins σ H s)(k:∀b u,s.heap.get? b=some u→h'.get? b=some u)(hp:s.heap.objs.size≤a)(new:ObjOk X.prog X.w (GY H a o) h' a o):
 Inv X pins σ (GY H a o) {s with heap:=h',toks:=t'}:=I.un (Un.laid k hp (I.hok.fresh hp)) (I.hok.laid k hp new)
theorem Inv.write{x e:Addr}{o:HO}{t':Nat}(I:Inv X pins σ H s)(mu:LL (H x))(he:e=x∨H e=some (.own x))(k:∀b u,b≠e→s.heap.get? b=some u→h'.get? b=some u)(heo:∃u,h'.get? e=some u)
 (new:ObjOk X.prog X.w (GY H x o) h' x o):Inv X pins σ (GY H x o) {s with heap:=h',toks:=t'}:=I.un (Un.write mu he k heo) (I.hok.write mu he k heo new)
theorem Inv.pins_of{pins':List (Addr×Obj)}(I:Inv X pins σ H s)(h:∀p∈pins',s.heap.get? p.1=some p.2∧H p.1=none∧p.1≠X.env.locals∧p.1 ∉ X.fs∧∀v,p.2.data≠ .cell v):Inv X pins' σ H s:=
 ⟨I.ok,I.os,I.bare,I.base,I.loc,I.cell,I.free,I.freeC,λp hp=>(AM.mp hp).elim (λz=>I.pin p (DI _ z)) (h p),I.hok,I.len⟩
theorem Q3{N:List Str}(hN:N.Nodup){j:Nat}{x:Str}(a:N[i]?=some x)(b:N[j]?=some x):i=j:=by obtain⟨h1,e1⟩:=Am.mp a;obtain⟨h2,e2⟩:=Am.mp b;exact(List.getElem_inj hN).mp (e1.trans e2.symm)
theorem Nx{M:Model}{A:BB}{E:Value→Shared→Prop}{x:Str}{v:V}{Q:Unit→Shared→Prop}(I:Inv X pins σ H s)(hN:X.N.Nodup)(hi:X.N[i]?=some x)(hx:La X.env.scope x)(r:RelV v u)
 (h:∀s',Inv X pins (σ.set i (some v)) H s'→(∃a,BS a s.heap s'.heap∧(a=X.env.locals∨X.env.cells.lookup x=some a))→Q () s') (hf:X.fn x=true∨X.env.scope.names.lookup x=some .local:=by first | exact .inl rfl | exact .inr rfl | assumption):wpAny M A (storeName X.env x u) Q E s:=by
 obtain⟨m,hn,hl⟩:=id I.loc;have hcls:(X.env.scope.kind== .class || (X.env.scope.kind== .module && X.env.locals !=X.env.globals))=false:=by rw[I.ok.kind];rfl
 have hiσ:i<σ.length:=by rw[I.len];exact(Am.mp hi).1
 have cne:=I.cne;have tracked:∀{a:Addr}{h':Heap},(∃o,s.heap.get? a=some o∧H a=none)→BS a s.heap h'→HOk X.prog X.w H h':=λ{a h'}ha hs b ob e=>by
  obtain⟨_,_,hfree⟩:=ha;refine(I.hok b ob e).stay (λc w' hc q=>(hs.2 c ?_).trans q) (λ_ q=>q) λ_ _ q=>q;rintro rfl;rcases hc with rfl | hc
  · rw[hfree] at e;cases e
  · rw[hfree] at hc;cases hc
 rcases hx with hk | hk
 · refine wpAny_storeName_local hk hn (λh' hn' hs=>?_) hcls;obtain⟨oL,_,_,hoL,_⟩:=id hn;refine h _ ⟨I.ok,I.os,I.bare,⟨λb o e n hb hx=>?_,λb o e n hb hx=>?_,I.base.free,λb o e hx=>?_,I.base.tups,I.base.frzs,I.base.tbls⟩,⟨_,hn',λj y v' e1 e2 e3=>?_⟩,λy c e=>?_,I.free,I.freeC,λp hp=>?_,tracked ⟨oL,hoL,I.free⟩ hs,by simpa using I.len⟩ ⟨_,hs,.inl rfl⟩
   · exact(hs.2 b (Al (Ay (Ag e) I.ok.above))).trans (I.base.keep b o e n hb hx)
   · obtain⟨sl,e1⟩:=I.base.slot b o e n hb hx;exact⟨sl,(hs.2 b (Al (Ay (Ag e) I.ok.above))).trans e1⟩
   · obtain⟨o',e1⟩:=I.base.there b o e hx;exact⟨o',(hs.2 b (Al (Ay (Ag e) I.ok.above))).trans e1⟩
   · by_cases hj:j=i
     · subst hj;rw[hi] at e1;cases e1;rw[Fc hiσ] at e2;cases e2;exact⟨u,r,.inl ⟨hk,by simp⟩⟩
     · rw[F0 (Ch hj)] at e2;obtain⟨u',r',q⟩:=hl j y v' e1 e2 e3;refine⟨u',r',?_⟩;rcases q with⟨k,e⟩ | ⟨k,c,e,z⟩
       · refine .inl ⟨k,?_⟩;have:y≠x:=λe=>hj (Q3 hN e1 (e ▸ hi));simp[this,e]
       · exact .inr ⟨k,c,e,z.sameBut hs (cne y c e)⟩
   · obtain⟨w',z⟩:=I.cell y c e;exact⟨w',z.sameBut hs (cne y c e)⟩
   · obtain⟨e,n,ne,nf,d⟩:=I.pin p hp;exact⟨(hs.2 p.1 ne).trans e,n,ne,nf,d⟩
 · have hfn:X.fn x=true:=by
    rcases hf with z | z
    · exact z
    · rw[z] at hk;cases hk
   obtain⟨c,hc⟩:=I.ok.has x (.inl hk);obtain⟨w',z⟩:=I.cell x c hc;refine wpAny_storeName_cell I.ok.kind hk hc z (λh' hc' hs=>?_);obtain⟨oc,hoc,hocd⟩:=id z;refine h {s with heap:=h'} ⟨I.ok,I.os,I.bare,⟨λb o e n hb hx=>?_,λb o e n hb hx=>?_,I.base.free,λb o e hx=>?_,I.base.tups,I.base.frzs,I.base.tbls⟩,⟨m,hn.sameBut hs (Ch (cne x c hc)),λj y v' e1 e2 e3=>?_⟩,λy c' e=>?_,I.free,I.freeC,λp hp=>?_,tracked ⟨oc,hoc,I.freeC x c hc⟩ hs,by simpa using I.len⟩ ⟨c,hs,.inr hc⟩
   · exact(hs.2 b (Al (Ay (Ag e) (I.ok.cab x c hfn hc)))).trans (I.base.keep b o e n hb hx)
   · obtain⟨sl,e1⟩:=I.base.slot b o e n hb hx;exact⟨sl,(hs.2 b (Al (Ay (Ag e) (I.ok.cab x c hfn hc)))).trans e1⟩
   · obtain⟨o',e1⟩:=I.base.there b o e hx;exact⟨o',(hs.2 b (Al (Ay (Ag e) (I.ok.cab x c hfn hc)))).trans e1⟩
   · by_cases hj:j=i
     · subst hj;rw[hi] at e1;cases e1;rw[Fc hiσ] at e2;cases e2;exact⟨u,r,.inr ⟨.inl hk,c,hc,hc'⟩⟩
     · rw[F0 (Ch hj)] at e2;obtain⟨u',r',q⟩:=hl j y v' e1 e2 e3;refine⟨u',r',?_⟩;rcases q with q | ⟨k,c',e,z'⟩
       · exact .inl q
       · refine .inr ⟨k,c',e,z'.sameBut hs ?_⟩;rintro rfl;exact hj (Q3 hN e1 (I.ok.inj _ _ _ e hc ▸ hi))
   · by_cases hcc:c'=c
     · subst hcc;exact⟨_,hc'⟩
     · obtain⟨w2,z2⟩:=I.cell y c' e;exact⟨w2,z2.sameBut hs hcc⟩
   · obtain⟨e,n,ne,nf,d⟩:=I.pin p hp;refine⟨(hs.2 p.1 ?_).trans e,n,ne,nf,d⟩;intro q;rw[q,hoc] at e;have q':oc=p.2:=A7 e;exact d w' (by rw[←q'];exact hocd)
theorem QJ{M:Model}{A:BB}{E:Value→Shared→Prop}{x:Str}{v:V}{Q:Unit→Shared→Prop}(I:Inv X pins σ H s)(hN:X.N.Nodup)(hi:X.N[i]?=some x)(hx:La X.env.scope x)(r:RelV v u)
 (h:∀s',Inv X pins (σ.set i (some v)) H s'→Q () s') (hf:X.fn x=true∨X.env.scope.names.lookup x=some .local:=by first | exact .inl rfl | exact .inr rfl | assumption):wpAny M A (storeName X.env x u) Q E s:=
 Nx I hN hi hx r (λs' I' _=>h s' I') hf
theorem Inv.call'{s':Shared}{ch:List Addr}(I:Inv X pins σ H s)(ho:s'.os=s.os)(u:Un (Jv X.stack) ch H H' s.heap s'.heap)(hok:HOk X.prog X.w H' s'.heap)(hg:AllBare s'.gens)
 (hch:∀b∈ch,(b∈X.ex∨X.s₀.heap.objs.size≤b)∧b≠X.env.locals∧(∀x c,X.env.cells.lookup x=some c→c≠b)∧∀p∈X.pn++pins,p.1≠b):Inv X pins σ H' s':=by
 obtain⟨h',g',d',t',o'⟩:=s';have e:o'=s.os:=ho;subst e;exact I.call (g':=g') (t':=t') (d':=d') u hok hg hch
end
abbrev XK:=Value→Option Addr→Hp→Prop
abbrev St:=List (Option V)
abbrev VK:=V→Hp→Prop
abbrev TE:=St→Hp→VK→Prop
abbrev TT:=St→Hp→(Bool→Hp→Prop)→Prop
abbrev TA:=St→Hp→(List V→Hp→Prop)→Prop
structure Ends where
 nx:St→Hp→Prop
 rt:VK
 bk:St→Hp→Prop:=λ_ _=>False
 ct:St→Hp→Prop:=λ_ _=>False
abbrev TS:=Ends→St→Hp→Prop
def EP(X:Cx)(pins:List (Addr×Obj))(σ:St)(Q:VK)(u:Value)(s':Shared):Prop:=∃v H',Inv X pins σ H' s'∧RelV v u∧Q v H'
def TP(X:Cx)(pins:List (Addr×Obj))(σ:St)(Q:Bool→Hp→Prop)(b:Bool)(s':Shared):Prop:=∃H',Inv X pins σ H' s'∧Q b H'
def AP(X:Cx)(pins:List (Addr×Obj))(σ:St)(Q:List V→Hp→Prop)(us:List Value)(s':Shared):Prop:=∃vs H',Inv X pins σ H' s'∧Vals vs us∧Q vs H'
def SP(X:Cx)(pins:List (Addr×Obj))(D:Ends)(f:Flow)(s':Shared):Prop:=
 match f with
 | .next=>∃σ' H',Inv X pins σ' H' s'∧D.nx σ' H'
 | .brk=>∃σ' H',Inv X pins σ' H' s'∧D.bk σ' H'
 | .cont=>∃σ' H',Inv X pins σ' H' s'∧D.ct σ' H'
 | .ret u=>∃v σ' H',Inv X pins σ' H' s'∧RelV v u∧D.rt v H'
def PE(X:Cx)(e:Expr)(t:TE):Prop:=
 ∀(pins:List (Addr×Obj))(s:Shared)(σ:St)(H:Hp)(Q:VK),Inv X pins σ H s→t σ H Q→wpAny (model X.prog X.w) X.A (eval e X.env) (EP X pins σ Q) X.xe s
def PT(X:Cx)(e:Expr)(t:TT):Prop:=
 ∀(pins:List (Addr×Obj))(s:Shared)(σ:St)(H:Hp)(Q:Bool→Hp→Prop),Inv X pins σ H s→t σ H Q→wpAny (model X.prog X.w) X.A (isTrue e X.env (eval e X.env)) (TP X pins σ Q) X.xe s
def PW(X:Cx)(e:Expr)(t:TT):Prop:=
 ∀(whole:Sem Value)(pins:List (Addr×Obj))(s:Shared)(σ:St)(H:Hp)(Q:Bool→Hp→Prop),Inv X pins σ H s→t σ H Q→wpAny (model X.prog X.w) X.A (isTrue e X.env whole) (TP X pins σ Q) X.xe s
theorem PW.pt{X:Cx}{t:TT}(h:PW X e t):PT X e t:=h _
def PA(X:Cx)(es:List Expr)(t:TA):Prop:=
 ∀(pos:Pos)(pins:List (Addr×Obj))(s:Shared)(σ:St)(H:Hp)(Q:List V→Hp→Prop),Inv X pins σ H s→t σ H Q→wpAny (model X.prog X.w) X.A (spliced (backTo pos (Az es X.env))) (AP X pins σ Q) X.xe s
def PS(X:Cx)(st:Stmt)(t:TS):Prop:=
 ∀(pins:List (Addr×Obj))(s:Shared)(σ:St)(H:Hp)(D:Ends),Inv X pins σ H s→t D σ H→wpAny (model X.prog X.w) X.A (exec st X.env) (SP X pins D) X.xe s
def PSs(X:Cx)(st:List Stmt)(t:TS):Prop:=
 ∀(pins:List (Addr×Obj))(s:Shared)(σ:St)(H:Hp)(D:Ends),Inv X pins σ H s→t D σ H→wpAny (model X.prog X.w) X.A (execs st X.env) (SP X pins D) X.xe s
theorem He{α:Type}{t:Sem α}{Q Q':α→Shared→Prop}{M:Model}(h:wpAny M A t Q E s)(hQ:∀a s,Q a s→Q' a s):wpAny M A t Q' E s:=A9 h hQ λ_ _ x=>x
section
variable{X:Cx}
def Js(i:Nat):TE:=λσ H Q=>∃v,σ[i]?=some (some v)∧Q v H
def tC(v:V):TE:=λ_ H Q=>Q v H
theorem SR{x:Str}(hN:X.N[i]?=some x)(hv:M9 X.env.scope x)(hd:(x==("__debug__":Str))=false:=by decide)(hcd:(x==("__classdict__":Str))=false:=by decide):PE X (.Name x pos) (Js i):=by
 intro pins s σ H Q I h;obtain⟨v,e,h⟩:=h;obtain⟨m,hn,hl⟩:=I.loc;obtain⟨u,r,l⟩:=hl i x v hN e hv;have fin:EP X pins σ Q u s:=⟨v,H,I,r,h⟩;rcases l with⟨hk,hm⟩ | ⟨hk,c,hc,hcell⟩
 · exact wpAny_Name (wpAny_loadName_local I.ok.kind hk hn hm fin) hd
 · rcases hk with hk | hk
   · exact wpAny_Name (wpAny_loadName_cell I.ok.kind hk hc hcell fin) hd
   · exact wpAny_Name (wpAny_loadName_free I.ok.kind hk hc hcell fin hcd) hd
theorem G_{i j pos}:PE X (.Constant (.int i) j pos) (tC (.int i)):=λ_ _ _ H _ I h=>wpAny_Constant_int ⟨.int i,H,I.tok _,⟨_,rfl⟩,h⟩
theorem Ij{b j pos}:PE X (.Constant (.bool b) j pos) (tC (.bl b)):=λ_ _ _ H _ I h=>Constant_bool ⟨.bl b,H,I,rfl,h⟩
theorem LR{j pos}:PE X (.Constant .none j pos) (tC .non):=λ_ _ _ H _ I h=>Constant_none ⟨.non,H,I,rfl,h⟩
theorem Lf{x j pos}:PE X (.Constant (.str x) j pos) (tC (.str x)):=λ_ _ _ H _ I h=>Calls.Constant_str ⟨.str x,H,I.tok _,⟨_,rfl⟩,h⟩
def Gl(X:Cx)(x:Str):Prop:=X.env.kindOf x=some .globalImplicit
theorem Qm{E:Value→Shared→Prop}{σ:St}{H:Hp}{x:Str}{pos:Pos}{Q:Value→Shared→Prop}(I:Inv X pins σ H s)(hg:Gl X x)(hm:X.mg x=some u)(h:Q u s)
 (hd:(x==("__debug__":Str))=false:=by decide):wpAny (model X.prog X.w) X.A (eval (.Name x pos) X.env) Q E s:=
 En I.ok.kind hg (Calls.loadGlobal_global (by rw[I.ok.glob];exact I.mod.glob.keeps I.bk) hm h) hd
theorem IY{E:Value→Shared→Prop}{σ:St}{H:Hp}{x:Str}{pos:Pos}{Q:Value→Shared→Prop}(I:Inv X pins σ H s)(hg:Gl X x)(hm:X.mg x=none)(hv:AQ x=some u)(h:Q u s)
 (hn:x≠"__name__":=by decide) (hd:(x==("__debug__":Str))=false:=by decide):wpAny (model X.prog X.w) X.A (eval (.Name x pos) X.env) Q E s:=by
 obtain⟨mb,h1,h2⟩:=I.mod.blt;exact En I.ok.kind hg (Calls.loadGlobal_builtin (by rw[I.ok.glob];exact I.mod.glob.keeps I.bk) hm (by rw[I.ok.blt];exact h1.keeps I.bk) ((h2 x hn).trans hv) h) hd
theorem Mc{x:Str}{v:V}(hg:Gl X x)(hm:X.mg x=some u)(r:RelV v u)(hd:(x==("__debug__":Str))=false:=by decide):PE X (.Name x pos) (tC v):=
 λ_ _ _ H _ I h=>Qm I hg hm ⟨v,H,I,r,h⟩ hd
theorem Ia{x:Str}{v:V}(hg:Gl X x)(hm:X.mg x=none)(hv:AQ x=some u)(r:RelV v u)(hn:x≠"__name__":=by decide)(hd:(x==("__debug__":Str))=false:=by decide):PE X (.Name x pos) (tC v):=
 λ_ _ _ H _ I h=>IY I hg hm hv ⟨v,H,I,r,h⟩ hn hd
variable{a b:Expr}{ta tb:TE}
def PC(X:Cx)(op:CmpOp)(a b:Expr)(t:TE):Prop:=
 ∀(pins:List (Addr×Obj))(s:Shared)(σ:St)(H:Hp)(Q:VK),Inv X pins σ H s→t σ H Q→
  wpAny (model X.prog X.w) X.A (eval a X.env) (λv s₁=>wpAny (model X.prog X.w) X.A (eval b X.env) (λu s₂=>wpAny (model X.prog X.w) X.A (Bq op v u) (EP X pins σ Q) X.xe s₂) X.xe s₁) X.xe s
theorem Q2(b:Expr){op:CmpOp}(h:op≠ .In)(h2:op≠ .NotIn):behindInMarks op b=false:=by
 have e1:(op==CmpOp.In)=false:=by cases op<;>first | rfl | exact absurd rfl h
 have e2:(op==CmpOp.NotIn)=false:=by cases op<;>first | rfl | exact absurd rfl h2
 cases b<;>simp[behindInMarks,e1,e2]
def Ov(ta:TE):TE:=λσ H Q=>ta σ H λx H1=>Q (.bl (decide (x= .non))) H1
def T8(ta:TE):TE:=λσ H Q=>ta σ H λx H1=>Q (.bl (!decide (x= .non))) H1
theorem RelV.none_iff{x:V}{v:Value}(r:RelV x v):(v==Value.none)=decide (x= .non):=by
 cases x with
 | non=>cases r;rfl
 | bl _=>cases r;rfl
 | int _=>obtain⟨t,rfl⟩:=r;rfl
 | str _=>obtain⟨t,rfl⟩:=r;rfl
 | byt _=>obtain⟨t,rfl⟩:=r;rfl
 | flt _=>obtain⟨t,rfl⟩:=r;rfl
 | ref _=>cases r;rfl
 | ty _=>cases r;rfl
theorem JD{j pos'}(ha:PE X a ta):PC X .Is a (.Constant .none j pos') (Ov ta):=by intro pins s σ H Q I h;refine He (ha pins s σ H _ I h) λv s1 ⟨x,H1,I1,r1,q1⟩=>?_;exact Constant_none (is_none_gen ⟨.bl _,H1,I1,by rw[r1.none_iff];rfl,q1⟩)
theorem PY{j pos'}(ha:PE X a ta):PC X .IsNot a (.Constant .none j pos') (T8 ta):=by intro pins s σ H Q I h;refine He (ha pins s σ H _ I h) λv s1 ⟨x,H1,I1,r1,q1⟩=>?_;exact Constant_none (isnot_none_gen ⟨.bl _,H1,I1,by rw[r1.none_iff];rfl,q1⟩)
def tB(t:TE):TT:=λσ H Q=>t σ H λx H1=>∃c,x= .bl c∧Q c H1
theorem Kw{op:CmpOp}{t:TE}(h:PC X op a b t)(h1:behindInMarks op b=false:=by first | exact Q2 _ (by decide) (by decide) | rfl):PE X (.Compare a [op] [b] pos) t:=λpins s σ H Q I hw=>wpAny_Compare1 (h pins s σ H Q I hw) h1
theorem KN{op:CmpOp}{t:TE}(h:PC X op a b t)(h1:behindInMarks op b=false:=by first | exact Q2 _ (by decide) (by decide) | rfl):PT X (.Compare a [op] [b] pos) (tB t):=by intro pins s σ H Q I hw;refine wpAny_isTrue_Compare1 (He (h pins s σ H _ I hw) λv s1 h1=>He h1 λu s2 h2=>He h2 λc s3 ⟨x,H1,I1,r1,q1⟩=>?_) h1;obtain⟨d,rfl,q⟩:=q1;cases r1;exact Be ⟨H1,I1,q⟩
theorem Ii{t:TE}(h:PE X e t)(he:∀whole,isTrue e X.env whole=(do let v ←whole;standAt e.pos;holding [v] (truthy v)):=by intro _;rfl):PT X e (tB t):=by intro pins s σ H Q I hw;refine isTrue_plain (He (h pins s σ H _ I hw) λv s1 ⟨x,H1,I1,r1,q1⟩=>?_) (he _);obtain⟨d,rfl,q⟩:=q1;cases r1;exact Be ⟨H1,I1,q⟩
variable{tA tB':TT}{rest:List Expr}
def Oy(t u:TT):TT:=λσ H Q=>t σ H λc H1=>if c=true then u σ H1 Q else Q false H1
def XQ(t u:TT):TT:=λσ H Q=>t σ H λc H1=>if c=true then Q true H1 else u σ H1 Q
def Os(t:TT):TT:=λσ H Q=>t σ H λc H1=>Q (!c) H1
theorem Ng(ha:PT X a tA):PW X (.BoolOp .And [a] pos) tA:=by
 intro wh pins s σ H Q I h;refine isTrue_and (He (ha pins s σ H Q I h) λc s1 e=>?_);cases c with
 | true=>exact isTrue_and_nil e
 | false=>exact e
theorem IV(ha:PT X a tA):PW X (.BoolOp .Or [a] pos) tA:=by
 intro wh pins s σ H Q I h;refine isTrue_or (He (ha pins s σ H Q I h) λc s1 e=>?_);cases c with
 | false=>exact isTrue_or_nil e
 | true=>exact e
theorem MP(ha:PT X a tA)(hb:PW X (.BoolOp .And (b::rest) pos) tB'):PW X (.BoolOp .And (a::b::rest) pos) (Oy tA tB'):=by
 intro wh pins s σ H Q I h;refine isTrue_and (He (ha pins s σ H _ I h) λc s1 ⟨H1,I1,q1⟩=>?_);cases c with
 | true=>exact hb wh pins s1 σ H1 Q I1 q1
 | false=>exact⟨H1,I1,q1⟩
theorem IU(ha:PT X a tA)(hb:PW X (.BoolOp .Or (b::rest) pos) tB'):PW X (.BoolOp .Or (a::b::rest) pos) (XQ tA tB'):=by
 intro wh pins s σ H Q I h;refine isTrue_or (He (ha pins s σ H _ I h) λc s1 ⟨H1,I1,q1⟩=>?_);cases c with
 | true=>exact⟨H1,I1,q1⟩
 | false=>exact hb wh pins s1 σ H1 Q I1 q1
theorem Im(ha:PT X a tA):PT X (.UnaryOp .Not a pos) (Os tA):=by intro pins s σ H Q I h;exact isTrue_not (ha pins s σ H (λc H1=>Q (!c) H1) I h)
def T1(ta tb:TE):TE:=λσ H Q=>ta σ H λx H1=>∃c,x= .bl c∧if c=true then tb σ H1 Q else Q (.bl false) H1
def Lp(ta tb:TE):TE:=λσ H Q=>ta σ H λx H1=>∃c,x= .bl c∧if c=true then Q (.bl true) H1 else tb σ H1 Q
def T9(ta:TE):TE:=λσ H Q=>ta σ H λx H1=>∃c,x= .bl c∧Q (.bl (!c)) H1
theorem IC{op}{t:TE}(h:PE X a t):PE X (.BoolOp op [a] pos) t:=λpins s σ H Q I hw=>BoolOp_one (h pins s σ H Q I hw)
theorem IM(ha:PE X a ta)(hb:PE X (.BoolOp .And (b::rest) pos) tb):PE X (.BoolOp .And (a::b::rest) pos) (T1 ta tb):=by
 intro pins s σ H Q I h;refine BoolOp_and (He (ha pins s σ H _ I h) λv s1 ⟨x,H1,I1,r1,q1⟩=>?_);obtain⟨c,rfl,q1⟩:=q1;cases r1;refine Be ?_;cases c with
 | true=>exact hb pins s1 σ H1 Q I1 q1
 | false=>exact⟨.bl false,H1,I1,rfl,q1⟩
theorem Lb(ha:PE X a ta)(hb:PE X (.BoolOp .Or (b::rest) pos) tb):PE X (.BoolOp .Or (a::b::rest) pos) (Lp ta tb):=by
 intro pins s σ H Q I h;refine BoolOp_or (He (ha pins s σ H _ I h) λv s1 ⟨x,H1,I1,r1,q1⟩=>?_);obtain⟨c,rfl,q1⟩:=q1;cases r1;refine Be ?_;cases c with
 | false=>exact hb pins s1 σ H1 Q I1 q1
 | true=>exact⟨.bl true,H1,I1,rfl,q1⟩
theorem SO(ha:PE X a ta):PE X (.UnaryOp .Not a pos) (T9 ta):=by intro pins s σ H Q I h;refine UnaryOp_ (He (ha pins s σ H _ I h) λv s1 ⟨x,H1,I1,r1,q1⟩=>?_);obtain⟨c,rfl,q1⟩:=q1;cases r1;exact not_of (Be ⟨.bl (!c),H1,I1,rfl,q1⟩)
def XR(t:TT)(ta tb:TE):TE:=λσ H Q=>t σ H λc H1=>if c=true then ta σ H1 Q else tb σ H1 Q
theorem Nr{c:Expr}(hc:PT X c tA)(ha:PE X a ta)(hb:PE X b tb):PE X (.IfExp c a b pos) (XR tA ta tb):=by
 intro pins s σ H Q I h;refine wpAny_IfExp (He (hc pins s σ H _ I h) λd s1 ⟨H1,I1,q1⟩=>?_);cases d with
 | true=>exact ha pins s1 σ H1 Q I1 q1
 | false=>exact hb pins s1 σ H1 Q I1 q1
end
def SqL(K:Af)(H:Hp)(a:Addr)(xs:List V):Prop:=
 Rd H a (.lst xs)∨
  ∃(o:Obj)(its:Array Value)(n:Nat),K.lookup a=some o∧o.cls= .type "list"∧o.dict=none∧o.data= .seq its n∧its.size≤As∧Vals xs its.toList
def SqT(K:Af)(H:Hp)(a:Addr)(xs:List V):Prop:=
 Rd H a (.tup xs)∨
  ∃(o:Obj)(its:Array Value)(n:Nat),K.lookup a=some o∧o.cls= .type "tuple"∧o.data= .seq its n∧its.size≤As∧Vals xs its.toList
def OU:Value→Option V
 | .none=>some .non
 | .bool b=>some (.bl b)
 | .int i _=>some (.int i)
 | .str x _=>some (.str x)
 | .bytes b _=>some (.byt b)
 | .float b _=>some (.flt b)
 | .ref a=>some (.ref a)
 | .type n=>some (.ty n)
 | _=>none
theorem RelV.abs{x:V}(r:RelV x u):OU u=some x:=by
 cases x with
 | non=>cases r;rfl
 | bl _=>cases r;rfl
 | int _=>obtain⟨t,rfl⟩:=r;rfl
 | str _=>obtain⟨t,rfl⟩:=r;rfl
 | byt _=>obtain⟨t,rfl⟩:=r;rfl
 | flt _=>obtain⟨t,rfl⟩:=r;rfl
 | ref _=>cases r;rfl
 | ty _=>cases r;rfl
theorem RelV.inj{x y:V}(r:RelV x u)(q:RelV y u):x=y:=A7 (r.abs.symm.trans q.abs)
theorem l0{α:Type}{P:List α→Prop}(h:P []):∀us:List α,us.length=0→P us
 | [],_=>h
theorem lS{α:Type}{n:Nat}{P:List α→Prop}(h:∀a us,us.length=n→P (a::us)):∀us:List α,us.length=n+1→P us
 | a::us,e=>h a us (Nat.succ.inj e)
theorem Vals.inj:∀{xs ys:List V}{us:List Value},Vals xs us→Vals ys us→xs=ys
 | _,_,_,.nil,.nil=>rfl
 | _,_,_,.cons r t,.cons r' t'=>by rw[r.inj r',Vals.inj t t']
section
variable{X:Cx}{σ:St}{H:Hp}{xs ys:List V}
theorem SqL.of(h:H a=some (.lst xs)):SqL K H a xs:= .inl (.inl h)
theorem SqT.of(h:H a=some (.tup xs)):SqT K H a xs:= .inl (.inl h)
theorem Inv.list(I:Inv X pins σ H s)(h:SqL X.K H a xs):∃its:List Value,Vals xs its∧PlainL s.heap a its.toArray∧xs.length≤As:=by
 rcases h with h | ⟨o,its,n,hk,hc,hd,hs,hz,r⟩
 · obtain⟨z,its,n,r,e⟩:=h.ok I.hok;exact⟨its,r,⟨_,n,e,rfl,rfl,rfl⟩,z⟩
 · refine⟨its.toList,r,⟨o,n,I.kIn a o hk,hc,hd,by simpa using hs⟩,?_⟩;have e:=r.length;simp only[Aj] at e;omega
theorem Inv.tuple(I:Inv X pins σ H s)(h:SqT X.K H a xs):∃its:List Value,Vals xs its∧IsTup s.heap a its.toArray∧xs.length≤As:=by
 rcases h with h | ⟨o,its,n,hk,hc,hs,hz,r⟩
 · obtain⟨z,its,r,p⟩:=h.ok I.hok;exact⟨its,r,p.tup,z⟩
 · refine⟨its.toList,r,⟨o,I.kIn a o hk,hc,n,by simpa using hs⟩,?_⟩;have e:=r.length;simp only[Aj] at e;omega
theorem Inv.list_inj(I:Inv X pins σ H s)(h:SqL X.K H a xs)(h':SqL X.K H a ys):xs=ys:=by
 obtain⟨its,r,⟨o,n,e,_,_,d⟩,_⟩:=I.list h;obtain⟨its',r',⟨o',n',e',_,_,d'⟩,_⟩:=I.list h';rw[e] at e';cases e';rw[d] at d';injection d' with d1 _;have:its=its':=by simpa using congrArg Array.toList d1
 subst this;exact r.inj r'
theorem Inv.tuple_inj(I:Inv X pins σ H s)(h:SqT X.K H a xs)(h':SqT X.K H a ys):xs=ys:=by
 obtain⟨its,r,⟨o,e,_,n,d⟩,_⟩:=I.tuple h;obtain⟨its',r',⟨o',e',_,n',d'⟩,_⟩:=I.tuple h';rw[e] at e';cases e';rw[d] at d';injection d' with d1 _;have:its=its':=by simpa using congrArg Array.toList d1
 subst this;exact r.inj r'
end
abbrev Cx.wish(X:Cx)(E:Value→Shared→Prop):Cx:={X with xe:=E}
abbrev Cx.nox(X:Cx):Cx:=X.wish λ_ _=>False
theorem Cx.Ok.wish{X:Cx}(ok:X.Ok)(E:Value→Shared→Prop):(X.wish E).Ok:=
 ⟨ok.mod,ok.kind,ok.glob,ok.blt,ok.above,ok.inj,ok.has,ok.cab,ok.hd,ok.frames,ok.stk,ok.exf,ok.bs,ok.bsz,ok.noex,ok.exfs,ok.funs,ok.frf⟩
theorem Cx.Ok.unwish{X:Cx}(ok:(X.wish E).Ok):X.Ok:=
 ⟨ok.mod,ok.kind,ok.glob,ok.blt,ok.above,ok.inj,ok.has,ok.cab,ok.hd,ok.frames,ok.stk,ok.exf,ok.bs,ok.bsz,ok.noex,ok.exfs,ok.funs,ok.frf⟩
section
variable{X:Cx}{σ:St}{H:Hp}
theorem Inv.wish(I:Inv X pins σ H s)(E:Value→Shared→Prop):Inv (X.wish E) pins σ H s:=⟨I.ok.wish E,I.os,I.bare,I.base,I.loc,I.cell,I.free,I.freeC,I.pin,I.hok,I.len⟩
theorem Inv.unwish(I:Inv (X.wish E) pins σ H s):Inv X pins σ H s:=⟨I.ok.unwish,I.os,I.bare,I.base,I.loc,I.cell,I.free,I.freeC,I.pin,I.hok,I.len⟩
theorem SP.unwish{D:Ends}{f:Flow}{s':Shared}(h:SP (X.wish E) pins D f s'):SP X pins D f s':=by
 cases f with
 | next=>obtain⟨σ',H',I,q⟩:=h;exact⟨σ',H',I.unwish,q⟩
 | brk=>obtain⟨σ',H',I,q⟩:=h;exact⟨σ',H',I.unwish,q⟩
 | cont=>obtain⟨σ',H',I,q⟩:=h;exact⟨σ',H',I.unwish,q⟩
 | ret u=>obtain⟨v,σ',H',I,r,q⟩:=h;exact⟨v,σ',H',I.unwish,r,q⟩
theorem PSs.nox{st:List Stmt}{t:TS}(h:PSs X.nox st t):PSs X st t:=λpins s σ H D I hw=> A9 (h pins s σ H D (I.wish _) hw) (λ_ _ q=>q.unwish) λ_ _ z=>C4 z
end
section
variable{X:Cx}{st:Stmt}{rest:List Stmt}{t u:TS}{te:TE}
def T7:TS:=λD σ H=>D.nx σ H
def K5(t u:TS):TS:=λD σ H=>t {D with nx:=u D} σ H
theorem HF:PSs X [] T7:=λ_ _ σ H _ I h=>EX ⟨σ,H,I,h⟩
theorem Hd(h1:PS X st t)(h2:PSs X rest u):PSs X (st::rest) (K5 t u):=by
 intro pins s σ H D I h;refine wpAny_execs_cons (He (h1 pins s σ H {D with nx:=u D} I h) λf s1 q=>?_)
 cases f with
 | next=> obtain⟨σ',H',I',q⟩:=q;exact h2 pins s1 σ' H' D I' q
 | ret v=>exact q
 | brk=>exact q
 | cont=>exact q
theorem Hg(h1:PS X st t):PSs X [st] t:=by
 intro pins s σ H D I h;refine wpAny_execs_cons (He (h1 pins s σ H D I h) λf s1 q=>?_);cases f with
 | next=>exact EX q
 | ret v=>exact q
 | brk=>exact q
 | cont=>exact q
theorem Inv.quiet{σ:St}{H:Hp}(I:Inv X pins σ H s):interactive X.env=false:=by simp[interactive,I.ok.kind]
def T6(te:TE):TS:=λD σ H=>te σ H λ_ H1=>D.nx σ H1
theorem Jm(he:PE X e te)(hs:swapsWith e none pos.line X.env=pure false:=by rfl):PS X (.Expr e pos) (T6 te):=by intro pins s σ H D I h;exact wpAny_Expr_any (He (he pins s σ H _ I h) λv s1 ⟨x,H1,I1,r1,q1⟩=>⟨σ,H1,I1,q1⟩) I.quiet hs
def Oq(te:TE):TS:=λD σ H=>te σ H D.rt
theorem Ho(he:PE X e te):PS X (.Return (some e) pos) (Oq te):=by intro pins s σ H D I h;exact wpAny_Return_some (He (he pins s σ H _ I h) λv s1 ⟨x,H1,I1,r1,q1⟩=>⟨x,σ,H1,I1,r1,q1⟩)
def Ow(c:TT)(t u:TS):TS:=λD σ H=>c σ H λb H1=>if b=true then t D σ H1 else u D σ H1
theorem HG{c:Expr}{a b:List Stmt}{tc:TT}(hc:PT X c tc)(ha:PSs X a t)(hb:PSs X b u):PS X (.If c a b pos) (Ow tc t u):=by
 intro pins s σ H D I h;refine wpAny_If (He (hc pins s σ H _ I h) λd s1 ⟨H1,I1,q1⟩=>?_);cases d with
 | true=>exact ha pins s1 σ H1 D I1 q1
 | false=>exact hb pins s1 σ H1 D I1 q1
def Tc:TS:=λ_ _ _=>False
theorem Nt:PS X st Tc:=λ_ _ _ _ _ _ h=>h.elim
end
abbrev TG:=V→St→Hp→(St→Hp→Prop)→Prop
abbrev Ko:=List V→St→Hp→(St→Hp→Prop)→Prop
def PG(X:Cx)(target:Expr)(t:TG):Prop:=
 ∀(pins:List (Addr×Obj))(s:Shared)(σ:St)(H:Hp)(v:V)(u:Value)(Q:St→Hp→Prop),Inv X pins σ H s→RelV v u→t v σ H Q→
  wpAny (model X.prog X.w) X.A (assign target X.env u) (λ_ s'=>∃σ' H',Inv X pins σ' H' s'∧Q σ' H') X.xe s
def LJ(X:Cx)(ts:List Expr)(t:Ko):Prop:=
 ∀(pins:List (Addr×Obj))(s:Shared)(σ:St)(H:Hp)(vs:List V)(us:List Value)(Q:St→Hp→Prop),Inv X pins σ H s→Vals vs us→t vs σ H Q→
  wpAny (model X.prog X.w) X.A (assignInOrder ((assignEach ts X.env).map (·.2)) us) (λ_ s'=>∃σ' H',Inv X pins σ' H' s'∧Q σ' H') X.xe s
abbrev KA:=V→V→V→Hp→(Hp→Prop)→Prop
def LI(X:Cx)(t:KA):Prop:=
 ∀(pins:List (Addr×Obj))(s:Shared)(σ:St)(H:Hp)(o i v:V)(ov iv u:Value)(Q:Hp→Prop),Inv X pins σ H s→RelV o ov→RelV i iv→RelV v u→t o i v H Q→
  wpAny (model X.prog X.w) X.A (setItem ov iv u) (λ_ s'=>∃H',Inv X pins σ H' s'∧Q H') X.xe s
section
variable{X:Cx}
def JA(i:Nat):TG:=λv σ H Q=>Q (σ.set i (some v)) H
theorem Hq{x:Str}(hN:X.N.Nodup)(hi:X.N[i]?=some x)(hx:La X.env.scope x)(hf:X.fn x=true∨X.env.scope.names.lookup x=some .local:=by first | exact .inl rfl | exact .inr rfl | assumption):PG X (.Name x pos) (JA i):=by intro pins s σ H v u Q I r h;exact E4 (QJ I hN hi hx r (λs' I'=>⟨_,H,I',h⟩) hf)
def OR:Ko:=λvs σ H Q=>vs=[]∧Q σ H
def Sw(t:TG)(u:Ko):Ko:=λvs σ H Q=>∃v r,vs=v::r∧t v σ H λσ' H'=>u r σ' H' Q
theorem IR:LJ X [] OR:=by intro pins s σ H vs us Q I r h;obtain⟨e,h⟩:=h;subst e;cases r;exact assignInOrder_nil ⟨σ,H,I,h⟩
theorem HH{es:List Expr}{t:TG}{u:Ko}(h1:PG X e t)(h2:LJ X es u)
 (hs:(assignEach (e::es) X.env).map (·.2)=assign e X.env::(assignEach es X.env).map (·.2):=by rfl):LJ X (e::es) (Sw t u):=by
 intro pins s σ H vs us Q I r h;obtain⟨v,vr,e1,h⟩:=h;subst e1;cases r with
 | cons r rr=> rw[hs];refine assignInOrder_cons (He (h1 pins s σ H _ _ _ I r h) λ_ s1 ⟨σ1,H1,I1,q1⟩=>?_);exact h2 pins s1 σ1 H1 _ _ Q I1 rr q1
def LF(K:Af)(n:Nat)(t:Ko):TG:=λv σ H Q=>∃a xs,v= .ref a∧SqT K H a xs∧xs.length=n∧t xs σ H Q
theorem J2{es:List Expr}{k:Nat}{t:Ko}{n:Nat}(hc:X.calm=true)(h:LJ X es t)
 (hn:(assignEach es X.env).length=n:=by rfl) (hst:(assignEach es X.env).findIdx? (·.1)=none:=by rfl):PG X (.Tuple es k pos) (LF X.K n t):=by
 intro pins s σ H v u Q I r hw;obtain⟨a,xs,e1,hq,hl,hw⟩:=hw;subst e1;cases r;obtain⟨its,rv,ht,hz⟩:=I.tuple hq;refine assign_Tuple_tuple (I.ok.hd hc) ht (by simp[hn,←hl,rv.length]) hst λh' hx=>?_;have I1:Inv X pins σ H {s with heap:=h'}:=I.kept (t':=s.toks) λb o e=>hx b o (Al (Ag e)) e
 exact h pins _ σ H xs _ Q I1 (by simpa using rv) hw
def OQ(to ti:TE)(t:KA):TG:=λv σ H Q=>to σ H λo H1=>ti σ H1 λi H2=>t o i v H2 λH3=>Q σ H3
theorem MO{o i:Expr}{to ti:TE}{t:KA}(ho:PE X o to)(hi:PE X i ti)(hs:LI X t)
 (ha:∀v,assign (.Subscript o i pos) X.env v=(do
  let ov ←holding [v] (eval o X.env)
  let iv ←holding [v,ov] (eval i X.env)
  standAt pos
  holding [v,ov,iv] (setItem ov iv v)
  release [v,ov,iv] []):=by intro _;rfl):PG X (.Subscript o i pos) (OQ to ti t):=by
 intro pins s σ H v u Q I r h;rw[ha];refine Aa (AE (He (ho pins s σ H _ I h) λov s1 ⟨x,H1,I1,r1,q1⟩=>?_));refine Aa (AE (He (hi pins s1 σ H1 _ I1 q1) λiv s2 ⟨y,H2,I2,r2,q2⟩=>?_));refine Aa (Cf (Aa (AE (He (hs pins s2 σ H2 x y v ov iv u _ I2 r1 r2 r q2) λ_ s3 ⟨H3,I3,q3⟩=>?_))));exact wpAny_release ⟨σ,H3,I3,q3⟩
def Jt(te:TE)(g:TG):TS:=λD σ H=>te σ H λx H1=>g x σ H1 D.nx
theorem JE{tg:Expr}{te:TE}{g:TG}(he:PE X e te)(hg:PG X tg g)(hs:swapsWithSole [tg] e pos.line X.env=pure false:=by rfl)(hw:swappedStores [tg] e X.env=pure none:=by rfl)
 (h1:(assignEach [tg] X.env).map (·.2)=[assign tg X.env]:=by rfl):PS X (.Assign [tg] e pos) (Jt te g):=by
 intro pins s σ H D I h;refine wpAny_Assign_stores (He (he pins s σ H _ I h) λv s1 ⟨x,H1,I1,r1,q1⟩=>?_) hs hw;rw[h1];exact He (hg pins s1 σ H1 x v _ I1 r1 q1) λ_ s2 q=>q
theorem Hr{x:Str}{te:TE}{pos':Pos}(hN:X.N.Nodup)(hi:X.N[i]?=some x)(hx:La X.env.scope x)(he:PE X e te)(hs:swapsWith e (some (.Name x pos')) pos.line X.env=pure false:=by rfl)(hf:X.fn x=true∨X.env.scope.names.lookup x=some .local:=by first | exact .inl rfl | exact .inr rfl | assumption):
 PS X (.Assign [.Name x pos'] e pos) (Jt te (JA i)):=by
 intro pins s σ H D I h;refine wpAny_Assign_Name (He (he pins s σ H _ I h) λv s1 ⟨y,H1,I1,r1,q1⟩=>?_) hs;exact QJ I1 hN hi hx r1 (λs2 I2=>⟨_,H1,I2,q1⟩) hf
end
section
variable{X:Cx}
end
structure It where
 go:Nat→Hp→Prop
 yld:Nat→Hp→V→Hp→Prop
 stop:Nat→Hp→Prop
def Ht(X:Cx)(pins:List (Addr×Obj))(H:Hp)(b:Addr):Prop:=
 H b=none∧b≠X.env.locals∧b ∉ X.fs∧(b∈X.ex∨X.s₀.heap.objs.size≤b)∧(∀x c,X.env.cells.lookup x=some c→c≠b)∧∀p∈X.pn++pins,p.1≠b
theorem Inv.fpOk{X:Cx}{σ:St}{H H':Hp}(I:Inv X pins σ H s)(hb:s.heap.objs.size≤b)(hn:H' b=none):Ht X pins H' b:=by
 refine⟨hn,Cc (Ay I.lt hb),I.nofs hb,.inr (AF I.sz hb),λx c e z=>?_,λp hp z=>?_⟩
 · obtain⟨v,q⟩:=I.cell x c e;exact absurd (Ay q.lt (by rw[z];exact hb)) (Cp _)
 · exact absurd (Ay (Ag (I.pin p hp).1) (by rw[z];exact hb)) (Cp _)
structure Turn(P:Bb)(w:World)(K:Af)(tg:Expr)(J:It)(fp:List Addr)(it:Addr)(tn:Nat→Heap→Prop):Prop where
 mem:it∈fp
 obj:∀i h,tn i h→∀b∈fp,∃o,h.get? b=some o∧∀v,o.data≠ .cell v
 keep:∀i h h',tn i h→(∀b∈fp,∀o,h.get? b=some o→h'.get? b=some o)→tn i h'
 item:∀(X:Cx),X.prog=P→X.w=w→X.K=K→X.calm=true→∀(i:Nat)(pins:List (Addr×Obj))(s:Shared)(σ:St)(H:Hp)(E:Value→Shared→Prop),Inv X pins σ H s→(∀b∈fp,Ht X pins H b)→tn i s.heap→J.go i H→
  wpAny (model P w) X.A (pyNext (.ref it)) (λr s1=>∃u,r=some u∧
   wpAny (model P w) X.A (C1 tg (.ref it) u) (λ_ s2=>∃x H',Inv X pins σ H' s2∧RelV x u∧J.yld i H x H'∧tn (i+1) s2.heap∧∀b∈fp,H' b=none) E s1) E s
 done:∀(X:Cx),X.prog=P→X.w=w→X.K=K→X.calm=true→∀(i:Nat)(pins:List (Addr×Obj))(s:Shared)(σ:St)(H:Hp)(E:Value→Shared→Prop),Inv X pins σ H s→(∀b∈fp,Ht X pins H b)→tn i s.heap→J.stop i H→
  wpAny (model P w) X.A (pyNext (.ref it)) (λr s1=>r=none∧Inv X pins σ H s1) E s
 self:∀(A:BB)(i:Nat)(s:Shared)(Q:Value→Shared→Prop)(E:Value→Shared→Prop),tn i s.heap→Q (.ref it) s→wpAny (model P w) A (pyIter (.ref it)) Q E s
abbrev TI:=St→Hp→(It→Hp→Prop)→Prop
def Sj(X:Cx)(pins:List (Addr×Obj))(σ:St)(tg:Expr)(R:It→Hp→Prop)(itv:Value)(s2:Shared):Prop:=
 ∃(it:Addr)(fp:List Addr)(tn:Nat→Heap→Prop)(J:It)(H':Hp),itv= .ref it∧Inv X pins σ H' s2∧Turn X.prog X.w X.K tg J fp it tn∧tn 0 s2.heap∧(∀b∈fp,Ht X pins H' b)∧R J H'
def PI(X:Cx)(tg iter:Expr)(wi:TI):Prop:=
 ∀(pins:List (Addr×Obj))(s:Shared)(σ:St)(H:Hp)(R:It→Hp→Prop),Inv X pins σ H s→wi σ H R→
  wpAny (model X.prog X.w) X.A (eval iter X.env) (λv s1=>wpAny (model X.prog X.w) X.A (pyIter v) (Sj X pins σ tg R) X.xe s1) X.xe s
theorem Lc{M:Model}{A:BB}{E:Value→Shared→Prop}{tg:Expr}{it:Addr}{u:Value}{o:Obj}{n:String}{vs:Array Value}{Q:Unit→Shared→Prop}(ho:s.heap.get? it=some o)(hc:o.cls= .type n)(hd:o.data= .fields vs)
 (hn:["enumerate","zip","dict_itemiterator","dict_reverseitemiterator","odict_iterator","itertools.zip_longest","itertools.pairwise"].contains n=false) (hQ:Q () s):wpAny M A (C1 tg (.ref it) u) Q E s:=by
 unfold C1;cases tg<;>first
  | exact Ac hQ
  | (cases u<;>first
   | exact Ac hQ
   | (refine Aa (wpAny_load ho ?_)
      rw[hc,hd];show wpAny M A (if(["enumerate","zip","dict_itemiterator","dict_reverseitemiterator","odict_iterator","itertools.zip_longest","itertools.pairwise"].contains n && vs[0]?==some (rawInt _))=true then _ else _) Q E s
      rw[if_neg (by intro h;rw[hn,Bool.false_and] at h;cases h)];exact Ac hQ))
def JZ(K:Af)(a:Addr):It:=
 ⟨λi H=>∃xs x,SqL K H a xs∧xs[i]?=some x,λi H x H'=>H'=H∧∀xs,SqL K H a xs→xs[i]?=some x,λi H=>∃xs,SqL K H a xs∧xs.length≤i⟩
def Kp(K:Af)(a:Addr):It:=
 ⟨λi H=>∃xs x,SqT K H a xs∧xs[i]?=some x,λi H x H'=>H'=H∧∀xs,SqT K H a xs→xs[i]?=some x,λi H=>∃xs,SqT K H a xs∧xs.length≤i⟩
def Kq(lo:Int)(n:Nat):It:=⟨λi _=>i<n,λi H x H'=>H'=H∧x= .int (lo+i),λi _=>n≤i⟩
theorem VW{tg:Expr}(a it:Addr):Turn P w K tg (JZ K a) [it] it (λi h=>h.IsListIter it a i) where
 mem:=by simp
 obj:=λi h st b hb=>by
  have e:b=it:=by simpa using hb
  subst e;obtain⟨o,e,c,d⟩:=st;exact⟨o,e,λv z=>by rw[d] at z;cases z⟩
 keep:=λi h h' st k=>st.at λo e=>k it (by simp) o e
 item:=by
  intro X hP hw hK hc i pins s σ H E I hf st hg;subst hP hw hK;obtain⟨xs,x,hq,hx⟩:=hg;obtain⟨its,rv,p,hz⟩:=I.list hq;obtain⟨u,hu,ru⟩:=rv.get hx;obtain⟨f0,f1,f2,f3,f4,f5⟩:=hf it (by simp);refine wpAny_pyNext_list_item st p.isList (x:=u) (by simpa using hu) λh' st' sb=>?_;have I1:Inv X pins σ H {s with heap:=h'}:=I.turned (t':=s.toks) (λb o hb e=>(sb.2 b hb).trans e) f0 f1 f3 f4 f5
  obtain⟨o,e,c,d⟩:=id st';exact⟨u,rfl,Lc (s:={s with heap:=h'}) e c d (by decide) ⟨x,H,I1,ru,⟨rfl,λys hy=>by rw[I.list_inj hy hq];exact hx⟩,st',λb hb=>(hf b hb).1⟩⟩
 done:=by intro X hP hw hK hc i pins s σ H E I hf st hg;subst hP hw hK;obtain⟨xs,hq,hx⟩:=hg;obtain⟨its,rv,p,hz⟩:=I.list hq;obtain⟨f0,f1,f2,f3,f4,f5⟩:=hf it (by simp);have hl:=rv.length;exact wpAny_pyNext_list_end (I.ok.hd hc) st p.isList (by simp;omega) λh' eb=>⟨rfl,I.turned (t':=s.toks) (λb o hb e=>eb b o hb e) f0 f1 f3 f4 f5⟩
 self:=λ_ _ _ _ _ st h=>wpAny_pyIter_listiter st h
theorem VQ{tg:Expr}(a it:Addr):Turn P w K tg (Kp K a) [it] it (λi h=>h.IsTupleIter it a i) where
 mem:=by simp
 obj:=λi h st b hb=>by
  have e:b=it:=by simpa using hb
  subst e;obtain⟨o,e,c,d⟩:=st;exact⟨o,e,λv z=>by rw[d] at z;cases z⟩
 keep:=λi h h' st k=>st.at λo e=>k it (by simp) o e
 item:=by
  intro X hP hw hK hc i pins s σ H E I hf st hg;subst hP hw hK;obtain⟨xs,x,hq,hx⟩:=hg;obtain⟨its,rv,p,hz⟩:=I.tuple hq;obtain⟨u,hu,ru⟩:=rv.get hx;obtain⟨f0,f1,f2,f3,f4,f5⟩:=hf it (by simp);refine EQ st (show s.heap.IsTuple a its.toArray from p) (x:=u) (by simpa using hu) λh' st' sb=>?_;have I1:Inv X pins σ H {s with heap:=h'}:=I.turned (t':=s.toks) (λb o hb e=>(sb.2 b hb).trans e) f0 f1 f3 f4 f5
  obtain⟨o,e,c,d⟩:=id st';exact⟨u,rfl,Lc (s:={s with heap:=h'}) e c d (by decide) ⟨x,H,I1,ru,⟨rfl,λys hy=>by rw[I.tuple_inj hy hq];exact hx⟩,st',λb hb=>(hf b hb).1⟩⟩
 done:=by intro X hP hw hK hc i pins s σ H E I hf st hg;subst hP hw hK;obtain⟨xs,hq,hx⟩:=hg;obtain⟨its,rv,p,hz⟩:=I.tuple hq;obtain⟨f0,f1,f2,f3,f4,f5⟩:=hf it (by simp);have hl:=rv.length;exact Fd (I.ok.hd hc) st (show s.heap.IsTuple a its.toArray from p) (by simp;omega) λh' eb=>⟨rfl,I.turned (t':=s.toks) (λb o hb e=>eb b o hb e) f0 f1 f3 f4 f5⟩
 self:=λ_ _ _ _ _ st h=>wpAny_pyIter_tupleiter st h
theorem VP{tg:Expr}(it:Addr)(lo:Int)(n:Nat):Turn P w K tg (Kq lo n) [it] it (λi h=>IsRangeIter h it (lo+(i:Nat)*1) ((n:Int) - (i:Nat)) 1) where
 mem:=by simp
 obj:=λi h st b hb=>by
  have e:b=it:=by simpa using hb
  subst e;exact⟨_,st,λv z=>by have z':Data.fields _=Data.cell v:=z;cases z'⟩
 keep:=λi h h' st k=>k it (by simp) _ st
 item:=by
  intro X hP hw hK hc i pins s σ H E I hf st hg;subst hP hw hK;obtain⟨f0,f1,f2,f3,f4,f5⟩:=hf it (by simp);have W:=Walks.range (prog:=X.prog) (w:=X.w) (I.ok.hd hc) it lo 1 n;refine W.item i s _ _ hg st λv h' tk hv st' kk=>?_;obtain⟨t,rfl⟩:=hv;have I1:Inv X pins σ H {s with heap:=h',toks:=tk}:=I.turned (λb o hb e=>kk b o (by simpa using hb) e) f0 f1 f3 f4 f5
  refine⟨_,rfl,Lc (s:={s with heap:=h',toks:=tk}) (n:="range_iterator") st' rfl rfl (by decide) ⟨.int (lo+i),H,I1,⟨t,?_⟩,⟨rfl,rfl⟩,st',λb hb=>(hf b hb).1⟩⟩
  rw[Int.mul_one]
 done:=by intro X hP hw hK hc i pins s σ H E I hf st hg;subst hP hw hK;obtain⟨f0,f1,f2,f3,f4,f5⟩:=hf it (by simp);exact wpAny_pyNext_range_end (I.ok.hd hc) st (by have:n≤i:=hg;omega) λh' eb=>⟨rfl,I.turned (t':=s.toks) (λb o hb e=>eb b o hb e) f0 f1 f3 f4 f5⟩
 self:=λ_ _ _ _ _ st h=>wpAny_pyIter_rangeiter st h
section
variable{X:Cx}{tg:Expr}
def Pj(K:Af)(tl:TE):TI:=λσ H R=>tl σ H λx H1=>∃a,x= .ref a∧(∃xs,SqL K H1 a xs)∧R (JZ K a) H1
def OM(K:Af)(tl:TE):TI:=λσ H R=>tl σ H λx H1=>∃a,x= .ref a∧(∃xs,SqT K H1 a xs)∧R (Kp K a) H1
theorem II{l:Expr}{tl:TE}(hl:PE X l tl):PI X tg l (Pj X.K tl):=by
 intro pins s σ H R I h;refine He (hl pins s σ H _ I h) λv s1 ⟨x,H1,I1,r1,q1⟩=>?_;obtain⟨a,e,⟨xs,hq⟩,q⟩:=q1;subst e;cases r1;obtain⟨its,rv,p,hz⟩:=I1.list hq;refine CO p.isList ?_;refine⟨s1.heap.objs.size,[s1.heap.objs.size],_,_,H1,rfl,I1.kept (t':=s1.toks) λb o e=>Ad _ e,VW a _,⟨_,Ai _ rfl,rfl,rfl⟩,λb hb=>?_,q⟩;have e:b=s1.heap.objs.size:=by simpa using hb
 subst e;exact I1.fpOk (Ae _) (I1.hok.fresh (Ae _))
theorem Lg{l:Expr}{tl:TE}(hl:PE X l tl):PI X tg l (OM X.K tl):=by
 intro pins s σ H R I h;refine He (hl pins s σ H _ I h) λv s1 ⟨x,H1,I1,r1,q1⟩=>?_;obtain⟨a,e,⟨xs,hq⟩,q⟩:=q1;subst e;cases r1;obtain⟨its,rv,p,hz⟩:=I1.tuple hq;refine Dq (show s1.heap.IsTuple a its.toArray from p) ?_;refine⟨s1.heap.objs.size,[s1.heap.objs.size],_,_,H1,rfl,I1.kept (t':=s1.toks) λb o e=>Ad _ e,VQ a _,⟨_,Ai _ rfl,rfl,rfl⟩,λb hb=>?_,q⟩;have e:b=s1.heap.objs.size:=by simpa using hb
 subst e;exact I1.fpOk (Ae _) (I1.hok.fresh (Ae _))
theorem Uz{σ:St}{H:Hp}{R:It→Hp→Prop}{E:Value→Shared→Prop}{lo hi:Int}{t u v:Tok}{tk:Nat}(I:Inv X pins σ H s)(h1: -(2^62)≤lo)(h2:lo<2^62)(h3: -(2^62)≤hi)(h4:hi<2^62)
 (q:R (Kq lo (hi - lo).toNat) H):wpAny (model X.prog X.w) X.A (pyIter (.ref s.heap.objs.size)) (Sj X pins σ tg R) E {s with heap:=s.heap.push {cls:= .type "range",data:= .fields #[.int lo t,.int hi u,.int 1 v]},toks:=tk}:=by
 refine wpAny_pyIter_range (IsRange.new ..) (small_one h1 h2 h3 h4) ?_;have I1:Inv X pins σ H {s with heap:=s.heap.push {cls:= .type "range",data:= .fields #[.int lo t,.int hi u,.int 1 v]},toks:=tk}:=I.kept λb o e=>Ad _ e
 refine⟨(s.heap.push {cls:= .type "range",data:= .fields #[.int lo t,.int hi u,.int 1 v]}).objs.size,[(s.heap.push {cls:= .type "range",data:= .fields #[.int lo t,.int hi u,.int 1 v]}).objs.size],_,_,H,rfl,
  I1.kept (t':=tk) λb o e=>Ad _ e,VP _ lo (hi - lo).toNat,?_,λb hb=>?_,q⟩
 · have e1:lo+((0:Nat):Int)*1=lo:=by simp
   have e2:(((hi - lo).toNat:Nat):Int) - ((0:Nat):Int)=ER lo hi 1:=by rw[rangeSize_one];split<;>omega
   show IsRangeIter _ _ (lo+((0:Nat):Int)*1) ((((hi - lo).toNat:Nat):Int) - ((0:Nat):Int)) 1;rw[e1,e2];exact Ai _ rfl
 · have e:b=(s.heap.push {cls:= .type "range",data:= .fields #[.int lo t,.int hi u,.int 1 v]}).objs.size:=by simpa using hb
   subst e;exact I1.fpOk (Ae _) (I1.hok.fresh (Ae _))
def Sz(ta:TA):TI:=λσ H R=>ta σ H λvs H1=>∃j:Int,vs=[.int j]∧ -(2^62)≤j∧j<2^62∧R (Kq 0 j.toNat) H1
theorem JJ{a:Expr}{ta:TA}{p:Pos}(hg:Gl X "range")(hm:X.mg "range"=none)(ha:PA X [a] ta)(hs:Az [a] X.env=[(false,eval a X.env)]:=by rfl):PI X tg (.Call (.Name "range" p) [a] [] pos) (Sz ta):=by
 intro pins s σ H R I h;refine Call_ (IY I hg hm boot_range (Bh (He (ha pos pins s σ H _ I h) λus s1 ⟨vs,H1,I1,r1,q1⟩=>?_) hs rfl));obtain⟨j,e,q1,q2,q⟩:=q1;subst e;cases r1 with
 | cons r rr=> cases rr;obtain⟨t,rfl⟩:=r;exact call_range_1 (Uz I1 (by omega) (by omega) q1 q2 (by simpa using q))
def Ox(wi:TI)(g:TG)(tb:TS):TS:=λD σ H=>wi σ H λJ H1=>∃W:Nat→Nat→St→Hp→Prop,(∃m,W 0 m σ H1)∧∀i m σ H,W i m σ H→
 (J.stop i H∧D.nx σ H)∨(J.go i H∧∃N:St→Hp→Prop,(∀σ' H',N σ' H'→∃m',m'<m∧W (i+1) m' σ' H')∧∀x H',J.yld i H x H'→g x σ H' λσ2 H2=>tb {D with nx:=N,ct:=N,bk:=D.nx} σ2 H2)
def Kx(fp:List Addr)(h:Heap):List (Addr×Obj):=fp.filterMap λb=>(h.get? b).map λo=>(b,o)
theorem Ki{fp:List Addr}{o:Obj}(hb:b∈fp)(e:h.get? b=some o):(b,o)∈Kx fp h:=CI.mpr ⟨b,hb,by rw[e];rfl⟩
theorem Vd{fp:List Addr}{p:Addr×Obj}(hp:p∈Kx fp h):p.1∈fp∧h.get? p.1=some p.2:=by
 obtain⟨b,hb,e⟩:=CI.mp hp;cases q:h.get? b with
 | none=>rw[q] at e;cases e
 | some o=> rw[q] at e;have e':(b,o)=p:=A7 e;subst e';exact⟨hb,q⟩
theorem Inv.pinned{σ:St}{H:Hp}{fp:List Addr}(I:Inv X pins σ H s)(hf:∀b∈fp,Ht X pins H b)(ho:∀b∈fp,∃o,s.heap.get? b=some o∧∀v,o.data≠ .cell v):Inv X (pins++Kx fp s.heap) σ H s:=
 I.pins_of λp hp=>(AM.mp hp).elim (λz=>I.pin p (A6 _ z)) λz=>by obtain⟨hb,e⟩:=Vd z;obtain⟨f0,f1,f2,_⟩:=hf p.1 hb;obtain⟨o,e',d⟩:=ho p.1 hb;rw[e] at e';cases e';exact⟨e,f0,f1,f2,d⟩
theorem Inv.unpinned{pl:List (Addr×Obj)}{σ:St}{H:Hp}(I:Inv X (pins++pl) σ H s):Inv X pins σ H s:=I.pins_of λp hp=>I.pin p (A6 _ (DI _ hp))
theorem Jg{iter:Expr}{body:List Stmt}{wi:TI}{g:TG}{tb:TS}{pos:Pos}(hp:PassesOwn (model X.prog X.w) X.A X.env X.xe)(hc:X.calm=true)(hi:PI X tg iter wi)(hg:PG X tg g)(hb:PSs X body tb)
 (hs:∀x,CP iter X.env x=pure x:=by intro _;rfl):PS X (.For tg iter body [] pos) (Ox wi g tb):=by
 intro pins s σ H D I h;refine wpAny_For (He (hi pins s σ H _ I h) λv s1 h1=>He h1 λitv s2 h2=>?_) hs;obtain⟨it,fp,tn,J,H2,e,I2,T,st2,f2,W,⟨m0,w0⟩,turn⟩:=h2;subst e;have stat:∀{H':Hp},(∀b∈fp,H' b=none)→∀b∈fp,Ht X pins H' b:=λhn b hb=>⟨hn b hb,(f2 b hb).2⟩;refine codeAny_forLoop_any (λn s'=>∃i σ' H',Inv X pins σ' H' s'∧tn i s'.heap∧(∀b∈fp,H' b=none)∧W i n σ' H') ?_ m0 ⟨0,σ,H2,I2,st2,λb hb=>(f2 b hb).1,w0⟩;rintro n s3 ⟨i,σ3,H3,I3,st3,fr3,w3⟩;rcases turn i n σ3 H3 w3 with⟨stop,qn⟩ | ⟨go,N,hN,step⟩
 · refine Di hp (He (T.done X rfl rfl rfl hc i pins s3 σ3 H3 X.xe I3 (stat fr3) st3 stop) λr s4 ⟨hr,I4⟩=>?_);subst hr;exact EX ⟨σ3,H3,I4,qn⟩
 · refine Di hp (He (T.item X rfl rfl rfl hc i pins s3 σ3 H3 X.xe I3 (stat fr3) st3 go) λr s4 ⟨u,hr,h4⟩=>?_);subst hr;refine Di hp (He h4 λ_ s5 ⟨x,H5,I5,r5,y5,st5,fr5⟩=>?_);have I5':=I5.pinned (stat fr5) (T.obj _ _ st5);refine Di hp (He (hg _ s5 σ3 H5 x u _ I5' r5 (step x H5 y5)) λ_ s6 ⟨σ6,H6,I6,q6⟩=>?_);refine Di hp (He (hb _ s6 σ6 H6 _ I6 q6) λf s7 q7=>?_);have again:∀{σ7:St}{H7:Hp},Inv X (pins++Kx fp s5.heap) σ7 H7 s7→N σ7 H7→∃m,m<n∧∃i σ' H',Inv X pins σ' H' s7∧tn i s7.heap∧(∀b∈fp,H' b=none)∧W i m σ' H':=λ{σ7 H7}I7 n7=>by
    obtain⟨m',hm,w7⟩:=hN σ7 H7 n7;refine⟨m',hm,i+1,σ7,H7,I7.unpinned,T.keep _ _ _ st5 λb hb o e=>(I7.pin (b,o) (A6 _ (A6 _ (Ki hb e)))).1,λb hb=>?_,w7⟩;obtain⟨o,e,d⟩:=T.obj _ _ st5 b hb;exact(I7.pin (b,o) (A6 _ (A6 _ (Ki hb e)))).2.1
   cases f with
   | next=>obtain⟨σ7,H7,I7,n7⟩:=q7;exact again I7 n7
   | cont=>obtain⟨σ7,H7,I7,n7⟩:=q7;exact again I7 n7
   | brk=>obtain⟨σ7,H7,I7,q7⟩:=q7;exact⟨σ7,H7,I7.unpinned,q7⟩
   | ret v=>obtain⟨x7,σ7,H7,I7,r7,q7⟩:=q7;exact⟨x7,σ7,H7,I7.unpinned,r7,q7⟩
end
theorem K1{xs:List V}{g:TG}{tb:TS}{D:Ends}{σ:St}{H:Hp}(Pv:Nat→St→Hp→Prop)(h0:Pv 0 σ H)(hl:∀i σ H,i≤xs.length→Pv i σ H→SqL K H a xs)
 (hs:∀i x σ H,xs[i]?=some x→Pv i σ H→g x σ H λσ2 H2=>tb {D with nx:=Pv (i+1),ct:=Pv (i+1),bk:=D.nx} σ2 H2) (hd:∀σ H,Pv xs.length σ H→D.nx σ H):
 ∃W:Nat→Nat→St→Hp→Prop,(∃m,W 0 m σ H)∧∀i m σ H,W i m σ H→
  ((JZ K a).stop i H∧D.nx σ H)∨((JZ K a).go i H∧∃N:St→Hp→Prop,(∀σ' H',N σ' H'→∃m',m'<m∧W (i+1) m' σ' H')∧∀x H',(JZ K a).yld i H x H'→g x σ H' λσ2 H2=>tb {D with nx:=N,ct:=N,bk:=D.nx} σ2 H2):=by
 refine⟨λi m σ H=>m=xs.length - i∧i≤xs.length∧Pv i σ H,⟨xs.length,by simp,Br _,h0⟩,?_⟩;rintro i m σ H ⟨rfl,hi,p⟩;have q:=hl i σ H hi p;by_cases hlt:i<xs.length
 · refine .inr ⟨⟨xs,xs[i],q,by simp[hlt]⟩,Pv (i+1),λσ' H' p'=>⟨xs.length - (i+1),by omega,rfl,hlt,p'⟩,λx H' y=>?_⟩;obtain⟨e,y⟩:=y;subst e;exact hs i x σ _ (y xs q) p
 · have e:i=xs.length:=by omega
   subst e;exact .inl ⟨⟨xs,q,Ae _⟩,hd σ H p⟩
theorem Qh{xs:List V}{g:TG}{tb:TS}{D:Ends}{σ:St}{H:Hp}(Pv:Nat→St→Hp→Prop)(h0:Pv 0 σ H)(hl:∀i σ H,i≤xs.length→Pv i σ H→SqT K H a xs)
 (hs:∀i x σ H,xs[i]?=some x→Pv i σ H→g x σ H λσ2 H2=>tb {D with nx:=Pv (i+1),ct:=Pv (i+1),bk:=D.nx} σ2 H2) (hd:∀σ H,Pv xs.length σ H→D.nx σ H):
 ∃W:Nat→Nat→St→Hp→Prop,(∃m,W 0 m σ H)∧∀i m σ H,W i m σ H→
  ((Kp K a).stop i H∧D.nx σ H)∨((Kp K a).go i H∧∃N:St→Hp→Prop,(∀σ' H',N σ' H'→∃m',m'<m∧W (i+1) m' σ' H')∧∀x H',(Kp K a).yld i H x H'→g x σ H' λσ2 H2=>tb {D with nx:=N,ct:=N,bk:=D.nx} σ2 H2):=by
 refine⟨λi m σ H=>m=xs.length - i∧i≤xs.length∧Pv i σ H,⟨xs.length,by simp,Br _,h0⟩,?_⟩;rintro i m σ H ⟨rfl,hi,p⟩;have q:=hl i σ H hi p;by_cases hlt:i<xs.length
 · refine .inr ⟨⟨xs,xs[i],q,by simp[hlt]⟩,Pv (i+1),λσ' H' p'=>⟨xs.length - (i+1),by omega,rfl,hlt,p'⟩,λx H' y=>?_⟩;obtain⟨e,y⟩:=y;subst e;exact hs i x σ _ (y xs q) p
 · have e:i=xs.length:=by omega
   subst e;exact .inl ⟨⟨xs,q,Ae _⟩,hd σ H p⟩
theorem N5{lo:Int}{n:Nat}{g:TG}{tb:TS}{D:Ends}{σ:St}{H:Hp}(Pv:Nat→St→Hp→Prop)(h0:Pv 0 σ H)
 (hs:∀i σ H,i<n→Pv i σ H→g (.int (lo+i)) σ H λσ2 H2=>tb {D with nx:=Pv (i+1),ct:=Pv (i+1),bk:=D.nx} σ2 H2) (hd:∀σ H,Pv n σ H→D.nx σ H):
 ∃W:Nat→Nat→St→Hp→Prop,(∃m,W 0 m σ H)∧∀i m σ H,W i m σ H→
  ((Kq lo n).stop i H∧D.nx σ H)∨((Kq lo n).go i H∧∃N:St→Hp→Prop,(∀σ' H',N σ' H'→∃m',m'<m∧W (i+1) m' σ' H')∧∀x H',(Kq lo n).yld i H x H'→g x σ H' λσ2 H2=>tb {D with nx:=N,ct:=N,bk:=D.nx} σ2 H2):=by
 refine⟨λi m σ H=>m=n - i∧i≤n∧Pv i σ H,⟨n,by simp,Br _,h0⟩,?_⟩;rintro i m σ H ⟨rfl,hi,p⟩;by_cases hlt:i<n
 · refine .inr ⟨hlt,Pv (i+1),λσ' H' p'=>⟨n - (i+1),by omega,rfl,hlt,p'⟩,λx H' y=>?_⟩;obtain⟨e,y⟩:=y;subst e y;exact hs i σ _ hlt p
 · have e:i=n:=by omega
   subst e;exact .inl ⟨Ae _,hd σ H p⟩
abbrev R2:=V→V→Hp→VK→Prop
def HK(X:Cx)(f:Value→Value→Sem Value)(r:R2):Prop:=
 ∀(pins:List (Addr×Obj))(s:Shared)(σ:St)(H:Hp)(x y:V)(v u:Value)(Q:VK),Inv X pins σ H s→RelV x v→RelV y u→r x y H Q→
  wpAny (model X.prog X.w) X.A (f v u) (EP X pins σ Q) X.xe s
def OV(X:Cx)(f:Value→Sem Value)(r:V→Hp→VK→Prop):Prop:=
 ∀(pins:List (Addr×Obj))(s:Shared)(σ:St)(H:Hp)(x:V)(v:Value)(Q:VK),Inv X pins σ H s→RelV x v→r x H Q→
  wpAny (model X.prog X.w) X.A (f v) (EP X pins σ Q) X.xe s
def I0(X:Cx)(f:Value)(r:List V→Hp→VK→Prop):Prop:=
 ∀(pins:List (Addr×Obj))(s:Shared)(σ:St)(H:Hp)(xs:List V)(us:List Value)(Q:VK),Inv X pins σ H s→Vals xs us→r xs H Q→
  wpAny (model X.prog X.w) X.A (call f us) (EP X pins σ Q) X.xe s
def Lq(r:R2)(ta tb:TE):TE:=λσ H Q=>ta σ H λx H1=>tb σ H1 λy H2=>r x y H2 Q
def XN(r:V→Hp→VK→Prop)(ta:TE):TE:=λσ H Q=>ta σ H λx H1=>r x H1 Q
def rI(C:Int→Int→Prop)(g:Int→Int→V):R2:=λx y H Q=>∃i j,x= .int i∧y= .int j∧C i j∧Q (g i j) H
def JM(g:Int→Int→V):R2:=λx y H Q=>∃i j,x= .int i∧y= .int j∧Q (g i j) H
def rU(g:Int→V):V→Hp→VK→Prop:=λx H Q=>∃i,x= .int i∧Q (g i) H
section
variable{X:Cx}{a b c:Expr}{ta tb tc:TE}
theorem K9(ha:PE X a ta)(hb:PE X b tb){σ:St}{H:Hp}{R:V→V→Hp→Prop}(I:Inv X pins σ H s)
 (h:ta σ H λx H1=>tb σ H1 λy H2=>R x y H2) {Q:Value→Shared→Prop} {f:Value→Value→Sem Value}
 (hf:∀v u s2 x y H2,Inv X pins σ H2 s2→RelV x v→RelV y u→R x y H2→wpAny (model X.prog X.w) X.A (f v u) Q X.xe s2):
 wpAny (model X.prog X.w) X.A (eval a X.env) (λv s₁=>wpAny (model X.prog X.w) X.A (eval b X.env) (λu s₂=>wpAny (model X.prog X.w) X.A (f v u) Q X.xe s₂) X.xe s₁) X.xe s:=by
 refine He (ha pins s σ H _ I h) λv s1 ⟨x,H1,I1,r1,q1⟩=>?_;refine He (hb pins s1 σ H1 _ I1 q1) λu s2 ⟨y,H2,I2,r2,q2⟩=>?_;exact hf v u s2 x y H2 I2 r1 r2 q2
theorem Hi{op:Operator}{r:R2}(ho:HK X (binaryOp op) r)(ha:PE X a ta)(hb:PE X b tb):PE X (.BinOp a op b pos) (Lq r ta tb):=by intro pins s σ H Q I h;exact wpAny_BinOp (K9 ha hb I h λv u s2 x y H2 I2 rx ry q=>ho pins s2 σ H2 x y v u Q I2 rx ry q)
theorem SE{op:UnaryOp}{r:V→Hp→VK→Prop}(ho:OV X (unaryOp op) r)(ha:PE X a ta):PE X (.UnaryOp op a pos) (XN r ta):=by intro pins s σ H Q I h;exact UnaryOp_ (He (ha pins s σ H _ I h) λv s1 ⟨x,H1,I1,r1,q1⟩=>ho pins s1 σ H1 x v Q I1 r1 q1)
theorem L0{f:Value→Value→Sem Value}{C:Int→Int→Prop}{g:Int→Int→Int}
 (rule:∀(i j:Int)(t u:Tok)(s:Shared)(Q:Value→Shared→Prop)(E:Value→Shared→Prop),C i j→Q (.int (g i j) s.toks) {s with toks:=s.toks+1}→wpAny (model X.prog X.w) X.A (f (.int i t) (.int j u)) Q E s):
 HK X f (rI C λi j=> .int (g i j)):=by
 intro pins s σ H x y v u Q I rx ry h;obtain⟨i,j,rfl,rfl,hc,q⟩:=h;obtain⟨t,rfl⟩:=rx;obtain⟨t',rfl⟩:=ry;exact rule i j t t' s _ _ hc ⟨.int (g i j),H,I.tok _,⟨_,rfl⟩,q⟩
theorem Lz{f:Value→Value→Sem Value}{g:Int→Int→Int}
 (rule:∀(i j:Int)(t u:Tok)(s:Shared)(Q:Value→Shared→Prop)(E:Value→Shared→Prop),Q (.int (g i j) s.toks) {s with toks:=s.toks+1}→wpAny (model X.prog X.w) X.A (f (.int i t) (.int j u)) Q E s):
 HK X f (JM λi j=> .int (g i j)):=by
 intro pins s σ H x y v u Q I rx ry h;obtain⟨i,j,rfl,rfl,q⟩:=h;obtain⟨t,rfl⟩:=rx;obtain⟨t',rfl⟩:=ry;exact rule i j t t' s _ _ ⟨.int (g i j),H,I.tok _,⟨_,rfl⟩,q⟩
theorem JN{f:Value→Value→Sem Value}{g:Int→Int→Bool}
 (rule:∀(i j:Int)(t u:Tok)(s:Shared)(Q:Value→Shared→Prop)(E:Value→Shared→Prop),Q (.bool (g i j)) s→wpAny (model X.prog X.w) X.A (f (.int i t) (.int j u)) Q E s):
 HK X f (JM λi j=> .bl (g i j)):=by
 intro pins s σ H x y v u Q I rx ry h;obtain⟨i,j,rfl,rfl,q⟩:=h;obtain⟨t,rfl⟩:=rx;obtain⟨t',rfl⟩:=ry;exact rule i j t t' s _ _ ⟨.bl (g i j),H,I,rfl,q⟩
def CMul(i j:Int):Prop:=(-(2^64)<i∧i<2^64)∨(-(2^64)<j∧j<2^64)
theorem CMul.ok{i j:Int}(h:CMul i j):IntMulOk i j:=by
 rcases h with⟨h1,h2⟩ | ⟨h1,h2⟩
 · exact .of_left (intBits_le_64 h1 h2)
 · exact .of_right (intBits_le_64 h1 h2)
theorem HP:HK X (binaryOp .Add) (JM λi j=> .int (i+j)):=Lz λ_ _ _ _ _ _ _ q=>add_int q
theorem Kb:HK X (binaryOp .Sub) (JM λi j=> .int (i - j)):=Lz λ_ _ _ _ _ _ _ q=>sub_int q
theorem JC:HK X (binaryOp .Mult) (rI CMul λi j=> .int (i*j)):=L0 λ_ _ _ _ _ _ _ hc q=>mul_int q hc.ok
theorem JB:HK X (binaryOp .Mod) (rI (λ_ j=>0<j) λi j=> .int (i%j)):=L0 λi j _ _ _ _ _ hc q=>by have h1:(0:Int)<j:=hc;exact mod_int' (by omega) (by rw[Int.fmod_eq_emod_of_nonneg i (by omega)];exact q)
theorem XM{f:Value→Sem Value}{g:Int→Int}
 (rule:∀(i:Int)(t:Tok)(s:Shared)(Q:Value→Shared→Prop)(E:Value→Shared→Prop),Q (.int (g i) s.toks) {s with toks:=s.toks+1}→wpAny (model X.prog X.w) X.A (f (.int i t)) Q E s):
 OV X f (rU λi=> .int (g i)):=by
 intro pins s σ H x v Q I rx h;obtain⟨i,rfl,q⟩:=h;obtain⟨t,rfl⟩:=rx;exact rule i t s _ _ ⟨.int (g i),H,I.tok _,⟨_,rfl⟩,q⟩
theorem Ut:OV X (unaryOp .USub) (rU λi=> .int (-i)):=XM λ_ _ _ _ _ q=>neg_int q
end
def Ls:V→V→Bool
 | .non,.non=>true | .non,.int _=>true | .int _,.non=>true | .non,.bl _=>true | .bl _,.non=>true | .non,.str _=>true | .str _,.non=>true
 | .int _,.int _=>true | .bl _,.bl _=>true | .str _,.str _=>true | .byt _,.byt _=>true
 | .int _,.str _=>true | .str _,.int _=>true | .bl _,.str _=>true | .str _,.bl _=>true
 | _,_=>false
def XV:R2:=λx y H Q=>Ls x y=true∧Q (.bl (decide (x=y))) H
def XT:R2:=λx y H Q=>Ls x y=true∧Q (.bl (!decide (x=y))) H
theorem Qq{i j:Int}:decide (V.int i=V.int j)=(i==j):=by rw[BO];simp
theorem Pp{i j:Bool}:decide (V.bl i=V.bl j)=(i==j):=by rw[BO];simp
theorem Qe{i j:Str}:decide (V.str i=V.str j)=(i==j):=by rw[BO];simp
theorem Qp{i j:Array UInt8}:decide (V.byt i=V.byt j)=(i.toList==j.toList):=by rw[BO];cases i;cases j;simp
section
variable{X:Cx}{a b c:Expr}{ta tb tc:TE}
theorem HM{σ:St}{H:Hp}{Q:VK}{k k':Bool}(I:Inv X pins σ H s)(q:Q (.bl k) H)(e:k=k'):EP X pins σ Q (.bool k') s:=by subst e;exact⟨.bl k,H,I,rfl,q⟩
theorem IF:HK X (Bq .Eq) XV:=by
 intro pins s σ H x y v u Q I rx ry h;obtain⟨hs,q⟩:=h;cases x with
 | non=>
  cases rx;cases y with
  | non=>cases ry;exact PySem.EqNone.eq_none_none (HM I q (by simp))
  | bl j=>cases ry;exact PySem.EqNone.eq_none_bool (HM I q (by simp))
  | int j=>obtain⟨t',rfl⟩:=ry;exact PySem.EqNone.eq_none_int (HM I q (by simp))
  | str j=>obtain⟨t',rfl⟩:=ry;exact PySem.EqNone.eq_none_str (HM I q (by simp))
  | _=>exact absurd (show false=true from hs) An
 | bl i=>
  cases rx;cases y with
  | non=>cases ry;exact PySem.EqNone.eq_bool_none (HM I q (by simp))
  | bl j=>cases ry;exact eq_bool (HM I q Pp)
  | str j=>obtain⟨t',rfl⟩:=ry;exact PySem.EqMixed.eq_bool_str (HM I q (by simp))
  | _=>exact absurd (show false=true from hs) An
 | int i=>
  obtain⟨t,rfl⟩:=rx;cases y with
  | non=>cases ry;exact PySem.EqNone.eq_int_none (HM I q (by simp))
  | int j=>obtain⟨t',rfl⟩:=ry;exact eq_int (HM I q Qq)
  | str j=>obtain⟨t',rfl⟩:=ry;exact PySem.EqMixed.eq_int_str (HM I q (by simp))
  | _=>exact absurd (show false=true from hs) An
 | str i=>
  obtain⟨t,rfl⟩:=rx;cases y with
  | non=>cases ry;exact PySem.EqNone.eq_str_none (HM I q (by simp))
  | bl j=>cases ry;exact PySem.EqMixed.eq_str_bool (HM I q (by simp))
  | int j=>obtain⟨t',rfl⟩:=ry;exact PySem.EqMixed.eq_str_int (HM I q (by simp))
  | str j=>obtain⟨t',rfl⟩:=ry;exact eq_str (HM I q Qe)
  | _=>exact absurd (show false=true from hs) An
 | byt i=>
  obtain⟨t,rfl⟩:=rx;cases y with
  | byt j=>obtain⟨t',rfl⟩:=ry;exact PySem.W.eq_bytes (HM I q Qp)
  | _=>exact absurd (show false=true from hs) An
 | _=>cases y<;>exact absurd (show false=true from hs) An
theorem Ku:HK X (Bq .NotEq) XT:=by
 intro pins s σ H x y v u Q I rx ry h;obtain⟨hs,q⟩:=h;cases x with
 | non=>
  cases rx;cases y with
  | non=>cases ry;exact PySem.EqNone.ne_none_none (HM I q (by simp))
  | bl j=>cases ry;exact PySem.EqNone.ne_none_bool (HM I q (by simp))
  | int j=>obtain⟨t',rfl⟩:=ry;exact PySem.EqNone.ne_none_int (HM I q (by simp))
  | str j=>obtain⟨t',rfl⟩:=ry;exact PySem.EqNone.ne_none_str (HM I q (by simp))
  | _=>exact absurd (show false=true from hs) An
 | bl i=>
  cases rx;cases y with
  | non=>cases ry;exact PySem.EqNone.ne_bool_none (HM I q (by simp))
  | bl j=>cases ry;exact ne_bool (HM I q (congrArg not Pp))
  | str j=>obtain⟨t',rfl⟩:=ry;exact PySem.EqMixed.ne_bool_str (HM I q (by simp))
  | _=>exact absurd (show false=true from hs) An
 | int i=>
  obtain⟨t,rfl⟩:=rx;cases y with
  | non=>cases ry;exact PySem.EqNone.ne_int_none (HM I q (by simp))
  | int j=>obtain⟨t',rfl⟩:=ry;exact ne_int (HM I q (congrArg not Qq))
  | str j=>obtain⟨t',rfl⟩:=ry;exact PySem.EqMixed.ne_int_str (HM I q (by simp))
  | _=>exact absurd (show false=true from hs) An
 | str i=>
  obtain⟨t,rfl⟩:=rx;cases y with
  | non=>cases ry;exact PySem.EqNone.ne_str_none (HM I q (by simp))
  | bl j=>cases ry;exact PySem.EqMixed.ne_str_bool (HM I q (by simp))
  | int j=>obtain⟨t',rfl⟩:=ry;exact PySem.EqMixed.ne_str_int (HM I q (by simp))
  | str j=>obtain⟨t',rfl⟩:=ry;exact ne_str (HM I q (congrArg not Qe))
  | _=>exact absurd (show false=true from hs) An
 | byt i=>
  obtain⟨t,rfl⟩:=rx;cases y with
  | byt j=>obtain⟨t',rfl⟩:=ry;exact PySem.W.ne_bytes (HM I q (congrArg not Qp))
  | _=>exact absurd (show false=true from hs) An
 | _=>cases y<;>exact absurd (show false=true from hs) An
theorem LQ:HK X (Bq .Lt) (JM λi j=> .bl (decide (i<j))):=JN λ_ _ _ _ _ _ _ q=>lt_int q
theorem Jz:HK X (Bq .LtE) (JM λi j=> .bl (decide (i≤j))):=JN λ_ _ _ _ _ _ _ q=>le_int q
theorem KI:HK X (Bq .Gt) (JM λi j=> .bl (decide (j<i))):=JN λ_ _ _ _ _ _ _ q=>gt_int q
theorem SC:HK X (Bq .GtE) (JM λi j=> .bl (decide (j≤i))):=JN λ_ _ _ _ _ _ _ q=>ge_int q
theorem Vg:HK X (Bq .Lt) (λx y H Q=>∃i j,x= .str i∧y= .str j∧Q (.bl (decide (i.cps.toList<j.cps.toList))) H):=by intro pins s σ H x y v u Q I rx ry h;obtain⟨i,j,rfl,rfl,q⟩:=h;obtain⟨t,rfl⟩:=rx;obtain⟨t',rfl⟩:=ry;exact lt_str (HM I q rfl)
theorem Hz(b:Expr){op:CmpOp}(h:op≠ .In:=by decide)(h2:op≠ .NotIn:=by decide):behindInMarks op b=false:=by
 have e1:(op==CmpOp.In)=false:=by cases op<;>first | rfl | exact absurd rfl h
 have e2:(op==CmpOp.NotIn)=false:=by cases op<;>first | rfl | exact absurd rfl h2
 cases b<;>simp[behindInMarks,e1,e2]
theorem J6{op:CmpOp}{r:R2}(ho:HK X (Bq op) r)(ha:PE X a ta)(hb:PE X b tb)(hm:behindInMarks op b=false):PE X (.Compare a [op] [b] pos) (Lq r ta tb):=by intro pins s σ H Q I h;exact wpAny_Compare1 (K9 ha hb I h λv u s2 x y H2 I2 rx ry q=>ho pins s2 σ H2 x y v u Q I2 rx ry q) hm
def P6(t:TE):TT:=λσ H Q=>t σ H λx H'=>∃k,x= .bl k∧Q k H'
theorem HI{op:CmpOp}{r:R2}(ho:HK X (Bq op) r)(ha:PE X a ta)(hb:PE X b tb)(hm:behindInMarks op b=false):PT X (.Compare a [op] [b] pos) (P6 (Lq r ta tb)):=by intro pins s σ H Q I h;refine wpAny_isTrue_Compare1 (He (ha pins s σ H _ I h) λv s1 ⟨x,H1,I1,r1,q1⟩=>He (hb pins s1 σ H1 _ I1 q1) λu s2 ⟨y,H2,I2,r2,q2⟩=> He (ho pins s2 σ H2 x y v u _ I2 r1 r2 q2) λc s3 ⟨z,H3,I3,r3,k,e,q3⟩=>?_) hm;subst e;cases r3;exact Be ⟨H3,I3,q3⟩
def PU(r r':R2)(ta tb tc:TE):TE:=λσ H Q=>ta σ H λx H1=>tb σ H1 λy H2=>r x y H2 λz H3=>∃k,z= .bl k∧
 (if k=true then tc σ H3 λw' H4=>r' y w' H4 Q else Q (.bl false) H3)
theorem Nq{op op':CmpOp}{r r':R2}(ho:HK X (Bq op) r)(ho':HK X (Bq op') r')(ha:PE X a ta)(hb:PE X b tb)(hc:PE X c tc)
 (hm:lastMarks [op,op'] [b,c]=false:=by with_unfolding_all rfl):PE X (.Compare a [op,op'] [b,c] pos) (PU r r' ta tb tc):=by
 intro pins s σ H Q I h;refine Compare_chain (He (ha pins s σ H _ I h) λv s1 ⟨x,H1,I1,r1,q1⟩=>chain_link (He (hb pins s1 σ H1 _ I1 q1) λu s2 ⟨y,H2,I2,r2,q2⟩=> He (ho pins s2 σ H2 x y v u _ I2 r1 r2 q2) λd s3 ⟨z,H3,I3,r3,k,e,q3⟩=>?_)) hm;subst e;cases r3;refine Be ?_;cases k with
 | false=>exact ite_ff ⟨.bl false,H3,I3,rfl,q3⟩
 | true=>exact ite_tt (chain_last (He (hc pins s3 σ H3 _ I3 q3) λw' s4 ⟨z',H4,I4,r4,q4⟩=>ho' pins s4 σ H4 y z' u w' Q I4 r2 r4 q4))
theorem Uy{op op':CmpOp}{r r':R2}(ho:HK X (Bq op) r)(ho':HK X (Bq op') r')(ha:PE X a ta)(hb:PE X b tb)(hc:PE X c tc)
 (hm:lastMarks [op,op'] [b,c]=false:=by with_unfolding_all rfl):PT X (.Compare a [op,op'] [b,c] pos) (P6 (PU r r' ta tb tc)):=by
 intro pins s σ H Q I h;refine isTrue_chain (He (ha pins s σ H _ I h) λv s1 ⟨x,H1,I1,r1,q1⟩=>test_link (He (hb pins s1 σ H1 _ I1 q1) λu s2 ⟨y,H2,I2,r2,q2⟩=> He (ho pins s2 σ H2 x y v u _ I2 r1 r2 q2) λd s3 ⟨z,H3,I3,r3,k,e,q3⟩=>?_)) hm;subst e;cases r3;refine Be ?_;cases k with
 | false=> obtain⟨k',e',q'⟩:=q3;cases e';exact ite_ff ⟨H3,I3,q'⟩
 | true=> refine ite_tt (test_last (He (hc pins s3 σ H3 _ I3 q3) λw' s4 ⟨z',H4,I4,r4,q4⟩=>He (ho' pins s4 σ H4 y z' u w' _ I4 r2 r4 q4) λd' s5 ⟨z2,H5,I5,r5,k2,e2,q5⟩=>?_));subst e2;cases r5;exact Be ⟨H5,I5,q5⟩
theorem KM:(As:Nat)<2^63:=by rw[sizeLine_eq];decide
theorem Mi:HK X (binaryOp .Add) (λx y H Q=>∃i j,x= .str i∧y= .str j∧i.length+j.length≤As∧Q (.str (i++j)) H):=by intro pins s σ H x y v u Q I rx ry h;obtain⟨i,j,rfl,rfl,hz,q⟩:=h;obtain⟨t,rfl⟩:=rx;obtain⟨t',rfl⟩:=ry;exact add_str (λt' tk=>⟨.str (i++j),H,I.tok _,⟨_,rfl⟩,q⟩) hz
theorem IW{x:V}(r:Vals [x] us):∃u,us=[u]∧RelV x u:=by
 cases r with
 | cons r1 r2=>cases r2;exact⟨_,rfl,r1⟩
theorem KJ{x y:V}(r:Vals [x,y] us):∃u w',us=[u,w']∧RelV x u∧RelV y w':=by
 cases r with
 | cons r1 r2=>
  cases r2 with
  | cons r3 r4=>cases r4;exact⟨_,_,rfl,r1,r3⟩
theorem Nw:I0 X (.builtin "abs") (λxs H Q=>∃i,xs=[.int i]∧Q (.int (if i<0 then -i else i)) H):=by intro pins s σ H xs us Q I r h;obtain⟨i,rfl,q⟩:=h;obtain⟨u,rfl,t,rfl⟩:=IW r;exact call_abs_int λu tk=>⟨.int (if i<0 then -i else i),H,I.tok _,⟨_,rfl⟩,q⟩
theorem V0(hc:X.calm=true):I0 X (.builtin "max") (λxs H Q=>∃i j,xs=[.int i,.int j]∧Q (.int (if j>i then j else i)) H):=by
 intro pins s σ H xs us Q I r h;obtain⟨i,j,rfl,q⟩:=h;obtain⟨u,w',rfl,⟨t,rfl⟩,⟨t',rfl⟩⟩:=KJ r;refine max_two_ints (I.ok.hd hc) λh' tk k=>⟨_,H,I.kept k,?_,q⟩;by_cases hj:j>i
 · rw[if_pos hj,if_pos hj];exact⟨_,rfl⟩
 · rw[if_neg hj,if_neg hj];exact⟨_,rfl⟩
theorem N2(hc:X.calm=true):I0 X (.builtin "min") (λxs H Q=>∃i j,xs=[.int i,.int j]∧Q (.int (if j<i then j else i)) H):=by
 intro pins s σ H xs us Q I r h;obtain⟨i,j,rfl,q⟩:=h;obtain⟨u,w',rfl,⟨t,rfl⟩,⟨t',rfl⟩⟩:=KJ r;refine min_two_ints (I.ok.hd hc) λh' tk k=>⟨_,H,I.kept k,?_,q⟩;by_cases hj:j<i
 · rw[if_pos hj,if_pos hj];exact⟨_,rfl⟩
 · rw[if_neg hj,if_neg hj];exact⟨_,rfl⟩
end
structure ObjM(h:Heap)(x dx C:Addr)(mA:Str→Option Value):Prop where
 obj:h.get? x=some (EW C dx)
 ns:h.Ns1 dx mA
 ne:dx≠x
theorem Vb{dx:Addr}{mA:Str→Option Value}(n:h.Ns1 dx mA):∃od,h.get? dx=some od∧∀name,Fn name od=some (mA name):=by
 obtain⟨o,es,ep,ho,hd,hk,_,hm⟩:=n;refine⟨o,ho,λname=>?_⟩;have e:=hm name;unfold nsFind findBy at e;rw[←Array.find?_toList] at e;unfold Fn;rw[hd];dsimp only
 split
 · rename_i y q;rw[q] at e;exact congrArg some e
 · rename_i q;rw[q] at e;have a:es.toList.any (·.refKey)=false:=by
    rw[List.any_eq_false];intro y hy;obtain⟨z,t,hkey⟩:=hk y (Da.mp hy);simp[DictEntry.refKey,hkey]
   have a':¬es.toList.any (·.refKey)=true:=by rw[a];exact An
   rw[if_neg a'];exact congrArg some e
theorem ObjM.look{x dx C:Addr}{mA:Str→Option Value}(I:ObjM h x dx C mA):∃od,PySem.W.InstAt h x (EW C dx) C (some od)∧∀name,Fn name od=some (mA name):=
 let⟨od,ho,hl⟩:=Vb I.ns
 ⟨od,⟨I.obj,rfl,rfl,ho⟩,hl⟩
section
variable{x dx C f:Addr}{mA:Str→Option Value}{name:Str}{v:Value}
end
theorem RelO.some_of{v:V}{o:Option Value}(r:RelO (some v) o):∃u,o=some u∧RelV v u:=by
 cases o with
 | none=>exact(show False from r).elim
 | some u=>exact⟨u,rfl,r⟩
section
variable{H H':Hp}{h':Heap}{C dx:Addr}{fs fs':List (Str×V)}
theorem Ud(hok:HOk P w H h)(e:H a=some (.ins C dx fs)):∃mA,ObjM h a dx C mA∧(∀f,RelO (fs.lookup f) (mA f))∧PySem.Within mA (fs.map (·.1))∧fs.length≤1000∧H dx=some (.own a):=by obtain⟨d,z,ne,ob,mA,n,r,q⟩:=(show ObjOk P w H h a (.ins C dx fs) from hok a _ e);exact⟨mA,⟨ob,n,ne⟩,r,q,z,d⟩
end
structure Cls(K:Af)(C:Addr):Prop where
 pg:PySem.W.plainGet K C Str.empty=true
 hd:PySem.W.hasDictIn K C=true
 po:PySem.W.plainOver K C=true
 sa:PySem.W.findIn K (.ref C) "__setattr__"=some (some (.builtin "object.__setattr__"))
theorem Cls.get{C:Addr}(c:Cls K C)(f:Str):PySem.W.plainGet K C f=true:=c.pg
section
variable{X:Cx}{σ:St}{H:Hp}{C dx:Addr}{fs:List (Str×V)}{f:Str}{v:V}
end
section
variable{X:Cx}{o value:Expr}{f:Str}{pos' tpos:Pos}{ta tv:TE}
end
section
variable{X:Cx}{σ:St}{H:Hp}{Q:Value→Shared→Prop}{c:Value}{b:Bool}
inductive TyOf(K:Af)(H:Hp):V→Value→Prop where
 | non:TyOf K H .non (.type "NoneType")
 | bl (x:Bool):TyOf K H (.bl x) (.type "bool")
 | int (i:Int):TyOf K H (.int i) (.type "int")
 | str (x:Str):TyOf K H (.str x) (.type "str")
 | flt (x:UInt64):TyOf K H (.flt x) (.type "float")
 | lst {a:Addr} {xs:List V} (e:H a=some (.lst xs)):TyOf K H (.ref a) (.type "list")
 | frz {a:Addr} {o:Obj} {xs:List V} (e:H a=some (.frz o (.lst xs))):TyOf K H (.ref a) (.type "list")
 | tup {a:Addr} {xs:List V} (e:H a=some (.tup xs)):TyOf K H (.ref a) (.type "tuple")
 | dK {a:Addr} {kvs:List (Hs×V)} (e:H a=some (.dK kvs)):TyOf K H (.ref a) (.type "dict")
 | dT {a:Addr} {kvs:List (List Hs×V)} (e:H a=some (.dT kvs)):TyOf K H (.ref a) (.type "dict")
 | ins {a C dx:Addr} {fs:List (Str×V)} (e:H a=some (.ins C dx fs)) (cl:Cls K C) (ha:PySem.W.findIn K (.ref C) "__class__"=some (some (.builtin "object.__class__")))
  (hn:PySem.W.specialIn K (.builtin "object.__class__") "__get__"=some (some (.builtin "getset_descriptor.__get__"))) (htk:PySem.W.takesIn K (.builtin "object.__class__")=some true)
  (hm:PySem.W.mroIn K C (.type "object")=some true):TyOf K H (.ref a) (.ref C)
theorem Vw{x:V}{t:Value}(I:Inv X pins σ H s)(rx:RelV x u)(ty:TyOf X.K H x t)(e:PySem.W.kitOne X.K t c=some b)(h:∀tk,Q (.bool b) {s with toks:=tk}):
 wpAny (model X.prog X.w) A (call (.builtin "isinstance") [u,c]) Q E s:=by
 cases ty with
 | non=>cases(show u=Value.none from rx);exact BE PySem.W.kitx_none I.kIn True.intro e (λz=>nomatch z) h
 | bl y=>cases(show u=Value.bool y from rx);exact BE PySem.W.kitx_bool I.kIn True.intro e (λz=>nomatch z) h
 | int i=>obtain⟨t,q⟩:=(show ∃t,u=Value.int i t from rx);cases q;exact BE PySem.W.kitx_int I.kIn True.intro e (λz=>nomatch z) h
 | str y=>obtain⟨t,q⟩:=(show ∃t,u=Value.str y t from rx);cases q;exact BE PySem.W.kitx_str I.kIn True.intro e (λz=>nomatch z) h
 | flt y=>obtain⟨t,q⟩:=(show ∃t,u=Value.float y t from rx);cases q;exact BE PySem.W.kitx_float I.kIn True.intro e (λz=>nomatch z) h
 | @lst a xs ea=> cases(show u=Value.ref a from rx);obtain⟨_,_,n,_,h1⟩:=(show ObjOk X.prog X.w H s.heap a (.lst xs) from I.hok a _ ea);exact BE Dx I.kIn ⟨_,h1,rfl⟩ e (λz=>nomatch z) h
 | @frz a ob xs ea=> cases(show u=Value.ref a from rx);obtain⟨_,_,_,n,_,h1⟩:=(show ObjOk X.prog X.w H s.heap a (.frz ob (.lst xs)) from I.hok a _ ea);exact BE Dx I.kIn ⟨_,h1,rfl⟩ e (λz=>nomatch z) h
 | @tup a xs ea=> cases(show u=Value.ref a from rx);obtain⟨_,_,_,p⟩:=(show ObjOk X.prog X.w H s.heap a (.tup xs) from I.hok a _ ea);obtain⟨o,h1,h2,_⟩:=p;exact BE PySem.W.kitx_tuple I.kIn ⟨o,h1,h2⟩ e (λz=>nomatch z) h
 | @dK a kvs ea=> cases(show u=Value.ref a from rx);obtain⟨_,_,vs,_,p⟩:=(show ObjOk X.prog X.w H s.heap a (.dK kvs) from I.hok a _ ea);obtain⟨o,es,ep,h1,h2,_⟩:=p;exact BE Dy I.kIn ⟨o,h1,h2.1⟩ e (λz=>nomatch z) h
 | @dT a kvs ea=> cases(show u=Value.ref a from rx);obtain⟨_,_,xs,_,o,es,ep,h1,h2,_⟩:=(show ObjOk X.prog X.w H s.heap a (.dT kvs) from I.hok a _ ea);exact BE Dy I.kIn ⟨o,h1,h2.1⟩ e (λz=>nomatch z) h
 | @ins a C dx fs ea cl ha hn htk hm=> cases(show u=Value.ref a from rx);obtain⟨mA,O,_⟩:=Ud I.hok ea;obtain⟨od,J,_⟩:=O.look;exact BE (PySem.W.kitx_own (cl.get _) cl.hd ha hn htk hm) I.kIn J e (λz=>nomatch z) h
end
structure Room(k:Nat)(A:BB):Prop where
 hd:A.handled=none
 dp:A.depth+3*k+5<recursionLimit
 un:A.units+16*k+200<cLine
 gd:A.guards=some []
theorem Room.mono{j k:Nat}(r:Room k A)(h:j≤k):Room j A:=⟨r.hd,by have:=r.dp;omega,by have:=r.un;omega,r.gd⟩
theorem Room.deeper{k:Nat}(r:Room (k+1) A)(env:Env):Room k (A.deeper env):=
 ⟨r.hd,by have:=r.dp;show A.depth+1+3*k+5<_;omega,by have:=r.un;show A.units+3+16*k+200<_;omega,r.gd⟩
theorem Room.depth{k:Nat}(r:Room k A):A.depth<recursionLimit:=by have:=r.dp;omega
theorem Room.units{k:Nat}(r:Room k A):A.units+64<cLine:=by have:=r.un;omega
def Ot:TA:=λ_ H Q=>Q [] H
def T4(ta:TE)(tr:TA):TA:=λσ H Q=>ta σ H λx H1=>tr σ H1 λxs H2=>Q (x::xs) H2
section
variable{X:Cx}{es:List Expr}{te:TE}{t:TA}
theorem GX:PA X [] Ot:=λ_ _ _ _ H Q I h=>CQ ⟨[],H,I,.nil,h⟩
theorem GW(ha:PE X e te)(hr:PA X es t)(hs:Az (e::es) X.env=(false,eval e X.env)::Az es X.env:=by rfl):PA X (e::es) (T4 te t):=by intro pos pins s σ H Q I h;rw[hs];show wpAny _ _ (spliced ((false,eval e X.env)::backTo pos (Az es X.env))) _ _ s;refine CJ (He (ha pins s σ H _ I h) λu s1 ⟨x,H1,I1,r1,q1⟩=>?_);exact He (hr pos pins s1 σ H1 _ I1 q1) λus s2 ⟨xs,H2,I2,r2,q2⟩=>⟨x::xs,H2,I2,.cons r1 r2,q2⟩
def Oo(t:TA):TE:=λσ H Q=>t σ H λxs H1=>xs.length≤As∧∀p,H1 p=none→Q (.ref p) (GY H1 p (.tup xs))
def Ou(t:TA):TE:=λσ H Q=>t σ H λxs H1=>xs.length≤As∧∀p,H1 p=none→Q (.ref p) (GY H1 p (.lst xs))
theorem Iu{x1}(h:PA X es t):PE X (.Tuple es x1 pos) (Oo t):=by intro pins s σ H Q I hq;refine wpAny_Tuple_spliced (He (h pos pins s σ H _ I hq) λus s1 ⟨xs,H1,I1,r,z,q⟩=>⟨by rw[←r.length];exact z,?_⟩);have hf:H1 s1.heap.objs.size=none:=I1.hok.fresh (Ae _);refine⟨.ref s1.heap.objs.size,GY H1 s1.heap.objs.size (.tup xs),I1.laid (t':=s1.toks) (λb u e=>Ad _ e) (Ae _) ?_,rfl,q _ hf⟩;exact⟨z,us,r,⟨_,Ai _ rfl,rfl,rfl,_,rfl⟩⟩
theorem Il(h:PA X es t):PE X (.List es pos) (Ou t):=by intro pins s σ H Q I hq;refine wpAny_List_spliced (He (h pos pins s σ H _ I hq) λus s1 ⟨xs,H1,I1,r,z,q⟩=>⟨by rw[←r.length];exact z,?_⟩);have hf:H1 s1.heap.objs.size=none:=I1.hok.fresh (Ae _);refine⟨.ref s1.heap.objs.size,GY H1 s1.heap.objs.size (.lst xs),I1.laid (t':=s1.toks) (λb u e=>Ad _ e) (Ae _) ?_,rfl,q _ hf⟩;exact⟨z,us,0,r,Ai _ rfl⟩
end
abbrev Sp:=List V→Hp→VK→XK→Prop
abbrev Jw:=List Env→Hp→Shared→XK→Value→Shared→Prop
structure Env0(P:Bb)(w:World)(K:Af)(mg:Str→Option Value)(base:Heap)(A:BB)(outer:List Env)(s:Shared)(H:Hp):Prop where
 frames:A.frames=some outer
 mod:Mod K mg base
 bs:∀b o,base.get? b=some o→s.heap.get? b=some o∧H b=none
 bsz:base.objs.size≤s.heap.objs.size
 funs:s.heap.FunFrames base outer
 frf:∀b∈Jv outer,H b=none
 hok:HOk P w H s.heap
 bare:AllBare s.gens
def CE(outer:List Env)(P:Bb)(w:World)(H:Hp)(s:Shared)(Q:VK)(u:Value)(s':Shared):Prop:=
 ∃v H',s'.os=s.os∧AllBare s'.gens∧Un (Jv outer) [] H H' s.heap s'.heap∧HOk P w H' s'.heap∧RelV v u∧Q v H'
def CR(CX:Jw)(outer:List Env)(P:Bb)(w:World)(H:Hp)(s:Shared)(Q:VK)(E:XK)(r:Result)(s':Shared):Prop:=
 match r with
 | .ok (.ret u)=>CE outer P w H s Q u s'
 | .ok _=>False
 | .error e=>CX outer H s E e s'
structure FnOk(P:Bb)(w:World)(K:Af)(mg:Str→Option Value)(base:Heap)(CX:Jw)(k:Nat)(f:Addr)(fd:Bv)(ps:List Str)(sp:Sp):Prop where
 len:∀vs H Q E,sp vs H Q E→vs.length=ps.length
 run:∀(A:BB)(outer:List Env)(s:Shared)(H:Hp)(args:Args)(us:List Value)(vs:List V)(Q:VK)(E:XK),Room k A→Env0 P w K mg base A outer s H→BindsTo s fd args (ps.zip us)→Vals vs us→sp vs H Q E→
  codeAny (model P w) A (.call (.ref f) args) (CR CX outer P w H s Q E) s
section
variable{X:Cx}{σ:St}{H:Hp}{s':Shared}
theorem Inv.env0(I:Inv X pins σ H s):Env0 X.prog X.w X.K X.mg X.base X.A X.stack s H:=
 ⟨I.ok.frames,I.ok.mod,I.bs,AF I.ok.bsz I.sz,I.stack,I.stkFree,I.hok,I.bare⟩
theorem Inv.after{Q:VK}(I:Inv X pins σ H s)(h:CE X.stack X.prog X.w H s Q u s'):EP X pins σ Q u s':=by obtain⟨v,H',os,bare,un,hok,r,q⟩:=h;obtain⟨hh,g,d,t,os'⟩:=s';obtain rfl:os'=s.os:=os;exact⟨v,H',I.call (h':=hh) (g':=g) (d':=d) (t':=t) (ch:=[]) un hok bare (λb z=>absurd z (by simp)),r,q⟩
end
def Pf(sp:Sp)(dvs:List V)(E:XK)(t:TA):TE:=λσ H Q=>t σ H λvs H1=>sp (vs++dvs) H1 Q E
def Binds(K:Af)(fd:Bv)(ps:List Str)(ds:List Value):Prop:=
 ∀(s:Shared)(us:List Value),K.In s.heap→(us++ds).length=ps.length→BindsTo s fd ⟨us,[]⟩ (ps.zip (us++ds))
theorem Binds.all{fd:Bv}{ps:List Str}(h:∀us:List Value,us.length=ps.length→bindArgs fd ⟨us,[]⟩=pure (ps.zip us)):Binds K fd ps []:=λs us _ hl=>by rw[CK] at hl ⊢;exact .of_eq (h us hl)
def MI(CX:Jw)(X:Cx)(E:XK):Prop:=∀(pins:List (Addr×Obj))(σ:St)(H:Hp)(s:Shared)(e:Value)(s':Shared),Inv X pins σ H s→CX X.stack H s E e s'→X.xe e s'
section
variable{X:Cx}{CX:Jw}{k:Nat}{f C:Addr}{fd:Bv}{ps:List Str}{sp:Sp}{dvs:List V}{ds:List Value}{E:XK}{x m:Str}{p apos:Pos}{o:Expr}{es:List Expr}{ta:TE}{t:TA}
theorem SZ{pins:List (Addr×Obj)}{σ:St}{H:Hp}{s:Shared}{Q:VK}{us:List Value}{vs:List V}(F:FnOk X.prog X.w X.K X.mg X.base CX k f fd ps sp)(hr:Room k X.A)(hb:Binds X.K fd ps ds)(hd:Vals dvs ds)(hx:MI CX X E)
 (I:Inv X pins σ H s) (r:Vals vs us) (h:sp (vs++dvs) H Q E):wpAny (model X.prog X.w) X.A (call (.ref f) us) (EP X pins σ Q) X.xe s:=by
 have r2:Vals (vs++dvs) (us++ds):=r.append hd;have hl:(us++ds).length=ps.length:=by rw[←r2.length];exact F.len _ _ _ _ h
 refine EC (Cd (F.run X.A X.stack s H ⟨us,[]⟩ (us++ds) (vs++dvs) Q E hr I.env0 (hb s us I.kIn hl) r2 h) λr s' hq=>?_);cases r with
 | error e=>exact hx pins σ H s e s' I hq
 | ok fl=>
  cases fl with
  | ret u=>exact I.after hq
  | next=>exact C4 hq
  | brk=>exact C4 hq
  | cont=>exact C4 hq
theorem Ul(F:FnOk X.prog X.w X.K X.mg X.base CX k f fd ps sp)(hr:Room k X.A)(hg:Gl X x)(hm:X.mg x=some (.ref f))(hk:D_ X.K (.ref f)=true)(hb:Binds X.K fd ps ds)(hd:Vals dvs ds)(hx:MI CX X E)
 (ha:PA X (e::es) t) (hdb:(x==("__debug__":Str))=false:=by decide) (he:Az (e::es) X.env=(false,eval e X.env)::Az es X.env:=by rfl) (hpl:(backTo pos (Az es X.env)).any (·.1)=false:=by rfl):
 PE X (.Call (.Name x p) (e::es) [] pos) (Pf sp dvs E t):=by
 intro pins s σ H Q I h;refine Bi (Qm I hg hm ?_ hdb);refine PySem.W.callWith_K (h₀:=X.base) I.ok.mod.kin hk (He (ha pos pins s σ H _ I h) λus s1 ⟨vs,H1,I1,r,q⟩=>⟨I1.kIn,?_⟩) he hpl;exact SZ F hr hb hd hx I1 r q
end
section
variable{X:Cx}{CX:Jw}{k:Nat}{f C:Addr}{fd:Bv}{ps ks:List Str}{sp:Sp}{E:XK}{x m:Str}{p apos kpos:Pos}{o:Expr}{es:List Expr}{kws:List Keyword}{te ta:TE}{t tk:TA}{nm:Option Str}
variable{g:List Value→List Value→List Value}{gV:List V→List V→List V}
end
structure FnScope(N P:List Str)(sc:Scope):Prop where
 kind:sc.kind= .function
 co:sc.isCoroutine=false
 gen:sc.isGenerator=false
 nd:N.Nodup
 pre:N.take P.length=P
 par:∀x∈P,sc.names.lookup x=some .local∨sc.names.lookup x=some .cell
 nofree:∀y∈sc.names,y.2≠ .free
theorem Rq{kindOf:Str→Option NameKind}{x:Str}:∀{binds:List (Str×Value)}{m:Str→Option Value},(∀v,(x,v) ∉ binds)→bindL kindOf binds m x=m x
 | [],_,_=>rfl
 | (n,v)::r,m,h=>by
  unfold bindL;rw[Rq λw hw=>h w (Ao _ hw)]
  split
  · have:x≠n:=by rintro rfl;exact h v Ar
    simp[this]
  · rfl
theorem Ro{kindOf:Str→Option NameKind}{x:Str}:∀{binds:List (Str×Value)}{m:Str→Option Value},(∀v,(x,v) ∉ binds)→bindC kindOf binds m x=m x
 | [],_,_=>rfl
 | (n,v)::r,m,h=>by
  unfold bindC;rw[Ro λw hw=>h w (Ao _ hw)]
  split
  · rfl
  · have:x≠n:=by rintro rfl;exact h v Ar
    simp[this]
theorem Rp{kindOf:Str→Option NameKind}{x:Str}{v:Value}:∀{P:List Str}{vs:List Value}{i:Nat}{m:Str→Option Value},P.Nodup→P[i]?=some x→vs[i]?=some v→kindOf x=some .local→
 bindL kindOf (P.zip vs) m x=some v
 | [],_,_,_,_,h,_,_=>by simp at h
 | _::_,[],_,_,_,_,h,_=>by simp at h
 | p::P,w::vs,0,m,nd,h1,h2,hk=>by simp at h1 h2;subst h1;subst h2;show bindL kindOf ((p,w)::P.zip vs) m p=_;unfold bindL;rw[Rq λv hv=>(DJ.mp nd).1 (EY hv).1,if_pos hk];simp
 | p::P,w::vs,i+1,m,nd,h1,h2,hk=>by show bindL kindOf ((p,w)::P.zip vs) m x=_;unfold bindL;exact Rp (i:=i) (DJ.mp nd).2 (by simpa using h1) (by simpa using h2) hk
theorem Rn{kindOf:Str→Option NameKind}{x:Str}{v:Value}:∀{P:List Str}{vs:List Value}{i:Nat}{m:Str→Option Value},P.Nodup→P[i]?=some x→vs[i]?=some v→kindOf x≠some .local→
 bindC kindOf (P.zip vs) m x=some v
 | [],_,_,_,_,h,_,_=>by simp at h
 | _::_,[],_,_,_,_,h,_=>by simp at h
 | p::P,w::vs,0,m,nd,h1,h2,hk=>by simp at h1 h2;subst h1;subst h2;show bindC kindOf ((p,w)::P.zip vs) m p=_;unfold bindC;rw[Ro λv hv=>(DJ.mp nd).1 (EY hv).1,if_neg hk];simp
 | p::P,w::vs,i+1,m,nd,h1,h2,hk=>by show bindC kindOf ((p,w)::P.zip vs) m x=_;unfold bindC;exact Rn (i:=i) (DJ.mp nd).2 (by simpa using h1) (by simpa using h2) hk
def start(N:List Str)(vs:List V):St:=vs.map some++AA (N.length - vs.length) none
def Ja(CX:Jw)(P:Bb)(w:World)(K:Af)(mg:Str→Option Value)(base:Heap)(N:List Str)(qual:Str)(scope:Scope)(f:Addr)(cd:Value)(A:BB)(outer:List Env)(s:Shared)(H:Hp)(E:XK):Cx where
 prog:=P
 w:=w
 K:=K
 mg:=mg
 base:=base
 A:=A.deeper (envOfC qual scope s.heap.objs.size f cd)
 N:=N
 s₀:=s
 H₀:=H
 env:=envOfC qual scope s.heap.objs.size f cd
 outer:=outer
 stack:=envOfC qual scope s.heap.objs.size f cd::outer
 ex:=[]
 calm:=true
 fn:=λ_=>true
 pn:=[]
 xe:=λe s'=>wpAny (model P w) (A.deeper (envOfC qual scope s.heap.objs.size f cd)) (leaving (envOfC qual scope s.heap.objs.size f cd) e) (λ_ s''=>CX outer H s E e s'') (λe' s''=>CX outer H s E e' s'') s'
theorem QS{sc:Scope}{x:Str}(h:sc.names.lookup x=some .cell):∃c,(BG n sc.names []).lookup x=some c:=by have q:=Cv sc.names n [] (.inl h);exact EI.mp q
theorem Vu{CX:Jw}{P:Bb}{w:World}{K:Af}{mg:Str→Option Value}{base:Heap}{N ps:List Str}{qual:Str}{scope:Scope}{f:Addr}{cd:Value}{A:BB}{outer:List Env}{s s1:Shared}{H:Hp}{E:XK}{us:List Value}{vs:List V}
 (S:FnScope N ps scope) (hd:A.handled=none) (e0:Env0 P w K mg base A outer s H) (hl:vs.length=ps.length) (r:Vals vs us)
 (x:InCallC s s.heap.objs.size (bindL (envOfC qual scope s.heap.objs.size f cd).kindOf (ps.zip us) λ_=>none) (BG (s.heap.objs.size+1) scope.names []) (bindC (envOfC qual scope s.heap.objs.size f cd).kindOf (ps.zip us) λ_=>none) s1):
 Inv (Ja CX P w K mg base N qual scope f cd A outer s H E) [] (start N vs) H s1:=by
 have hpl:ps.length≤N.length:=by have:=congrArg C8 S.pre;rw[AC] at this;omega
 obtain⟨h1,tk,rfl,hk⟩:=x.done;have noA:∀b:Addr,b ∉ (Ja CX P w K mg base N qual scope f cd A outer s H E).ex:=λb z=>absurd (show b∈([]:List Addr) from z) (by simp);refine⟨⟨e0.mod,S.kind,rfl,rfl,Ae _,λy z c h1 h2=>?_,λy hy=>?_,λy c _ h=>?_,λ_=>hd,Around.frames_deeper e0.frames,.inr ⟨rfl,rfl⟩,λb z=>absurd z (noA b),e0.bs,e0.bsz,λb _ _=>noA b,λb z=>absurd z (noA b),e0.funs,e0.frf⟩,
  rfl,e0.bare,Un.kept hk,⟨_,x.toInCall.ns,λi y v h1 h2 h3=>?_⟩,λy c h=>⟨_,x.cell y c h⟩,e0.hok.fresh (Ae _),λy c h=>?_,λp hp=>absurd (show p∈([]:List (Addr×Obj)) from hp) (by simp),e0.hok.kept hk,?_⟩
 · exact name_of_addr x.apart (CD h1) (CD h2)
 · have hy:scope.names.lookup y=some .cell∨scope.names.lookup y=some .free:=hy;rcases hy with hy | hy
   · exact QS hy
   · exact absurd rfl (S.nofree _ (CD hy))
 · exact Bd (x.above y c (CD h))
 · have hi:i<vs.length:=by
    unfold start at h2;by_cases hi:i<vs.length
    · exact hi
    · rw[Eo (by simpa using hi)] at h2;rw[List.getElem?_replicate] at h2
      split at h2<;>cases h2
   have ha:vs[i]?=some v:=by
    unfold start at h2;rw[ED (by simpa using hi),Ah] at h2;cases e:vs[i]? with
    | none=>rw[e] at h2;cases h2
    | some a=>rw[e] at h2;cases h2;rfl
   obtain⟨u,hu,rv⟩:=r.get ha;have hp:ps[i]?=some y:=by rw[←S.pre,List.getElem?_take_of_lt (by omega)];exact h1
   have ndP:ps.Nodup:=by rw[←S.pre];exact S.nd.sublist (Dz _ _)
   refine⟨u,rv,?_⟩;rcases S.par y (Aq hp) with k | k
   · exact .inl ⟨k,Rp ndP hp hu k⟩
   · obtain⟨c,e⟩:=QS (n:=s.heap.objs.size+1) k;refine .inr ⟨.inl k,c,e,?_⟩;have q:=x.cell y c e;rw[Rn ndP hp hu (by show scope.names.lookup y≠_;rw[k];decide)] at q;exact q
 · exact e0.hok.fresh (Bd (x.above y c (CD h)))
 · unfold start;show _=N.length;rw[AG,Ab,Bk];omega
theorem Su{CX:Jw}{P:Bb}{w:World}{K:Af}{mg:Str→Option Value}{base:Heap}{k:Nat}{f:Addr}{name qual:Str}{params:Arguments}{body:List Stmt}{scope:Scope}{dV kV doc pm cdv ct oc:Value}{an od:Option Addr}
 {osl:Array (Option Value)} {N ps:List Str} {sp:Sp} (lk:K.lookup f=some ⟨oc,od,.func (CT name qual params body scope dV kV doc pm an cdv ct),osl⟩) (hcd:Fo K cdv qual=true) (S:FnScope N ps scope)
 (len:∀vs H Q E,sp vs H Q E→vs.length=ps.length)
 (hbody:∀(A:BB)(outer:List Env)(s:Shared)(H:Hp)(vs:List V)(Q:VK)(E:XK),Room k (A.deeper (envOfC qual scope s.heap.objs.size f cdv))→sp vs H Q E→
  ∃t,PSs (Ja CX P w K mg base N qual scope f cdv A outer s H E) body t∧t {nx:=λ_ H'=>Q .non H',rt:=Q} (start N vs) H):
 FnOk P w K mg base CX (k+1) f (CT name qual params body scope dV kV doc pm an cdv ct) ps sp:=by
 refine⟨len,λA outer s H args us vs Q E hr e0 hb r hsp=>?_⟩;have hl:=len _ _ _ _ hsp;have KX:K.In s.heap:=e0.mod.kin.keeps λb o e=>(e0.bs b o e).1;have lim:s.heap.NoLimit:=e0.mod.nolimit.keeps λb o e=>(e0.bs b o e).1;have hkind:∀y∈ps.zip us,scope.names.lookup y.1=some .local∨(scope.names.lookup y.1=some .cell∧((BG (s.heap.objs.size+1) scope.names []).lookup y.1).isSome=true):=λ⟨n,v⟩ hy=>by
  rcases S.par n (EY hy).1 with q | q
  · exact .inl q
  · exact .inr ⟨q,Cv _ _ _ (.inl q)⟩
 refine codeAny_call_function hr.depth (KX _ _ lk) rfl S.co S.gen rfl (PySem.W.codeRec_of KX hcd) (hb _ _ _ _ ?_);refine wpAny_newFunctionEnv_cells S.kind hkind λenv he s1 x=>?_;subst he;refine⟨lim.keeps x.toInCall.keep,codeAny_func ?_⟩;obtain⟨t,ht,hq⟩:=hbody A outer s H vs Q E (hr.deeper _) hsp;have I:Inv (Ja CX P w K mg base N qual scope f cdv A outer s H E) [] (start N vs) H s1:=Vu S hr.hd e0 hl r x;refine A9 (ht [] s1 (start N vs) H _ I hq) (λfl s' hs=>?_) λe s' hs=>hs;have fin:∀{σ':St}{H':Hp}{v:V}{u:Value},Inv (Ja CX P w K mg base N qual scope f cdv A outer s H E) [] σ' H' s'→RelV v u→Q v H'→CE outer P w H s Q u s':=
  λ{σ' H' v u}J rv q=>⟨v,H',J.os,J.bare,J.base,J.hok,rv,q⟩
 cases fl with
 | ret u=> obtain⟨v,σ',H',J,rv,q⟩:=hs;exact fin J rv q
 | next=> obtain⟨σ',H',J,q⟩:=hs;exact fin (v:=V.non) (u:=Value.none) J rfl q
 | brk=> obtain⟨_,_,_,q⟩:=hs;exact C4 q
 | cont=> obtain⟨_,_,_,q⟩:=hs;exact C4 q
section
variable{X:Cx}{x:Str}{p:Pos}{es:List Expr}{t:TA}{id T:String}{r:List V→Hp→VK→Prop}
def R_(r:List V→Hp→VK→Prop)(t:TA):TE:=λσ H Q=>t σ H λvs H1=>r vs H1 Q
theorem Hl(hc:I0 X (.builtin id) r)(hg:Gl X x)(hm:X.mg x=none)(hv:AQ x=some (.builtin id))(ha:PA X (e::es) t)(hn:x≠"__name__":=by decide)(hdb:(x==("__debug__":Str))=false:=by decide)
 (he:Az (e::es) X.env=(false,eval e X.env)::Az es X.env:=by rfl) (hpl:(backTo pos (Az es X.env)).any (·.1)=false:=by rfl):PE X (.Call (.Name x p) (e::es) [] pos) (R_ r t):=by
 intro pins s σ H Q I h;refine Bi (IY I hg hm hv ?_ hn hdb);exact Co (He (ha pos pins s σ H _ I h) λus s1 ⟨vs,H1,I1,r1,q1⟩=>hc pins s1 σ H1 vs us Q I1 r1 q1) he hpl
theorem Kz(hc:I0 X (.type T) r)(hg:Gl X x)(hm:X.mg x=none)(hv:AQ x=some (.type T))(ha:PA X (e::es) t)(hn:x≠"__name__":=by decide)(hdb:(x==("__debug__":Str))=false:=by decide)
 (he:Az (e::es) X.env=(false,eval e X.env)::Az es X.env:=by rfl) (hpl:(backTo pos (Az es X.env)).any (·.1)=false:=by rfl):PE X (.Call (.Name x p) (e::es) [] pos) (R_ r t):=by
 intro pins s σ H Q I h;refine Bi (IY I hg hm hv ?_ hn hdb);exact Bh (He (ha pos pins s σ H _ I h) λus s1 ⟨vs,H1,I1,r1,q1⟩=>hc pins s1 σ H1 vs us Q I1 r1 q1) he hpl
end
end L2
variable{H:L2.Hp}{X:L2.Cx}{σ:L2.St}{xs:List L2.V}{x:PySem.Str}
namespace HT
open PySem PyProof.Rows
section
open PySem.SeqAt
open PySem.AutoSeq1 (wpAny_loadPart')
open PySem.MeetsSeq PySem.MeetsSeq2 PySem.MeetsSeq3
end
theorem cat_tup{t:Addr}{vs ws:List Value}{Q:Value→Shared→Prop}(ht:IsTup s.heap t vs.toArray)(hb:IsTup s.heap b ws.toArray)(hv:vs≠[])
 (h1:ws=[]→Q (.ref t) s) (h2:ws≠[]→Q (.ref s.heap.objs.size) {s with heap:=s.heap.push {cls:= .type "tuple",data:= .seq (vs++ws).toArray}})
 (hsz:vs.length+ws.length≤As):wpAny (model prog w) A (binaryOp .Add (.ref t) (.ref b)) Q E s:=by
 obtain⟨⟨cls,dd,data,sl⟩,ho,hc,n,hd⟩:=id ht;obtain⟨⟨cls2,dd2,data2,sl2⟩,ho2,hc2,n2,hd2⟩:=id hb;simp only at hc hd hc2 hd2;subst hc hd hc2 hd2;have e:vs.toArray++ws.toArray=(vs++ws).toArray:=by simp
 by_cases hw:ws=[]
 · exact concat_meets ⟨_,ho,rfl⟩ ⟨_,ho2,rfl⟩ noFill_tuple_add seq_tuple_add D7 Dv (Dr _ _)
    (tuple_addW1 t b vs.toArray ws.toArray n n2 dd dd2 sl sl2 (by simpa using hv) (by simp[hw])) ⟨ho,ho2,h1 hw⟩
 · refine concat_meets ⟨_,ho,rfl⟩ ⟨_,ho2,rfl⟩ noFill_tuple_add seq_tuple_add D7 Dv (Dr _ _)
    (tuple_addW2 t b vs.toArray ws.toArray n n2 dd dd2 sl sl2 (by simpa using hv) (by simpa using hw) (by rw[Ak,Ak];exact hsz)) ⟨ho,ho2,?_⟩
   rw[e];exact h2 hw
def sIx(n d:Nat):Option Int→Nat
 | none=>d
 | some v=>if v<0 then(v+(n:Int)).toNat else min v.toNat n
theorem sIx_none(n d:Nat):sIx n d none=d:=rfl
theorem sIx_nat(n d k:Nat):sIx n d (some (k:Int))=min k n:=by
 show(if(k:Int)<0 then((k:Int)+(n:Int)).toNat else min (k:Int).toNat n)=min k n
 rw[if_neg (by omega),Ba]
theorem S_(n d:Nat)(hd:d≤n)(o:Option Int):sIx n d o≤n:=by
 cases o with
 | none=>exact hd
 | some v=>
  show(if v<0 then(v+(n:Int)).toNat else min v.toNat n)≤n
  by_cases hv:v<0
  · rw[if_pos hv];omega
  · rw[if_neg hv];exact Nat.min_le_right _ _
theorem Qn(v:Int)(n d:Nat):(if v<0 then max (v+(n:Int)) 0 else min v (n:Int))=((sIx n d (some v):Nat):Int):=by
 show(if v<0 then max (v+(n:Int)) 0 else min v (n:Int))=(((if v<0 then(v+(n:Int)).toNat else min v.toNat n):Nat):Int)
 by_cases hv:v<0
 · simp only[if_pos hv];omega
 · simp only[if_neg hv];omega
theorem VZ(lo hi:Option Int)(n:Nat):Dj lo hi 1 (n:Int)=(((sIx n 0 lo:Nat):Int),((sIx n n hi:Nat):Int)):=by
 have h1:¬((1:Int)<0):=by omega
 unfold Dj;simp only[h1,if_false];refine Prod.ext ?_ ?_
 · cases lo with
   | none=>rfl
   | some v=>exact Qn v n 0
 · cases hi with
   | none=>rfl
   | some v=>exact Qn v n n
theorem VG(i j:Nat):C5 (i:Int) (j:Int) 1=j - i:=by
 unfold C5;have h1:(1:Int)>0:=by omega
 simp only[h1,if_true,Int.ediv_one]
 split<;>omega
theorem RO{v:Value}{o:Option Int}{Q:Option Int→Shared→Prop}(p:IsPart v o)(h:Q o s):wpAny (model prog w) A (Builtin.Slice.slicePartIndex v) Q E s:=by
 cases p with
 | none=>exact slicePart_none h
 | int i t=>exact slicePart_int h
theorem sliceApplied_gen{sl:Addr}{vl vu:Value}{lo hi:Option Int}{n:Nat}{Q:Int×Int×Nat→Shared→Prop}(hs:s.heap.IsSliceOf sl vl vu .none)(pl:IsPart vl lo)(pu:IsPart vu hi)
 (h:Q (((sIx n 0 lo:Nat):Int),1,sIx n n hi - sIx n 0 lo) s):wpAny (model prog w) A (Ep (.ref sl) (pure (n:Int))) Q E s:=by
 obtain⟨os,hos,hcs,hds⟩:=id hs;unfold Ep Builtin.Slice.sliceFields;refine Aa (Aa (Bs hos hds (x:=vl) rfl (Aa (Bs hos hds (x:=vu) rfl (Aa (Bs hos hds (x:= .none) rfl (Ac ?_)))))));refine Aa (slicePart_none ?_);show wpAny _ _ (if((1:Int)==0)=true then _ else _) _ _ s
 rw[if_neg (by decide)];refine Aa (RO pl (Aa (RO pu (Aa (Ac ?_)))));show wpAny _ _ (match Dj lo hi 1 (n:Int) with | (lo,hi)=>pure (lo,(1:Int),C5 lo hi 1)) _ _ s
 rw[VZ lo hi n];show wpAny _ _ (pure (((sIx n 0 lo:Nat):Int),(1:Int),C5 ((sIx n 0 lo:Nat):Int) ((sIx n n hi:Nat):Int) 1)) _ _ s;rw[VG];exact Ac h
theorem UZ(xs:Array Value)(i k:Nat):((AX k).filterMap λ(m:Nat)=>xs[((i:Int)+(m:Int)*1).toNat]?).toArray=((xs.toList.drop i).take k).toArray:=by
 have e:(λ(m:Nat)=>xs[((i:Int)+(m:Int)*1).toNat]?)=λm=>xs[i+m]?:=by
  funext m;have:((i:Int)+(m:Int)*1).toNat=i+m:=by omega
  rw[this]
 rw[e];have:=pick_run xs i k;rw[List.filterMap_map] at this;have e2:((λx=>xs[x]?)∘λx=>i+x)=λm=>xs[i+m]?:=rfl;rw[e2] at this;rw[this]
theorem getItem_tuple_cut{t sl:Addr}{items:Array Value}{vl vu:Value}{lo hi:Option Int}{Q:Value→Shared→Prop}(ht:IsTup s.heap t items)(hs:s.heap.IsSliceOf sl vl vu .none)(pl:IsPart vl lo)(pu:IsPart vu hi)
 (hw:¬(sIx items.size 0 lo=0∧sIx items.size items.size hi=items.size))
 (h:Q (.ref s.heap.objs.size) {s with heap:=s.heap.push {cls:= .type "tuple",data:= .seq ((items.toList.drop (sIx items.size 0 lo)).take (sIx items.size items.size hi - sIx items.size 0 lo)).toArray}})
 (hsz:items.size≤As):wpAny (model prog w) A (getItem (.ref t) (.ref sl)) Q E s:=by
 have htake:sizeOk (.seq ((items.toList.drop (sIx items.size 0 lo)).take (sIx items.size items.size hi - sIx items.size 0 lo)).toArray):=by show((items.toList.drop (sIx items.size 0 lo)).take (sIx items.size items.size hi - sIx items.size 0 lo)).toArray.size≤As;rw[Ak,AC,Db,Aj];omega
 have hj:sIx items.size items.size hi≤items.size:=S_ _ _ (Ae _) hi;obtain⟨os,hos,hcs,hds⟩:=id hs;have hTs:s.TypeIs (.ref sl) "slice":=⟨os,hos,hcs⟩;unfold getItem
 try with_reducible refine AE ?_
 first | refine Aa (Ac ?_) | skip
 refine Aa (E5 ht.typeIs (by decide) ?_);refine Aa (Bo (name:=Cw "__getitem__") ht.typeIs Bu
  (AR Bu ht.typeIs entry_tuple_getitem ?_ (args_tuple_getitem _ _)))
 show wpAny _ _ (Dg (.ref t)>>=_) _ _ s;refine Aa (tupleItemsOf_ ht ?_);refine Aa (Ce hTs ?_);rw[if_pos (by decide)];refine Aa (sliceApplied_gen hs pl pu ?_);have hno:¬((((sIx items.size 0 lo:Nat):Int)==0 && (1:Int)==1 && (sIx items.size items.size hi - sIx items.size 0 lo)==items.size)=true):=by intro q;rw[AV,AV] at q;have q1:((sIx items.size 0 lo:Nat):Int)=0:=eq_of_beq q.1.1;have q2:sIx items.size items.size hi - sIx items.size 0 lo=items.size:=eq_of_beq q.2;exact hw ⟨by omega,by omega⟩
 show wpAny _ _ (if(((sIx items.size 0 lo:Nat):Int)==0 && (1:Int)==1 && (sIx items.size items.size hi - sIx items.size 0 lo)==items.size)=true then _ else _) _ _ s
 rw[if_neg hno,UZ]
 first
  | exact Aa (m:=CA _) (Bf (Ac ⟨_,rfl,Ac h⟩) htake)
  | exact Aa (m:=CA _) (Bf (Aa (Ac (Ac ⟨_,rfl,Ac h⟩))) htake)
  | exact Aa (Aa (m:=CA _) (Bf (Ac (Ac ⟨_,rfl,Ac h⟩)) htake))
  | exact Aa (Aa (m:=CA _) (Bf (Ac ⟨_,rfl,Ac h⟩) htake))
end HT
namespace L2
abbrev TO:=St→Hp→(Option Int→Hp→Prop)→Prop
def PO(X:Cx)(e:Option Expr)(t:TO):Prop:=
 ∀(pins:List (Addr×Obj))(s:Shared)(σ:St)(H:Hp)(Q:Option Int→Hp→Prop),Inv X pins σ H s→t σ H Q→
  wpAny (model X.prog X.w) X.A (evalPart e X.env) (λu s'=>∃o H',Inv X pins σ H' s'∧IsPart u o∧Q o H') X.xe s
def Qz:TO:=λ_ H Q=>Q none H
def TB(t:TE):TO:=λσ H Q=>t σ H λx H1=>∃i,x= .int i∧Q (some i) H1
section
variable{te:TE}{lo hi:Option Expr}{tl th:TO}{p2:Pos}
theorem Jk:PO X none Qz:=by intro pins s σ H Q I h;rw[evalPart_none];exact Ac ⟨none,H,I,.none,h⟩
theorem Jl(h:PE X e te):PO X (some e) (TB te):=by intro pins s σ H Q I hw;rw[evalPart_some];refine He (h pins s σ H _ I hw) λu s1 ⟨x,H1,I1,r1,q1⟩=>?_;obtain⟨i,rfl,q⟩:=q1;obtain⟨t,rfl⟩:=r1;exact⟨some i,H1,I1,.int i t,q⟩
def K_(X:Cx)(r:V→Option Int→Option Int→Hp→VK→Prop):Prop:=
 ∀(pins:List (Addr×Obj))(s:Shared)(σ:St)(H:Hp)(x:V)(v vl vu:Value)(lo hi:Option Int)(sl:Addr)(Q:VK),Inv X pins σ H s→RelV x v→s.heap.IsSliceOf sl vl vu .none→IsPart vl lo→IsPart vu hi→r x lo hi H Q→
  ∃T id,typeLookup (.type T) "__getitem__"=pure (some (.builtin id))∧s.TypeIs v T∧wpAny (model X.prog X.w) X.A (getItem v (.ref sl)) (EP X pins σ Q) X.xe s
def XO(r:V→Option Int→Option Int→Hp→VK→Prop)(te:TE)(tl th:TO):TE:=λσ H Q=>te σ H λx H1=>tl σ H1 λl H2=>th σ H2 λu H3=>r x l u H3 Q
theorem Jp{r:V→Option Int→Option Int→Hp→VK→Prop}(hr:K_ X r)(he:PE X e te)(hl:PO X lo tl)(hu:PO X hi th):PE X (.Subscript e (.Slice lo hi none p2) pos) (XO r te tl th):=by
 intro pins s σ H Q I h;refine Subscript_ (He (he pins s σ H _ I h) λv s1 ⟨x,H1,I1,r1,q1⟩=>?_);refine wpAny_Slice (He (hl pins s1 σ H1 _ I1 q1) λvl s2 ⟨l,H2,I2,pl,q2⟩=>He (hu pins s2 σ H2 _ I2 q2) λvu s3 ⟨u,H3,I3,pu,q3⟩=>?_);rw[evalPart_none];refine Ac ?_;have I4:Inv X pins σ H3 {s3 with heap:=s3.heap.push {cls:= .type "slice",data:= .fields #[vl,vu,.none]}}:=I3.kept (t':=s3.toks) λb ob q=>Ad _ q
 obtain⟨T,id,hT,ht,hg⟩:=hr pins {s3 with heap:=s3.heap.push {cls:= .type "slice",data:= .fields #[vl,vu,.none]}} σ H3 x v vl vu l u s3.heap.objs.size Q I4 r1 (Heap.IsSliceOf.new ..) pl pu q3;show wpAny (model X.prog X.w) X.A (subscriptTail e (.Slice lo hi none p2) v (.ref s3.heap.objs.size)) (EP X pins σ Q) X.xe {s3 with heap:=s3.heap.push {cls:= .type "slice",data:= .fields #[vl,vu,.none]}};exact tail_any (ops:=[.ref s3.heap.objs.size,v]) ht hT hg (by with_unfolding_all rfl)
def HJ(xs:List V)(lo hi:Option Int):List V:=(xs.drop (HT.sIx xs.length 0 lo)).take (HT.sIx xs.length xs.length hi - HT.sIx xs.length 0 lo)
theorem RL(xs:List V)(lo hi:Option Int):(HJ xs lo hi).length≤xs.length:=by unfold HJ;rw[AC,Db];omega
def O3(K:Af):V→Option Int→Option Int→Hp→VK→Prop:=λx lo hi H Q=>∃a xs,x= .ref a∧SqT K H a xs∧
 ¬(HT.sIx xs.length 0 lo=0∧HT.sIx xs.length xs.length hi=xs.length)∧∀p,H p=none→Q (.ref p) (GY H p (.tup (HJ xs lo hi)))
theorem Ta:K_ X (O3 X.K):=by
 intro pins s σ H x v vl vu lo hi sl Q I rx hs pl pu h;obtain⟨a,xs,rfl,hx,hw,q⟩:=h;cases rx;obtain⟨its,r,ht,hz⟩:=I.tuple hx;have hlen:its.toArray.size=xs.length:=by rw[Ak];exact r.length.symm
 refine⟨"tuple",_,Bu.lookup,ht.typeIs,?_⟩;refine HT.getItem_tuple_cut ht hs pl pu (by rw[hlen];exact hw) ?_ (by rw[hlen];exact hz);rw[hlen];refine⟨.ref s.heap.objs.size,_,I.laid (t':=s.toks) (o:= .tup (HJ xs lo hi)) (λb ob q=>Ad _ q) (Ae _) ?_,rfl,q _ (I.hok.fresh (Ae _))⟩;exact⟨AF (RL xs lo hi) hz,_,(r.drop (HT.sIx xs.length 0 lo)).take (HT.sIx xs.length xs.length hi - HT.sIx xs.length 0 lo),IsTupP.new _ _⟩
theorem Vals.nil_iff(r:Vals xs us):us=[]↔xs=[]:=by
 cases r with
 | nil=>simp
 | cons _ _=>simp
end
def JP(n:Nat)(i:Int):Option Nat:=if 0≤i then(if i<n then some i.toNat else none) else if -(n:Int)≤i then some (i+n).toNat else none
def Ie{α:Type}(xs:List α)(i:Int):Option α:=(JP xs.length i).bind λj=>xs[j]?
theorem MX{i:Int}{j:Nat}(h:JP n i=some j):seqIndex? i n=some j∧j<n∧ -(n:Int)≤i∧i<n:=by
 unfold JP at h;by_cases h0:0≤i
 · rw[if_pos h0] at h;by_cases h1:i<n
   · rw[if_pos h1] at h;have e:i.toNat=j:=A7 h;exact⟨by rw[seqIndex_of h0 h1,e],by omega,by omega,h1⟩
   · rw[if_neg h1] at h;cases h
 · rw[if_neg h0] at h;by_cases h1: -(n:Int)≤i
   · rw[if_pos h1] at h;have e:(i+n).toNat=j:=A7 h;exact⟨by rw[seqIndex_neg (by omega) h1,e],by omega,h1,by omega⟩
   · rw[if_neg h1] at h;cases h
theorem MV{α:Type}{xs:List α}{i:Int}{v:α}(h:Ie xs i=some v):∃j,seqIndex? i xs.length=some j∧xs[j]?=some v∧j<xs.length∧ -(xs.length:Int)≤i∧i<xs.length:=by
 unfold Ie at h;cases e:JP xs.length i with
 | none=>rw[e] at h;cases h
 | some j=> rw[e] at h;obtain⟨h1,h2,h3,h4⟩:=MX e;exact⟨j,h1,h,h2,h3,h4⟩
theorem J5{α:Type}{xs:List α}{j:Nat}{v:α}(h:xs[j]?=some v):Ie xs (j:Int)=some v:=by
 have hj:j<xs.length:=(Am.mp h).1;have e:JP xs.length (j:Int)=some j:=by unfold JP;rw[if_pos (by omega),if_pos (by omega)];simp
 unfold Ie;rw[e];exact h
def Uw(b:Expr):Prop:=∀o i,subscripted b false o i=operate [o,i] (getItem o i)
def KC(X:Cx)(r:R2):Prop:=
 ∀(value slice:Expr)(pins:List (Addr×Obj))(s:Shared)(σ:St)(H:Hp)(x y:V)(v u:Value)(Q:VK),Inv X pins σ H s→RelV x v→RelV y u→r x y H Q→
  subscripted slice false v u=operate [v,u] (getItem v u)→wpAny (model X.prog X.w) X.A (subscriptTail value slice v u) (EP X pins σ Q) X.xe s
def Sk(X:Cx)(id:String)(r:V→List V→Hp→VK→Prop):Prop:=
 ∀(pins:List (Addr×Obj))(s:Shared)(σ:St)(H:Hp)(x:V)(xs:List V)(v:Value)(us:List Value)(Q:VK),Inv X pins σ H s→RelV x v→Vals xs us→r x xs H Q→
  wpAny (model X.prog X.w) X.A (call (.builtin id) (v::us)) (EP X pins σ Q) X.xe s
section
variable{a b:Expr}{ta tb:TE}
theorem HC{r:R2}(hr:KC X r)(ha:PE X a ta)(hb:PE X b tb)(hs:Uw b):PE X (.Subscript a b pos) (Lq r ta tb):=by intro pins s σ H Q I h;exact Subscript_ (K9 ha hb I h λv u s2 x y H2 I2 rx ry q=>hr a b pins s2 σ H2 x y v u Q I2 rx ry q (hs _ _))
def O7(K:Af):R2:=λx y H Q=>∃p xs i v,x= .ref p∧y= .int i∧SqL K H p xs∧Ie xs i=some v∧Q v H
def Lx(K:Af):R2:=λx y H Q=>∃p xs i v,x= .ref p∧y= .int i∧SqT K H p xs∧Ie xs i=some v∧Q v H
def O6:R2:=λx y H Q=>∃z i c,x= .str z∧y= .int i∧z.length≤As∧Ie z.cps.toList i=some c∧Q (.str ⟨#[c]⟩) H
theorem HZ:KC X (O7 X.K):=by
 intro value slice pins s σ H x y v u Q I rx ry h hs;obtain⟨p,xs,i,z,rfl,rfl,hq,he,q⟩:=h;cases rx;obtain⟨t,rfl⟩:=ry;obtain⟨its,r,pl,hz⟩:=I.list hq;obtain⟨j,h1,h2,h3,h4,h5⟩:=MV he;obtain⟨w,ew,rw'⟩:=r.get h2;have hl:=r.length;have hn:=KM;have fin:EP X pins σ Q w s:=⟨z,H,I,rw',q⟩;by_cases h0:0≤i
 · have hj:i.toNat=j:=by
    rw[seqIndex_of h0 h5] at h1;exact A7 h1
   exact item_listR pl.isList h0 (by omega) (by rw[hj];simpa using ew) fin hs
 · have hj:(i+(its.toArray.size:Int)).toNat=j:=by
    rw[seqIndex_neg (by omega) h4] at h1;rw[Ak,←hl];exact A7 h1
   exact Fe (x:=w) pl.isList.typeIs E6.lookup
    (wpAny_getItem_list_neg (Q:=λr s'=>r=w∧EP X pins σ Q r s') pl.isList (by omega) (by rw[Ak]<;>omega) (by omega) (by rw[hj];simpa using ew) ⟨rfl,fin⟩) hs
theorem IX:KC X (Lx X.K):=by
 intro value slice pins s σ H x y v u Q I rx ry h hs;obtain⟨p,xs,i,z,rfl,rfl,hq,he,q⟩:=h;cases rx;obtain⟨t,rfl⟩:=ry;obtain⟨its,r,pl,hz⟩:=I.tuple hq;obtain⟨j,h1,h2,h3,h4,h5⟩:=MV he;obtain⟨w,ew,rw'⟩:=r.get h2;have hl:=r.length;have hn:=KM;have fin:EP X pins σ Q w s:=⟨z,H,I,rw',q⟩;exact Fe (x:=w) pl.typeIs slot_tuple_getitem.lookup
  (getItem_tuple (j:=j) (Q:=λr s'=>r=w∧EP X pins σ Q r s') pl (by omega) (by omega) (by rw[Ak,←hl];exact h1) (by simpa using ew) ⟨rfl,fin⟩) hs
theorem Pt:KC X O6:=by
 intro value slice pins s σ H x y v u Q I rx ry h hs;obtain⟨z,i,c,rfl,rfl,hz,he,q⟩:=h;obtain⟨t,rfl⟩:=rx;obtain⟨t',rfl⟩:=ry;obtain⟨j,h1,h2,h3,h4,h5⟩:=MV he;have hl:z.cps.toList.length=z.length:=by simp[Str.length]
 rw[hl] at h1 h4 h5;have hn:=KM;exact tail_any (typeIs_str s z t) slot_str_getitem.lookup (getItem_str (c:=c) (by have e1:decide (i< -(2^63:Int))=false:=decide_eq_false (by omega);have e2:decide (i≥2^63)=false:=decide_eq_false (by omega);rw[e1,e2,Bool.or_false]) (by rw[h1];simpa using h2) ⟨.str ⟨#[c]⟩,H,I.tok _,⟨_,rfl⟩,q⟩) hs
theorem V5(its:List Value)(n j:Nat)(u:Value):C6 (·.setIfInBounds j u) {cls:= .type "list",data:= .seq its.toArray n}={cls:= .type "list",data:= .seq (its.set j u).toArray n}:=by simp[C6]
theorem Inv.lst{p:Addr}(I:Inv X pins σ H s)(h:H p=some (.lst xs)):
 ∃(its:List Value)(n:Nat),Vals xs its∧s.heap.get? p=some {cls:= .type "list",data:= .seq its.toArray n}∧xs.length≤As:=by
 obtain⟨z,its,n,r,e⟩:=I.hok p _ h;exact⟨its,n,r,e,z⟩
theorem Inv.lstUpd{p:Addr}{ys:List V}{its its':List Value}{n n':Nat}{f:Obj→Obj}(I:Inv X pins σ H s)(h:H p=some (.lst xs))
 (ho:s.heap.get? p=some {cls:= .type "list",data:= .seq its.toArray n}) (hf:f {cls:= .type "list",data:= .seq its.toArray n}={cls:= .type "list",data:= .seq its'.toArray n'}) (r:Vals ys its') (hz:ys.length≤As) (t:Nat):
 Inv X pins σ (GY H p (.lst ys)) {s with heap:=s.heap.update p f,toks:=t}:=by
 have e:(s.heap.update p f).get? p=some {cls:= .type "list",data:= .seq its'.toArray n'}:=by rw[Ci f ho (by rw[hf]<;>rfl),hf]
 refine I.write (x:=p) (e:=p) (by rw[h];trivial) (.inl rfl) (λb u hb q=>(CN _ _ (Ch hb)).trans q) ⟨_,e⟩ ?_;exact⟨hz,its',n',r,e⟩
def SI:V→V→V→Hp→(Hp→Prop)→Prop:=λo i v H Q=>∃p xs k j,o= .ref p∧i= .int k∧H p=some (.lst xs)∧JP xs.length k=some j∧Q (GY H p (.lst (xs.set j v)))
theorem Nj:LI X SI:=by
 intro pins s σ H o i v ov iv u Q I ro ri rv h;obtain⟨p,xs,k,j,rfl,rfl,hp,hj,q⟩:=h;cases ro;obtain⟨t,rfl⟩:=ri;obtain⟨its,n,r,ho,hz⟩:=I.lst hp;obtain⟨h1,h2,h3,h4⟩:=MX hj;have hl:=r.length;have hn:=KM;have I':Inv X pins σ (GY H p (.lst (xs.set j v))) {s with heap:=s.heap.update p (C6 (·.setIfInBounds j u))}:=
  I.lstUpd hp ho (V5 its n j u) (r.set rv j) (by rw[List.length_set];exact hz) s.toks
 by_cases h0:0≤k
 · have hk:k.toNat=j:=by
    rw[seqIndex_of h0 h4] at h1;exact A7 h1
   exact PySem.W.ki_setAt ho h0 (by omega) (by rw[Ak,←hl];exact h4) (by rw[hk];exact⟨_,I',q⟩)
 · have hk:(k+(its.toArray.size:Int)).toNat=j:=by
    rw[seqIndex_neg (by omega) h3] at h1;rw[Ak,←hl];exact A7 h1
   exact PySem.W.ki_setBack ho (by omega) (by rw[Ak,←hl];exact h3) (by omega) (by rw[hk];exact⟨_,I',q⟩)
theorem WO(lo hi:Option Int)(n:Nat):(sliceBounds lo hi none n).1=((HT.sIx n 0 lo:Nat):Int)∧(sliceBounds lo hi none n).2.1=((HT.sIx n n hi:Nat):Int)∧(sliceBounds lo hi none n).2.2=1:=by
 refine⟨?_,?_,rfl⟩
 · cases lo with
   | none=>simp[sliceBounds,HT.sIx]
   | some i=>
    simp only[sliceBounds,HT.sIx,EJ,show(1:Int)>0 by decide,if_true];by_cases h:i<0
    · simp only[h,if_true]<;>omega
    · simp only[h,if_false]<;>omega
 · cases hi with
   | none=>simp[sliceBounds,HT.sIx]
   | some i=>
    simp only[sliceBounds,HT.sIx,EJ,show(1:Int)>0 by decide,if_true];by_cases h:i<0
    · simp only[h,if_true]<;>omega
    · simp only[h,if_false]<;>omega
theorem Xl(its:List Value)(lo hi:Option Int):slicePick its.toArray lo hi none=((its.drop (HT.sIx its.length 0 lo)).take (HT.sIx its.length its.length hi - HT.sIx its.length 0 lo)).toArray:=by obtain⟨h1,h2,h3⟩:=WO lo hi its.toArray.size;unfold slicePick;rw[h1,h2,h3];simp only[sliceRange_one,pick_run,Ak]<;>rfl
def O4(K:Af):V→Option Int→Option Int→Hp→VK→Prop:=λx lo hi H Q=>∃a xs,x= .ref a∧SqL K H a xs∧∀p,H p=none→Q (.ref p) (GY H p (.lst (HJ xs lo hi)))
theorem Na:K_ X (O4 X.K):=by intro pins s σ H x v vl vu lo hi sl Q I rx hs pl pu h;obtain⟨a,xs,rfl,hx,q⟩:=h;cases rx;obtain⟨its,r,ht,hz⟩:=I.list hx;have hlen:=r.length;refine⟨"list",_,E6.lookup,ht.isList.typeIs,?_⟩;refine EK ht.isList hs pl pu .none (by simp) ?_ (by rw[Ak]<;>omega);rw[Xl,←hlen];refine⟨.ref s.heap.objs.size,_,I.laid (t':=s.toks) (o:= .lst (HJ xs lo hi)) (λb ob q=>Ad _ q) (Ae _) ?_,rfl,q _ (I.hok.fresh (Ae _))⟩;exact⟨AF (RL xs lo hi) hz,_,0,(r.drop (HT.sIx xs.length 0 lo)).take (HT.sIx xs.length xs.length hi - HT.sIx xs.length 0 lo),Ai _ rfl⟩
def J9:V→Bool
 | .non=>true
 | .bl _=>true
 | .int _=>true
 | .str _=>true
 | _=>false
def J8:V→V→Bool
 | .non,.non=>true
 | .bl a,.bl b=>a==b
 | .bl a,.int b=>(if a then 1 else 0)==b
 | .int a,.bl b=>a==(if b then 1 else 0)
 | .int a,.int b=>a==b
 | .str a,.str b=>a==b
 | _,_=>false
theorem Tl{y x:V}{v:Value}(ry:RelV y u)(rx:RelV x v)(fy:J9 y=true)(fx:J9 x=true):EE A s u v (J8 y x):=by
 cases y with
 | non=>
  cases ry;cases x with
  | non=>cases rx;exact Dk _
  | bl b=>cases rx;exact F6 b
  | int b=>obtain⟨t,rfl⟩:=rx;exact DQ b t
  | str b=>obtain⟨t,rfl⟩:=rx;exact DR b t
  | _=>exact absurd (show false=true from fx) An
 | bl a=>
  cases ry;cases x with
  | non=>cases rx;exact F7 a
  | bl b=>cases rx;exact F8 a b
  | int b=>obtain⟨t,rfl⟩:=rx;exact FE a b t
  | str b=>obtain⟨t,rfl⟩:=rx;exact FF a b t
  | _=>exact absurd (show false=true from fx) An
 | int a=>
  obtain⟨t',rfl⟩:=ry;cases x with
  | non=>cases rx;exact DS a t'
  | bl b=>cases rx;exact FG a t' b
  | int b=>obtain⟨t,rfl⟩:=rx;exact SeqAt.EqAt.int_int a t' b t
  | str b=>obtain⟨t,rfl⟩:=rx;exact Do a t' b t
  | _=>exact absurd (show false=true from fx) An
 | str a=>
  obtain⟨t',rfl⟩:=ry;cases x with
  | non=>cases rx;exact DT a t'
  | bl b=>cases rx;exact FH a t' b
  | int b=>obtain⟨t,rfl⟩:=rx;exact Dp a t' b t
  | str b=>obtain⟨t,rfl⟩:=rx;exact SeqAt.EqAt.str_str a t' b t
  | _=>exact absurd (show false=true from fx) An
 | _=>exact absurd (show false=true from fy) An
def JQ(x:V)(u:Value):Bool:=match u with
 | .none=>J8 .non x
 | .bool b=>J8 (.bl b) x
 | .int i _=>J8 (.int i) x
 | .str z _=>J8 (.str z) x
 | _=>false
theorem Ps{x y:V}(r:RelV y u)(f:J9 y=true):JQ x u=J8 y x:=by
 cases y with
 | non=>cases r;rfl
 | bl b=>cases r;rfl
 | int i=>obtain⟨t,rfl⟩:=r;rfl
 | str z=>obtain⟨t,rfl⟩:=r;rfl
 | _=>exact absurd (show false=true from f) An
theorem MU{x:V}:∀{xs:List V}{us:List Value},Vals xs us→xs.all J9=true→us.any (JQ x)=xs.any λy=>J8 y x
 | _,_,.nil,_=>rfl
 | y::xs,u::us,.cons r t,f=>by rw[C2,AV] at f;rw[Cq,Cq,Ps r f.1,MU t f.2]
theorem Nn{x:V}{v:Value}(rx:RelV x v)(fx:J9 x=true):∀{xs:List V}{us:List Value},Vals xs us→xs.all J9=true→∀u∈us,EE A s u v (JQ x u)
 | _,_,.nil,_=>λu hu=>by cases hu
 | y::xs,u::us,.cons r t,f=>λu' hu=>by
  rw[C2,AV] at f;rcases Ax.mp hu with rfl | hu
  · rw[Ps r f.1];exact Tl r rx f.1 fx
  · exact Nn rx fx t f.2 u' hu
def M6(x:V)(xs:List V):Bool:=xs.any λy=>J8 y x
def XU(K:Af)(neg:Bool):R2:=λx y H Q=>∃p xs,y= .ref p∧(SqL K H p xs∨SqT K H p xs)∧J9 x=true∧xs.all J9=true∧Q (.bl (if neg then !M6 x xs else M6 x xs)) H
theorem WJ:HK X (Bq .NotIn) (XU X.K true):=by
 intro pins s σ H x y v u Q I rx ry h;obtain⟨p,xs,rfl,hq,fx,fs,q⟩:=h;cases ry;rcases hq with hq | hq
 · obtain⟨its,r,pl,hz⟩:=I.list hq;refine SeqAt.notIn_listAt (JQ x) pl.isList (λw hw=>Nn rx fx r fs w (by simpa using hw)) ⟨.bl _,H,I,rfl,?_⟩;rw[show its.toArray.any (JQ x)=its.any (JQ x) by simp,MU r fs];exact q
 · obtain⟨its,r,pl,hz⟩:=I.tuple hq;refine SeqAt.notIn_tupleAt (JQ x) pl (λw hw=>Nn rx fx r fs w (by simpa using hw)) ⟨.bl _,H,I,rfl,?_⟩;rw[show its.toArray.any (JQ x)=its.any (JQ x) by simp,MU r fs];exact q
theorem HY:I0 X (.builtin "len") (λxs H Q=>∃p ys,xs=[.ref p]∧(SqL X.K H p ys∨SqT X.K H p ys)∧Q (.int ys.length) H):=by
 intro pins s σ H xs us Q I r h;obtain⟨p,ys,rfl,hq,q⟩:=h;obtain⟨u,rfl,rx⟩:=IW r;cases rx;have hn:=KM;rcases hq with hq | hq
 · obtain⟨its,r',pl,hz⟩:=I.list hq;have hlen:=r'.length;exact Calls.call_len_list pl.isList (by simp only[Ak]<;>omega) ⟨.int ys.length,H,I.tok _,⟨s.toks+1,by rw[Ak,hlen]⟩,q⟩
 · obtain⟨its,r',pl,hz⟩:=I.tuple hq;have hlen:=r'.length;exact len_tuple pl (by simp only[Ak]<;>omega) ⟨.int ys.length,H,I.tok _,⟨s.toks+1,by rw[Ak,hlen]⟩,q⟩
theorem RG:I0 X (.builtin "len") (λxs H Q=>∃z,xs=[.str z]∧z.length≤As∧Q (.int z.length) H):=by intro pins s σ H xs us Q I r h;obtain⟨z,rfl,hz,q⟩:=h;obtain⟨u,rfl,t,rfl⟩:=IW r;have hn:=KM;exact len_str (by omega) ⟨.int z.length,H,I.tok _,⟨_,rfl⟩,q⟩
theorem Mx:I0 X (.type "list") (λxs H Q=>∃p ys,xs=[.ref p]∧(SqL X.K H p ys∨SqT X.K H p ys)∧∀l,H l=none→Q (.ref l) (GY H l (.lst ys))):=by
 intro pins s σ H xs us Q I r h;obtain⟨p,ys,rfl,hq,q⟩:=h;obtain⟨u,rfl,rx⟩:=IW r;cases rx;have fin:∀(its:List Value),Vals ys its→ys.length≤As→∀(h':Heap)(c':Nat),(∀b o',s.heap.get? b=some o'→h'.get? b=some o')→
  h'.get? s.heap.objs.size=some {cls:= .type "list",dict:=none,data:= .seq its.toArray c',slots:=#[]}→EP X pins σ Q (.ref s.heap.objs.size) {s with heap:=h'}:=λits r' hz h' c' kp e=>
  ⟨.ref s.heap.objs.size,_,I.laid (t':=s.toks) kp (Ae _) (show ObjOk X.prog X.w _ h' _ (.lst ys) from⟨hz,its,c',r',e⟩),rfl,q _ (I.hok.fresh (Ae _))⟩
 rcases hq with hq | hq
 · obtain⟨its,r',pl,hz⟩:=I.list hq;have hlen:=r'.length;obtain⟨o,ho,hc,n,hd⟩:=pl.isList;exact call_list_seq p (.inl rfl) ho hc hd (λh' c' kp e=>fin its r' hz h' c' kp e) (by simp only[Ak]<;>omega)
 · obtain⟨its,r',pl,hz⟩:=I.tuple hq;have hlen:=r'.length;obtain⟨o,ho,hc,n,hd⟩:=pl;exact call_list_seq p (.inr rfl) ho hc hd (λh' c' kp e=>fin its r' hz h' c' kp e) (by simp only[Ak]<;>omega)
theorem RW:I0 X (.type "tuple") (λxs H Q=>∃p ys,xs=[.ref p]∧((SqL X.K H p ys∧∀l,H l=none→Q (.ref l) (GY H l (.tup ys)))∨(SqT X.K H p ys∧Q (.ref p) H))):=by
 intro pins s σ H xs us Q I r h;obtain⟨p,ys,rfl,h⟩:=h;obtain⟨u,rfl,rx⟩:=IW r;cases rx;rcases h with⟨hq,q⟩ | ⟨hq,q⟩
 · obtain⟨its,r',pl,hz⟩:=I.list hq;have hlen:=r'.length;refine call_tuple_list pl.isList (λh' kp=>?_) (by simp only[Ak]<;>omega);have I1:Inv X pins σ H {s with heap:=h'}:=I.kept (t':=s.toks) kp;have I2:Inv X pins σ (GY H h'.objs.size (.tup ys)) {s with heap:=h'.push {cls:= .type "tuple",data:= .seq its.toArray}}:=
    I1.laid (t':=s.toks) (λb o e=>Ad _ e) (Ae _) (show ObjOk X.prog X.w _ _ _ (.tup ys) from⟨hz,its,r',IsTupP.new _ _⟩)
   exact⟨.ref h'.objs.size,_,I2,rfl,q _ (I1.hok.fresh (Ae _))⟩
 · obtain⟨its,r',pl,hz⟩:=I.tuple hq;exact call_tuple_same pl ⟨.ref p,H,I,rfl,q⟩
def RY(K:Af)(T:String)(x:V)(H:Hp):Prop:=match x with
 | .str _=>T="str"
 | .int _=>T="int"
 | .ref p=>(T="list"∧∃xs,SqL K H p xs)∨(T="tuple"∧∃o,K.lookup p=some o∧o.cls= .type "tuple"∧o.dict=none)∨
  (T="dict"∧((∃kvs,H p=some (.dK kvs))∨∃kvs,H p=some (.dT kvs)))∨(T="set"∧∃S n,H p=some (.set S n))
 | _=>False
theorem Us{T:String}{x:V}{v:Value}(I:Inv X pins σ H s)(r:RelV x v)(ty:RY X.K T x H):
 s.TypeIs v T∧∀a,v= .ref a→∃ob,s.heap.get? a=some ob∧ob.dict=none:=by
 cases x with
 | str z=> obtain⟨t,rfl⟩:=r;cases(show T="str" from ty);exact⟨typeIs_str s z t,λ_ e=>nomatch e⟩
 | int i=> obtain⟨t,rfl⟩:=r;cases(show T="int" from ty);exact⟨typeIs_int s i t,λ_ e=>nomatch e⟩
 | ref p=>
  cases r;rcases ty with⟨rfl,xs,hq⟩ | ⟨rfl,o,hk,hc,hd⟩ | ⟨rfl,hk⟩ | ⟨rfl,S,n,hk⟩
  · obtain⟨its,_,pl,_⟩:=I.list hq;refine⟨pl.isList.typeIs,λa e=>?_⟩;cases e;obtain⟨o,n,e,c,hd,_⟩:=pl;exact⟨o,e,hd⟩
  · refine⟨⟨o,I.kIn p o hk,hc⟩,λa e=>?_⟩;cases e;exact⟨o,I.kIn _ o hk,hd⟩
  · have z:∃o,s.heap.get? p=some o∧o.ExactDict:=by
     rcases hk with⟨kvs,hk⟩ | ⟨kvs,hk⟩
     · obtain⟨_,_,_,_,o,_,_,e,ex,_⟩:=I.hok p _ hk;exact⟨o,e,ex⟩
     · obtain⟨_,_,_,_,o,_,_,e,ex,_⟩:=I.hok p _ hk;exact⟨o,e,ex⟩
    obtain⟨o,e,ex⟩:=z;refine⟨⟨o,e,ex.1⟩,λa e2=>?_⟩;cases e2;exact⟨o,e,ex.2.1⟩
  · obtain⟨o,_,_,_,e,ex,_⟩:=I.hok p _ hk;refine⟨⟨o,e,ex.1⟩,λa e2=>?_⟩;cases e2;exact⟨o,e,ex.2.1⟩
 | _=>exact C4 ty
def Sa(K:Af)(T:String)(r:V→List V→Hp→VK→Prop)(to:TE)(t:TA):TE:=λσ H Q=>to σ H λx H1=>RY K T x H1∧t σ H1 λxs H2=>r x xs H2 Q
variable{o:Expr}{es:List Expr}{to:TE}{t:TA}{name:Str}{apos cpos:Pos}{T id:String}{r:V→List V→Hp→VK→Prop}
theorem J0(pa:PlainAttrs T)(slot:Slot T name id)(hty:typeOf (.builtin id)=pure (.type "method_descriptor"))(hm:Sk X id r)(ho:PE X o to)(ha:PA X (e::es) t)
 (hbase:attributeBase o name X.env (eval o X.env)=eval o X.env:=by rfl)
 (hfew:((backTo cpos (Az (e::es) X.env)).all (λx=>!x.1) && (backToKw cpos (keywordEach [] X.env)).all (λx=>x.1.isSome)
  && decide ((e::es).length+([]:List Keyword).length+(if([]:List Keyword).isEmpty then 0 else 1)<30))=true:=by rfl)
 (hline:(apos.endLine==cpos.line)=true:=by rfl) (hs:Az (e::es) X.env=(false,eval e X.env)::Az es X.env:=by rfl) (hplain:(backTo cpos (Az es X.env)).any (·.1)=false:=by rfl):
 PE X (.Call (.Attribute o name apos) (e::es) [] cpos) (Sa X.K T r to t):=by
 intro pins s σ H Q I h;refine wpAny_Call_method_late hbase hfew hline rfl (He (ho pins s σ H _ I h) λv s1 ⟨x,H1,I1,r1,ty,q1⟩=>?_);obtain⟨h1,h2⟩:=Us I1 r1 ty;refine⟨T,id,pa,slot,hty,h1,h2,?_⟩;have hA:=ha cpos pins s1 σ H1 _ I1 q1;rw[hs] at hA ⊢;refine Calls.callWith_builtin (by show(false || (backTo cpos (Az es X.env)).any (·.1))=false;rw[hplain]<;>rfl) (Calls.evalArgs_plain ?_);exact He hA λus s2 ⟨vs,H2,I2,r2,q2⟩=>hm pins s2 σ H2 x vs v us Q I2 r1 r2 q2
end
def OW(X:Cx)(id:String)(r:V→List V→Hp→VK→Prop):Prop:=
 ∀(pins:List (Addr×Obj))(s:Shared)(σ:St)(H:Hp)(x:V)(xs:List V)(v:Value)(us:List Value)(Q:VK),Inv X pins σ H s→RelV x v→Vals xs us→r x xs H Q→
  wpAny (model X.prog X.w) X.A (call (.builtin id) (v::us)) (EP X pins σ Q) X.xe s
theorem Vals.one:∀{x:V}{us:List Value},Vals [x] us→∃u,us=[u]∧RelV x u
 | _,_,.cons r .nil=>⟨_,rfl,r⟩
theorem Vals.eraseIdx:∀{xs:List V}{us:List Value}(i:Nat),Vals xs us→Vals (xs.eraseIdx i) (us.eraseIdx i)
 | _,_,_,.nil=> .nil
 | _,_,0,.cons _ t=>t
 | _,_,i+1,.cons r t=> .cons r (Vals.eraseIdx i t)
theorem QY{α:Type}:∀(l:List α)(i:Nat),(l.eraseIdx i).length≤l.length
 | [],_=>Ae _
 | _::_,0=>C9 _
 | _::r,i+1=>Nat.succ_le_succ (QY r i)
section
variable{l:Addr}{ys zs:List V}
theorem Inv.lset{its its':List Value}{n:Nat}{f:Array Value→Array Value}{t':Nat}(I:Inv X pins σ H s)(hH:H l=some (.lst xs))
 (e:s.heap.get? l=some {cls:= .type "list",data:= .seq its.toArray n}) (hf:f its.toArray=its'.toArray) (hv:Vals ys its') (hz:ys.length≤As):
 Inv X pins σ (GY H l (.lst ys)) {s with heap:=s.heap.update l (C6 f),toks:=t'}:=by
 have q:=PySem.IsL.update e f;rw[hf] at q;refine I.write (x:=l) (e:=l) (by rw[hH];exact trivial) (.inl rfl) (λb' u hb hu=>(CN s.heap (C6 f) (Ch hb)).trans hu) ⟨_,q⟩ ?_;exact⟨hz,its',_,hv,q⟩
theorem Inv.lnew{its:List Value}{t':Nat}(I:Inv X pins σ H s)(hv:Vals ys its)(hz:ys.length≤As):
 Inv X pins σ (GY H s.heap.objs.size (.lst ys)) {s with heap:=s.heap.push {cls:= .type "list",data:= .seq its.toArray},toks:=t'}:=
 I.laid (λ_ _ q=>Ad _ q) (Ae _) ⟨hz,its,0,hv,Ai _ rfl⟩
theorem Inv.fresh(I:Inv X pins σ H s):H s.heap.objs.size=none:=I.hok.fresh (Ae _)
theorem Inv.lstM(I:Inv X pins σ H s)(hH:H l=some (.lst xs)):xs.length≤As∧∃(its:List Value)(n:Nat),Vals xs its∧xs.length=its.length∧s.heap.get? l=some {cls:= .type "list",data:= .seq its.toArray n}:=by obtain⟨z,its,n,r,e⟩:=I.hok l _ hH;exact⟨z,its,n,r,r.length,e⟩
theorem Q4(h:n≤As):EL n=false:=by unfold EL;exact decide_eq_false (by omega)
end
def Up:V→List V→Hp→VK→Prop:=λx vs H Q=>∃l xs y,x= .ref l∧vs=[y]∧H l=some (.lst xs)∧xs.length<As∧Q .non (GY H l (.lst (xs++[y])))
theorem Ke:OW X "list.append" Up:=by intro pins s σ H x vs v us Q I rx rv h;obtain⟨l,xs,y,rfl,rfl,hH,hz,q⟩:=h;cases rx;obtain⟨u,rfl,ru⟩:=rv.one;obtain⟨z,its,n,r,hl,e⟩:=I.lstM hH;refine call_meets F.slot_list_append ⟨_,e,rfl⟩ F.entry_list_append (F.args_list_append_2 _ _) (PySem.list_append l its.toArray n u (by rw[Ak];omega)) ⟨e,?_⟩;refine⟨.non,_,I.lset (its':=its++[u]) hH e (by simp) (r.append (.cons ru .nil)) ?_,rfl,q⟩;rw[AG,Fp];omega
def SX:V→List V→Hp→VK→Prop:=λx vs H Q=>∃l xs i k y,x= .ref l∧vs=[.int i]∧H l=some (.lst xs)∧ -(2^63)≤i∧i<2^63∧seqIndex? i xs.length=some k∧xs[k]?=some y∧Q y (GY H l (.lst (xs.eraseIdx k)))
theorem No:OW X "list.pop" SX:=by
 intro pins s σ H x vs v us Q I rx rv h;obtain⟨l,xs,i,k,y,rfl,rfl,hH,h1,h2,hk,hy,q⟩:=h;cases rx;obtain⟨u,rfl,ru⟩:=rv.one;obtain⟨t,rfl⟩:=ru;obtain⟨z,its,n,r,hl,e⟩:=I.lstM hH;obtain⟨w,hw,rw'⟩:=r.get hy;refine call_meets F.slot_list_pop ⟨_,e,rfl⟩ F.entry_list_pop (F.args_list_pop_2 _ _)
  (MeetsSeq.list_pop_at l its.toArray n i t k w (fitsIndex_both h1 h2) (by rw[Ak,←hl];exact hk) (by rw[←AI];exact hw) (by rw[Ak];omega)) ⟨e,?_⟩
 refine⟨y,_,I.lset (its':=its.eraseIdx k) hH e ?_ (r.eraseIdx k) ?_,rw',q⟩
 · show its.toArray.eraseIdxIfInBounds k=(its.eraseIdx k).toArray;rw[List.eraseIdxIfInBounds_toArray]
 · have:=QY xs k;omega
def OA:R2:=λx y H Q=>∃l b xs zs,x= .ref l∧y= .ref b∧H l=some (.lst xs)∧H b=some (.lst zs)∧xs.length+zs.length≤As∧∀p,H p=none→Q (.ref p) (GY H p (.lst (xs++zs)))
theorem T0:HK X (binaryOp .Add) OA:=by
 intro pins s σ H x y v u Q I rx ry h;obtain⟨l,b,xs,zs,rfl,rfl,hH,hB,hz,q⟩:=h;cases rx;cases ry;obtain⟨z,its,n,r,hl,e⟩:=I.lstM hH;obtain⟨z2,its2,n2,r2,hl2,e2⟩:=I.lstM hB;refine PySem.P.add_list e e2 ?_ (by rw[Ak,Ak];omega);have ea:its.toArray++its2.toArray=(its++its2).toArray:=by simp
 rw[ea];exact⟨.ref _,_,I.lnew (t':=s.toks) (r.append r2) (by rw[AG];omega),rfl,q _ I.fresh⟩
theorem V_{a c:Nat}(hac:a≤c)(hc:c≤n):sliceBounds (some (a:Int)) (some (c:Int)) none n=((a:Int),(c:Int),1):=by
 simp only[sliceBounds,EJ];have h1:¬((a:Int)<0):=by omega
 have h2:¬((c:Int)<0):=by omega
 simp only[h1,h2,if_false,show(1:Int)>0 by decide,if_true];congr 1
 · omega
 · congr 1;omega
set_option maxRecDepth 100000 in
theorem J7{l b sl:Addr}{items new:Array Value}{n n2:Nat}{vl vu:Value}{a c:Nat}{Q:Unit→Shared→Prop}
 (e:s.heap.get? l=some {cls:= .type "list",data:= .seq items n}) (e2:s.heap.get? b=some {cls:= .type "list",data:= .seq new n2}) (hne:l≠b)
 (hs:s.heap.IsSliceOf sl vl vu .none) (pl:IsPart vl (some (a:Int))) (pu:IsPart vu (some (c:Int))) (hac:a≤c) (hc:c≤items.size)
 (hsz:items.size+new.size≤As) (h:Q () {s with heap:=s.heap.update l (C6 λxs=>xs.extract 0 a++new++xs.extract c xs.size)}):
 wpAny (model prog w) A (setItem (.ref l) (.ref sl) (.ref b)) Q E s:=by
 have hl:s.heap.IsList l items:=PySem.IsL.isList e;have hb:s.heap.IsList b new:=PySem.IsL.isList e2;obtain⟨os,hos,hcs,hds⟩:=id hs;have hTs:s.TypeIs (.ref sl) "slice":=⟨os,hos,hcs⟩;have hstep:¬((rawPart none==rawInt 0)=true):=An;have hsame:CB (.ref l) (.ref b)=false:=by unfold CB;exact beq_eq_false_iff_ne.mpr hne
 have hmax:(max (a:Int) (c:Int)).toNat=c:=by omega
 have hz':((λxs:Array Value=>xs.extract 0 a++new++xs.extract c xs.size) items).size≤As+1:=by simp only[E7,Array.size_extract];omega
 unfold setItem
 try with_reducible refine AE ?_
 first | refine Aa (Ac ?_) | skip
 refine Aa (E5 hl.typeIs (by decide) ?_);refine Aa (Bo (name:=Cw "__setitem__") hl.typeIs slot_list_setitem
  (AR slot_list_setitem hl.typeIs entry_list_setitem ?_ (args_list_setitem _ _ _)))
 show wpAny _ _ (Ed (.ref sl)>>=_) _ _ s;refine Aa ?_;unfold Ed;refine Aa (BF hTs slice_no_index ?_);simp only[Option.isNone_none,if_true];refine Ac ?_;show wpAny _ _ (typeOf (.ref sl)>>=_) _ _ s;refine Aa (Ce hTs ?_)
 first
  | rw[if_neg (by decide)]
  | refine Ef (by decide) ?_
 rw[listSliceParts_eq];refine Aa (Aa (Bs hos hds (x:= .none) rfl (Aa (Fq .none ?_))));rw[if_neg hstep];refine Aa (Bs hos hds (x:=vl) rfl (Aa (Fq pl ?_)));refine Aa (Bs hos hds (x:=vu) rfl (Aa (Fq pu (Ac ?_))))
 first
  | simp only[hsame,A3,if_false]
  | refine Ef hsame ?_
  | (dsimp only
     rw[if_neg (by rw[hsame];exact An)])
 refine Aa (m:=EF (.ref b) "must assign iterable to extended slice") ?_;unfold EF;refine Aa (Ce hb.typeIs ?_)
 first
  | refine PySem.W.KFB.if_so (by decide) ?_
  | rw[if_pos (by decide)]
  | simp only[beq_self_eq_true,Bool.true_or,if_true]
 unfold Builtin.List.listItems;refine Aa (AT e2 rfl (Ac ?_));refine Aa (Aa (AT e rfl (Ac ?_)));refine Aa (Ec ((sliceIndices_raw (some (a:Int)) (some (c:Int)) none items.size (by simp)).trans (congrArg (pure:Int×Int×Int→Sem (Int×Int×Int)) (V_ hac hc))) ?_);show wpAny _ _ (if((1:Int)==1)=true then _ else _) _ _ s
 rw[if_pos (by decide)];refine Aa (BX ?_)
 first
  | simp only[Q4 hsz,A3,if_false]
  | refine Ef (Q4 hsz) ?_
 first | refine Aa (Ac ?_) | skip
 show wpAny _ _ (updateSeq l (λxs=>xs.extract 0 ((a:Int)).toNat++new++xs.extract (max (a:Int) (c:Int)).toNat xs.size)>>=_) _ _ s;rw[hmax,Ba];refine Aa (EZ (hz:=AF (Ct _ _) hsz) (_hz':=hz') e rfl ?_);refine Aa (Ff ?_)
 first
  | exact Aa (Ac (Ac ⟨.none,rfl,Ac h⟩))
  | exact Ac ⟨.none,rfl,Ac h⟩
section
variable{κ:Type}[DecidableEq κ]
def Hv(kvs:List (κ×V))(k:κ):Option V:=(kvs.find? λkv=>decide (kv.1=k)).map (·.2)
def Hw(kvs:List (κ×V))(k:κ)(v:V):List (κ×V):=
 if(kvs.any λkv=>decide (kv.1=k))=true then kvs.map (λkv=>if kv.1=k then(kv.1,v) else kv) else kvs++[(k,v)]
theorem Jo{p:κ×V}{r:List (κ×V)}{k:κ}(e:p.1=k):Hv (p::r) k=some p.2:=by simp[Hv,CL,e]
theorem Jq{p:κ×V}{r:List (κ×V)}{k:κ}(e:¬p.1=k):Hv (p::r) k=Hv r k:=by simp[Hv,CL,e]
theorem Nl(k:κ):∀kvs:List (κ×V),(kvs.any λkv=>decide (kv.1=k))=(Hv kvs k).isSome
 | []=>rfl
 | p::r=>by
  rw[Cq];by_cases e:p.1=k
  · simp only[Jo e,decide_eq_true e,Bool.true_or,Option.isSome_some]
  · rw[Jq e,decide_eq_false e,Bool.false_or];exact Nl k r
theorem QL(k j:κ)(y:V):∀kvs:List (κ×V),Hv (kvs.map λkv=>if kv.1=k then(kv.1,y) else kv) j=(Hv kvs j).map λx=>if j=k then y else x
 | []=>rfl
 | p::r=>by
  have ih:=QL k j y r;rw[Av];by_cases h:p.1=k
  · rw[if_pos h];by_cases e:p.1=j
    · rw[Jo (p:=(p.1,y)) e,Jo e,DK,if_pos (e.symm.trans h)]
    · rw[Jq (p:=(p.1,y)) e,Jq e,ih]
  · rw[if_neg h];by_cases e:p.1=j
    · rw[Jo (p:=p) e,Jo e,DK,if_neg (λz=>h (e.trans z))]
    · rw[Jq (p:=p) e,Jq e,ih]
theorem R5(k j:κ)(y:V):∀kvs:List (κ×V),Hv kvs k=none→Hv (kvs++[(k,y)]) j=if j=k then some y else Hv kvs j
 | [],_=>by
  by_cases e:k=j
  · rw[if_pos e.symm];exact Jo (p:=(k,y)) e
  · rw[if_neg (λz=>e z.symm)];exact Jq (p:=(k,y)) e
 | p::r,hn=>by
  rw[List.cons_append];have hk:¬p.1=k:=λz=>by rw[Jo z] at hn;cases hn
  rw[Jq hk] at hn;have ih:=R5 k j y r hn;by_cases e:p.1=j
  · rw[Jo e,Jo e,if_neg (λz=>hk (e.trans z))]
  · rw[Jq e,Jq e,ih]
theorem QM(kvs:List (κ×V))(k j:κ)(y:V):Hv (Hw kvs k y) j=if j=k then some y else Hv kvs j:=by
 unfold Hw;by_cases a:(kvs.any λkv=>decide (kv.1=k))=true
 · rw[if_pos a,QL];rw[Nl] at a;by_cases e:j=k
   · obtain⟨x,hx⟩:=EI.mp a;rw[if_pos e,e,hx,DK,if_pos rfl]
   · rw[if_neg e];cases Hv kvs j with
     | none=>rfl
     | some x=>rw[DK,if_neg e]
 · rw[if_neg a];refine R5 k j y kvs ?_;rw[Nl] at a;cases q:Hv kvs k with
   | none=>rfl
   | some x=>rw[q] at a;exact(a rfl).elim
theorem NT(kvs:List (κ×V))(k:κ)(v:V):(Hw kvs k v).length≤kvs.length+1:=by
 unfold Hw
 split
 · rw[Ab];omega
 · rw[AG,A5,List.length_nil];omega
theorem RelO.isSome_eq{o:Option V}{u:Option Value}(r:RelO o u):o.isSome=u.isSome:=by
 cases o with
 | none=>cases u with
  | none=>rfl
  | some _=>exact(show False from r).elim
 | some _=>cases u with
  | none=>exact(show False from r).elim
  | some _=>rfl
theorem KV.val{kvs:List (κ×V)}{vs:List (κ×Value)}(r:KV kvs vs)(k:κ):RelO (Hv kvs k) (valueAt vs k):=by
 unfold KV at r
 induction r with
 | nil=>exact True.intro
 | @cons p q ps qs h t ih=>
  obtain⟨h1,h2⟩:=h;by_cases e:p.1=k
  · have e':q.1=k:=h1.symm.trans e;have b:valueAt (q::qs) k=some q.2:=by simp[valueAt,CL,e']
    rw[Jo e,b];exact h2
  · have e':¬q.1=k:=λz=>e (h1.trans z);have b:valueAt (q::qs) k=valueAt qs k:=by simp[valueAt,CL,e']
    rw[Jq e,b];exact ih
theorem KV.any{kvs:List (κ×V)}{vs:List (κ×Value)}(r:KV kvs vs)(k:κ):(kvs.any λkv=>decide (kv.1=k))=vs.any λkv=>decide (kv.1=k):=by
 unfold KV at r
 induction r with
 | nil=>rfl
 | cons h t ih=>rw[Cq,Cq,ih,h.1]
theorem KV.repl{kvs:List (κ×V)}{vs:List (κ×Value)}(r:KV kvs vs)(k:κ){y:V}(ry:RelV y u):
 KV (kvs.map λkv=>if kv.1=k then(kv.1,y) else kv) (vs.map λkv=>if kv.1=k then(kv.1,u) else kv):=by
 unfold KV at r ⊢
 induction r with
 | nil=>exact .nil
 | @cons p q ps qs h t ih=>
  rw[Av,Av];refine .cons ?_ ih;obtain⟨h1,h2⟩:=h;by_cases e:p.1=k
  · rw[if_pos e,if_pos (h1.symm.trans e)];exact⟨h1,ry⟩
  · rw[if_neg e,if_neg (λz=>e (h1.trans z))];exact⟨h1,h2⟩
theorem KV.put{kvs:List (κ×V)}{vs:List (κ×Value)}(r:KV kvs vs)(k:κ){y:V}(ry:RelV y u):KV (Hw kvs k y) (stored vs k u):=by
 unfold Hw stored;rw[r.any k];by_cases e:(vs.any λkv=>decide (kv.1=k))=true
 · rw[if_pos e,if_pos e];exact r.repl k ry
 · rw[if_neg e,if_neg e];exact Paired.snoc r ⟨rfl,ry⟩
theorem KV.length{kvs:List (κ×V)}{vs:List (κ×Value)}(r:KV kvs vs):kvs.length=vs.length:=Paired.length r
end
theorem Le{k:Hs}(r:RelV (kV k) u):(IP P w).is k u=true:=by
 cases k with
 | inl i=>obtain⟨t,e⟩:=(show ∃t,u=Value.int i t from r);subst e;exact Ww P w i t
 | inr x=>obtain⟨t,e⟩:=(show ∃t,u=Value.str x t from r);subst e;exact Wx P w x t
theorem Rt:∀{ks:List Hs}{us:List Value},Vals (ks.map kV) us→ItemsAre (IP P w) ks us
 | [],_,r=>by rw[DL] at r;cases r;exact .nil
 | k::ks,_,r=>by
  rw[Av] at r;cases r with
  | cons h t=>exact .cons (Le h) (Rt t)
abbrev KT(H:Hp):List (List Hs×V)→List (List Hs×Addr×Value)→Prop:=Paired λp q=>p.1=q.1∧H q.2.1=some (.tup (p.1.map kV))∧RelV p.2 q.2.2
theorem KT.val{kvs:List (List Hs×V)}{xs:List (List Hs×Addr×Value)}(r:KT H kvs xs)(k:List Hs):RelO (Hv kvs k) ((atKey xs k).map (·.2)):=by
 induction r with
 | nil=>exact True.intro
 | @cons p q ps qs h t ih=>
  obtain⟨h1,_,h2⟩:=h;by_cases e:p.1=k
  · have e':q.1=k:=h1.symm.trans e;have b:atKey (q::qs) k=some q.2:=by simp[atKey,CL,e']
    rw[Jo e,b];exact h2
  · have e':¬q.1=k:=λz=>e (h1.trans z);have b:atKey (q::qs) k=atKey qs k:=by simp[atKey,CL,e']
    rw[Jq e,b];exact ih
theorem Pa{u:HO}(ok:HOk P w H h)(e:Rd H a u):ObjOk P w H h a u:=e.ok ok
theorem LO{kvs:List (Hs×V)}(ok:HOk P w H h)(e:Rd H a (.dK kvs)):kvs.length≤As∧(a==Cn)=false∧∃vs,KV kvs vs∧h.DictOf (IP P w) a vs:=
 show ObjOk P w H h a (.dK kvs) from Pa ok e
theorem Jy{kvs:List (Hs×V)}(ok:HOk P w H h)(e:H a=some (.dK kvs)):kvs.length≤As∧(a==Cn)=false∧∃vs,KV kvs vs∧h.DictOf (IP P w) a vs:=LO ok (.inl e)
theorem MR{ks:List Hs}(ok:HOk P w H h)(e:H a=some (.tup (ks.map kV))):(tupleKind (IP P w)).is h ks a:=by obtain⟨_,its,r,o,h1,h2,_,n,h3⟩:=(show ObjOk P w H h a (.tup (ks.map kV)) from ok a _ e);exact⟨o,its.toArray,n,h1,h2,h3,by simpa using Rt r⟩
theorem MD{kvs:List (List Hs×V)}(ok:HOk P w H h)(e:Rd H a (.dT kvs)):kvs.length≤As∧(a==Cn)=false∧
 ∃xs,KT H kvs xs∧h.DictOfH (tupleKind (IP P w)) a xs:=by
 obtain⟨z,y,xs,r,o,es,ep,h1,h2,h3,h4,h5⟩:=(show ObjOk P w H h a (.dT kvs) from Pa ok e);refine⟨z,y,xs,r,o,es,ep,h1,h2,h3,h4,λx hx=>?_,h5⟩;have all:∀{l:List (List Hs×V)}{m:List (List Hs×Addr×Value)},KT H l m→∀x∈m,(tupleKind (IP P w)).is h x.1 x.2.1:=by
  intro l m q
  induction q with
  | nil=>intro x hx;exact nomatch hx
  | @cons p q ps qs hq t ih=>
   intro x hx;rcases Ax.mp hx with e | hx
   · subst e;exact MR ok (by rw[←hq.1];exact hq.2.1)
   · exact ih x hx
 exact all r x hx
def DGet(H:Hp)(a:Addr)(y:V)(r:Option V):Prop:=
 (∃kvs k,Rd H a (.dK kvs)∧y=kV k∧r=Hv kvs k)∨∃kvs k b,Rd H a (.dT kvs)∧y= .ref b∧H b=some (.tup (k.map kV))∧r=Hv kvs k
theorem DGet.k{kvs:List (Hs×V)}{k:Hs}(e:H a=some (.dK kvs)):DGet H a (kV k) (Hv kvs k):= .inl ⟨kvs,k,.inl e,rfl,rfl⟩
section
variable{y v:V}{r:Value}{o:Option V}
theorem Inv.big(I:Inv X pins σ H s):Cn<s.heap.objs.size:=by have h:A0<s.heap.objs.size:=(I.mod.glob.keeps I.bk).lt;exact BU (by decide) h
theorem V3{Q:Value→Shared→Prop}(hu:A.units+1<cLine)(I:Inv X pins σ H s)(g:DGet H a y (some v))(ry:RelV y u)(h:∀w' s',Inv X pins σ H s'→RelV v w'→Q w' s'):
 wpAny (model X.prog X.w) A (getItem (.ref a) u) Q E s:=by
 rcases g with⟨kvs,k,e,ey,l⟩ | ⟨kvs,k,b,e,ey,eb,l⟩
 · subst ey;obtain⟨z,hd,vs,rel,dd⟩:=LO I.hok e;obtain⟨w',hw,rw'⟩:=RelO.some_of (v:=v) (o:=valueAt vs k) (by rw[l];exact rel.val k);exact wpAny_getItem_of (Le ry) dd.mapOf hw (h w' _ (I.tok _) rw')
 · subst ey;cases(show u=Value.ref b from ry);obtain⟨z,hd,xs,rel,dd⟩:=MD I.hok e;obtain⟨w',hw,rw'⟩:=RelO.some_of (v:=v) (o:=(atKey xs k).map (·.2)) (by rw[l];exact rel.val k);obtain⟨p,hp,hp2⟩:=Option.map_eq_some_iff.mp hw;refine wpAny_getItem_heap (tupleKind_room_in1 hu) (MR I.hok eb) dd hp ?_;rw[hp2];exact h w' _ (I.tok _) rw'
theorem TX{Q:Value→Shared→Prop}(hu:A.units+1<cLine)(I:Inv X pins σ H s)(g:DGet H a y o)(ry:RelV y u)(h:∀s',Inv X pins σ H s'→Q (.bool (!o.isSome)) s'):
 wpAny (model X.prog X.w) A (Bq .NotIn u (.ref a)) Q E s:=by
 rcases g with⟨kvs,k,e,ey,l⟩ | ⟨kvs,k,b,e,ey,eb,l⟩
 · subst ey;obtain⟨z,hd,vs,rel,dd⟩:=LO I.hok e;refine wpAny_notIn_of (Le ry) hd dd.mapOf ?_;rw[←(rel.val k).isSome_eq,←l];exact h _ (I.tok _)
 · subst ey;cases(show u=Value.ref b from ry);obtain⟨z,hd,xs,rel,dd⟩:=MD I.hok e;refine wpAny_notIn_heap (tupleKind_room_in1 hu) (MR I.hok eb) hd dd ?_;have q:=(rel.val k).isSome_eq;rw[Option.isSome_map] at q;rw[←q,←l];exact h _ (I.tok _)
theorem Qo{h':Heap}{t':Nat}{ob:HO}(I:Inv X pins σ H s)(mu:LL (H a))(hs:BS a s.heap h')(he:∃q,h'.get? a=some q)(new:ObjOk X.prog X.w (GY H a ob) h' a ob):
 Inv X pins σ (GY H a ob) {s with heap:=h',toks:=t'}:=
 I.write (x:=a) (e:=a) mu (.inl rfl) (λb q hb z=>(hs.2 b hb).trans z) he new
theorem Pq{H':Hp}{h':Heap}{kvs:List (Hs×V)}{vs:List (Hs×Value)}(z:kvs.length≤As)(hd:(a==Cn)=false)(rel:KV kvs vs)(dd:h'.DictOf (IP P w) a vs):
 ObjOk P w H' h' a (.dK kvs):=⟨z,hd,vs,rel,dd⟩
end
section
variable{kvs:List (Hs×V)}{k:Hs}
end
def LK(i:Expr):Prop:=∀ov iv,subscripted i false ov iv=operate [ov,iv] (getItem ov iv)
theorem TM{prog:Bb}{w:World}{A:BB}{E:Value→Shared→Prop}{s:Shared}{env:Env}{value slice:Expr}{pos:Pos}{T id:String}{Q:Value→Shared→Prop}
 (hl:typeLookup (.type T) "__getitem__"=pure (some (.builtin id))) (hs:LK slice)
 (h:wpAny (model prog w) A (eval value env) (λo s₁=>wpAny (model prog w) A (eval slice env) (λi s₂=>s₂.TypeIs o T∧wpAny (model prog w) A (getItem o i) Q E s₂) E s₁) E s):
 wpAny (model prog w) A (eval (.Subscript value slice pos) env) Q E s:=by
 refine Subscript_ (A9 h (λo s₁ h₁=>A9 h₁ (λi s₂ h₂=>?_) λ_ _ x=>x) λ_ _ x=>x);obtain⟨hT,h₂⟩:=h₂;unfold subscriptTail;refine Aa ?_;rw[getitemInPython_of_ne hT.not_modules];refine Aa (BF hT hl ?_);have fin:wpAny (model prog w) A (subscripted slice false o i) (λr s₃=>wpAny (model prog w) A (letTemporaryGo value o r>>=λ_=>pure r) Q E s₃) E s₂:=by rw[hs o i];exact wpAny_operating (A9 h₂ (λr s₃ h₃=>Aa (wpAny_letTemporaryGo (Ac h₃))) λ_ _ x=>x)
 first
  | exact Ac (Aa fin)
  | exact Aa (Ac (Aa fin))
  | exact Aa fin
theorem Wr{y:V}{o:Option V}(I:Inv X pins σ H s)(g:DGet H a y o):s.TypeIs (.ref a) "dict":=by
 rcases g with⟨kvs,k,e,_,_⟩ | ⟨kvs,k,b,e,_,_,_⟩
 · obtain⟨_,_,vs,_,dd⟩:=LO I.hok e;exact dd.typeIs
 · obtain⟨_,_,xs,_,dd⟩:=MD I.hok e;exact dd.typeIs
def T5(td ty:TE):TE:=λσ H Q=>td σ H λx H1=>ty σ H1 λy H2=>∃a v,x= .ref a∧DGet H2 a y (some v)∧Q v H2
def TN(ty td:TE):TE:=λσ H Q=>ty σ H λy H1=>td σ H1 λx H2=>∃a o,x= .ref a∧DGet H2 a y o∧Q (.bl (!o.isSome)) H2
section
variable{o i value:Expr}{pos' tpos:Pos}{td ty tv:TE}
theorem Nf(hu:X.A.units+1<cLine)(ho:PE X o td)(hi:PE X i ty)(hs:LK i):PE X (.Subscript o i pos) (T5 td ty):=by intro pins s σ H Q I h;refine TM PySem.F.slot_dict_getitem.lookup hs (He (ho pins s σ H _ I h) λu s1 ⟨x,H1,I1,rx,q1⟩=>He (hi pins s1 σ H1 _ I1 q1) λiv s2 ⟨y,H2,I2,ry,a,v,ex,g,q2⟩=>?_);subst ex;obtain rfl:u=Value.ref a:=rx;exact⟨Wr I2 g,V3 hu I2 g ry λw' s3 I3 rw'=>⟨v,H2,I3,rw',q2⟩⟩
theorem Ra(hu:X.A.units+1<cLine)(hi:PE X i ty)(ho:PE X o td):PC X .NotIn i o (TN ty td):=by intro pins s σ H Q I h;refine He (hi pins s σ H _ I h) λiv s1 ⟨y,H1,I1,ry,q1⟩=>He (ho pins s1 σ H1 _ I1 q1) λu s2 ⟨x,H2,I2,rx,a,ov,ex,g,q2⟩=>?_;subst ex;obtain rfl:u=Value.ref a:=rx;exact TX hu I2 g ry λs3 I3=>⟨.bl (!ov.isSome),H2,I3,rfl,q2⟩
end
theorem QV(h:Heap)(hb:Cn<h.objs.size):ObjOk P w H (h.push {cls:= .type "dict",data:= .dict #[]}) h.objs.size (.dK []):=
 ⟨Br _,beq_eq_false_iff_ne.mpr (Ch (Al hb)),[],.nil,Heap.DictOf.new h⟩
section
variable{y d:V}{r:Value}{o:Option V}
end
section
variable{o f:Expr}{apos cpos:Pos}{td ty tx:TE}
end
section
variable{kvs:List (Hs×V)}
end
section
variable{y:V}
end
end L2
namespace Att
open PySem PySem.W PySem.Calls PyProof.Rows
theorem X9{P:Params}:∀(ns:List Int)(vs:List Value),WellAll P h vs (ns.map WData.int)→IntsAre vs ns:=by
 intro ns
 induction ns with
 | nil=> intro vs w;rw[DL] at w;cases w;exact .nil
 | cons n ns ih=>
  intro vs w;rw[Av] at w;cases w with
  | cons a b=> cases a;exact .cons _ _ (ih _ b)
theorem Wl{l:OpenLaw}(hn:l.most=some n){P:Params}{h:Heap}{args:List WData}{vals:List Value}
 (hpre:l.row.toRowW.claim.pre args=true) (hwl:WellAll P h vals args):
 ∃a vs ns,vals=[Value.ref a]∧args=[WData.list (ns.map WData.int)]∧h.get? a=some {cls:= .type "list",data:= .seq vs.toArray}∧IntsAre vs ns∧ns.length≤n:=by
 have hsh:WShape.hasAll [] args [.list .int]=true:=(pre_splitW hpre).1;have hc:l.pre.holds [] {args:=args}=true:=(pre_splitW hpre).2;obtain⟨d,r,rfl,h1,h2⟩:=hasAllW_cons hsh;obtain rfl:=hasAllW_nil h2;obtain⟨xs,rfl,h3⟩:=hasW_list h1;obtain⟨ns,rfl⟩:=items_int h3;have hlen:ns.length≤n:=by
  unfold OpenLaw.pre at hc;have h4:(WTm.not (.lt (.lit (.int (n:Int))) (.len (.arg 0)))).holds [] {args:=[.list (ns.map .int)]}=true:=by have h4:=(holds_andW hc).1;rw[hn] at h4;exact h4
  have h5:=condW_of h4 (w_not (w_lt w_lit (w_len_list (w_arg rfl))));rw[Ab] at h5;refine Nat.le_of_not_lt λq=>?_;have q':(n:Int)<((ns.length:Nat):Int):=by omega
  first
   | (rw[decide_eq_true q'] at h5;exact absurd h5 (by decide))
   | (simp at h5;omega)
 cases hwl with
 | cons w1 w2=>
  cases w2;cases w1 with
  | list ho hall=>exact⟨_,_,ns,rfl,rfl,ho,X9 ns _ hall,hlen⟩
theorem Vi(l:OpenLaw)(args:List WData):l.row.toRowW.claim.post args (.bool true) args=true:=
 postW_of (r:=l.row.toRowW) (X:=(true==true))
  (show WShape.has [] (.bool true) .bool=true by first | rfl | decide | simp[WShape.has,WShape.arms,WShape.armsAll])
  (show(WTm.eq .res (.lit (.bool true))).value [] {args:=args,res:=some (.bool true),after:=args}=some (.bool (true==true)) from w_eq_bool (w_res rfl) w_lit) rfl
theorem attach_call{l:OpenLaw}{n:Nat}{q:Bb}{loose:List Str}{XP:(Str→Option Value)→Heap→Prop}{YP:World→Heap→Prop}{d:DefRec}
 (hn:l.most=some n) (hdf:d.params.defaults=[])
 (call:∀(w:World)(s₀ s₁:Shared)(mg mb:Str→Option Value)(fa:Addr)(o:Obj)(pm cd doc:Value)(a:Addr)(vs:List Value)(ns:List Int),
  Ground q loose [] XP w s₀ mg mb s₁.heap→YP w s₁.heap→
  s₁.heap.get? fa=some o→o.data= .func (docDef d.name d.params d.body d.scope pm cd doc)→s₁.heap.CodeRec cd d.name→mg d.name=some (.ref fa)→
  s₁.heap.get? a=some {cls:= .type "list",data:= .seq vs.toArray}→IntsAre vs ns→ns.length≤n→s₁.gens=#[]→
  codeAny (model l.prog w) callerA (.call (.ref fa) ⟨[.ref a],[]⟩) (λr s'=>r= .ok (.ret (.bool true))∧OldK s₁.heap s'.heap∧s'.os=s₁.os∧AllBare s'.gens) s₁):
 WalkO q loose XP YP l.row.toRowW d [] (λf vs=>PySem.call f vs):=by
 intro w s₀ s₁ mg mb G Y fa o pm cd doc dV kV ho hd hcd hD hmg hg args vals as hpre hlay hrd hwl hlo;obtain rfl:dV= .none:=Dflts.none hD hdf;obtain rfl:kV= .none:=Dflts.noKw hD;obtain⟨a,vs,ns,rfl,rfl,hobj,hints,hlen⟩:=Wl hn hpre hwl;refine enter_call (Cd (call w s₀ s₁ mg mb fa o pm cd doc a vs ns G Y ho (fd_plain hd) hcd hmg hobj hints hlen hg) λr s' hq=>?_);obtain⟨rfl,h2,h3,h4⟩:=hq;exact⟨.inl ⟨.bool true,.bool true,[],rfl,λ_=>rfl,.bool true,Vi l _,λ_=>⟨List.Pairwise.nil,λ_ hm=>(nomatch hm)⟩⟩,h2,h3,h4⟩
section
variable{K:Frag}
end
end Att
namespace L2
theorem R6:∀{vs:List Value}{ns:List Int},IntsAre vs ns→Vals (ns.map V.int) vs
 | _,_,.nil=> .nil
 | _,_,.cons n t h=> .cons ⟨t,rfl⟩ (R6 h)
def KB(H:Hp):Prop:=∀b,H b=none∨∃o xs,H b=some (.frz o (.lst xs))
theorem UU{P:Bb}{w:World}{K:Af}{mg mb:Str→Option Value}{CX:Jw}{k:Nat}{fa a:Addr}{fd:Bv}{x:Str}{sp:Sp}{s₁:Shared}{vs:List Value}{ns:List Int}
 (KX:K.In s₁.heap) (hns:s₁.heap.Ns A0 mg) (hb:s₁.heap.Ns builtinsNs mb) (hbb:∀x:Str,x≠"__name__"→mb x=AQ x) (hlim:s₁.heap.NoLimit) (hg:s₁.gens=#[])
 (ha:s₁.heap.get? a=some {cls:= .type "list",data:= .seq vs.toArray}) (hi:IntsAre vs ns) (hl:ns.length≤As) (hr:Room k callerA)
 (F:∀base:Heap,K.In base→base.Ns A0 mg→FnOk P w K mg base CX k fa fd [x] sp) (hbind:∀(s:Shared)(u:Value),BindsTo s fd ⟨[u],[]⟩ [(x,u)])
 (hsp:∀H:Hp,KB H→SqL K H a (ns.map V.int)→sp [.ref a] H (λv _=>v= .bl true) λ_ _ _=>False)
 (hCX:∀H e s',CX [] H s₁ (λ_ _ _=>False) e s'→False):
 codeAny (model P w) callerA (.call (.ref fa) ⟨[.ref a],[]⟩) (λr s'=>r= .ok (.ret (.bool true))∧OldK s₁.heap s'.heap∧s'.os=s₁.os∧AllBare s'.gens) s₁:=by
 have rv:=R6 hi;have lenV:=hi.length;have HW:∀H:Hp,KB H→SqL K H a (ns.map V.int)→HOk P w H s₁.heap→(∀b,H b≠none→b=a)→(H a≠none→K.lookup a=none)→
  codeAny (model P w) callerA (.call (.ref fa) ⟨[.ref a],[]⟩) (λr s'=>r= .ok (.ret (.bool true))∧OldK s₁.heap s'.heap∧s'.os=s₁.os∧AllBare s'.gens) s₁:=by
  intro H hO hS hok hA hK;have base_of:∀{b:Addr}{o:Obj},s₁.heap.get? b=some o→H b=none→(Ix s₁.heap H).get? b=some o:=λe n=>US e n;have noA:∀{b:Addr}{o:Obj}{es:Array DictEntry}{ep:Nat},s₁.heap.get? b=some o→o.data= .dict es ep→H b=none:=λ{b o es ep}e d=>by
   cases q:H b with
   | none=>rfl
   | some u=> have e':b=a:=hA b (by rw[q];simp);subst e';rw[ha] at e;cases e;have d':Data.seq vs.toArray _=Data.dict es ep:=d;cases d'
  have nsK:∀{b:Addr}{m:Str→Option Value},s₁.heap.Ns b m→(Ix s₁.heap H).Ns b m:=λ{b m} ⟨o,es,ep,e,d,r⟩=>⟨o,es,ep,base_of e (noA e d),d,r⟩;have hKb:K.In (Ix s₁.heap H):=λb o e=>base_of (KX b o e) (by
   cases q:H b with
   | none=>rfl
   | some u=> have e':b=a:=hA b (by rw[q];simp);subst e';rw[hK (by rw[q];simp)] at e;cases e)
  have hM:Mod K mg (Ix s₁.heap H):=⟨hKb,nsK hns,⟨mb,nsK hb,hbb⟩,let⟨mc,h1,h2⟩:=hlim;⟨mc,nsK h1,h2⟩⟩;have e0:Env0 P w K mg (Ix s₁.heap H) callerA [] s₁ H:=⟨rfl,hM,λb o e=>Uk e,Nat.le_of_eq (Vs _ _),trivial,λb hb=>absurd (show b∈([]:List Addr) from hb) (by simp),hok,.of_eq hg⟩;refine Cd ((F _ hKb (nsK hns)).run callerA [] s₁ H ⟨[.ref a],[]⟩ [.ref a] [.ref a] _ _ hr e0 (hbind s₁ (.ref a)) (.cons rfl .nil) (hsp H hO hS)) λr s' h=>?_;cases r with
  | error e=>exact(hCX H e s' h).elim
  | ok fl=>
   cases fl with
   | next=>exact C4 h
   | brk=>exact C4 h
   | cont=>exact C4 h
   | ret u=>
    obtain⟨v,H',os,bare,un,hok',r',q⟩:=h;have q':v= .bl true:=q;subst q';obtain rfl:u=Value.bool true:=r';refine⟨rfl,OldK.of_keep λb o e=>?_,os,bare⟩;cases q:H b with
    | none=>exact un.keep b o e q (by intro z;exact absurd (show b∈([]:List Addr) from z) (by simp)) (by simp)
    | some u=>
     rcases hO b with z | ⟨ob,xs,z⟩
     · rw[q] at z;cases z
     · have z2:=un.frzs b ob _ z;obtain⟨e1,_⟩:=hok b _ z;obtain⟨e2,_⟩:=hok' b _ z2;rw[e] at e1;cases e1;exact e2
 cases hk:K.lookup a with
 | some o=> have e:=KX a o hk;rw[ha] at e;cases e;refine HW (λ_=>none) (λ_=> .inl rfl) (.inr ⟨_,vs.toArray,_,hk,rfl,rfl,rfl,by rw[Ak,lenV];exact hl,by simpa using rv⟩) (λb u z=>by have z':(none:Option HO)=some u:=z;cases z') (λb z=>absurd rfl z) λz=>absurd rfl z
 | none=>
  refine HW (λb=>if b=a then some (.frz {cls:= .type "list",data:= .seq vs.toArray} (.lst (ns.map V.int))) else none) (λb=>?_) (.inl (.inr ⟨{cls:= .type "list",data:= .seq vs.toArray},if_pos rfl⟩)) (λb u z=>?_) (λb z=>?_) λ_=>hk
  · by_cases hb:b=a
    · exact .inr ⟨_,_,if_pos hb⟩
    · exact .inl (if_neg hb)
  · by_cases hb:b=a
    · have z':=(if_pos hb).symm.trans z;cases z';subst hb;exact⟨ha,by rw[Ab];exact hl,vs,_,rv,ha⟩
    · have z':=(if_neg hb).symm.trans z;cases z'
  · by_cases hb:b=a
    · exact hb
    · exact absurd (if_neg hb) z
abbrev KOf{K:Af}{h:Heap}(_:K.In h):Af:=K
theorem walk_of{l:E_}{n k:Nat}{q:Bb}{loose:List Str}{XP:(Str→Option Value)→Heap→Prop}{YP:World→Heap→Prop}{d:DefRec}{K:Params→Af}{CX:World→Jw}{sp:World→Sp}{x:Str}
 (hn:l.most=some n) (hn2:n≤As) (hdf:d.params.defaults=[]) (hr:Room k callerA)
 (hY:∀(w:World)(h:Heap),YP w h→(K w.params).In h)
 (F:∀(w:World)(mg:Str→Option Value)(fa:Addr)(h:Heap),(K w.params).In h→h.Ns A0 mg→mg d.name=some (.ref fa)→
  ∃fd:Bv,(∀(s:Shared)(u:Value),BindsTo s fd ⟨[u],[]⟩ [(x,u)])∧
   ∀base:Heap,(K w.params).In base→base.Ns A0 mg→FnOk l.prog w (K w.params) mg base (CX w) k fa fd [x] (sp w))
 (hsp:∀(w:World)(H:Hp)(a:Addr)(ns:List Int),ns.length≤n→KB H→SqL (K w.params) H a (ns.map V.int)→sp w [.ref a] H (λv _=>v= .bl true) λ_ _ _=>False)
 (hCX:∀(w:World)(H:Hp)(s:Shared)(e:Value)(s':Shared),CX w [] H s (λ_ _ _=>False) e s'→False):
 PySem.W.WalkO q loose XP YP l.row.toRowW d [] (λf vs=>PySem.call f vs):=by
 refine Att.attach_call hn hdf λw s₀ s₁ mg mb fa o pm cd doc a vs ns G Y ho hd hcd hmg hobj hints hlen hg=>?_;have KX:=hY w _ Y;obtain⟨fd,hb,hF⟩:=F w mg fa _ KX G.T.g hmg;exact UU KX G.T.g G.T.b G.T.builtins G.T.nolimit hg hobj hints (AF hlen hn2) hr hF hb (λH hO hS=>hsp w H a ns hlen hO hS) λH e s'=>hCX w H s₁ e s'
def Jj(s:Stmt):Arguments:=match s with
 | .FunctionDef _ a _ _ _ _ _ _ _ _=>a
 | _=>{posonlyargs:=[],args:=[],vararg:=none,kwonlyargs:=[],kw_defaults:=[],kwarg:=none,defaults:=[]}
def Jd(s:Stmt):List Stmt:=match s with
 | .FunctionDef _ _ b _ _ _ _ _ _ _=>b
 | _=>[]
def Hj(s:Stmt):Scope:=match s with
 | .FunctionDef _ _ _ _ _ _ sc _ _ _=>sc
 | _=>{kind:= .function,names:=[],isGenerator:=false,isCoroutine:=false}
abbrev Hu:Jw:=λ_ _ _ _ _ _=>False
abbrev E0:XK:=λ_ _ _=>False
theorem SD:MI Hu X E0:=λ_ _ _ _ _ _ _ h=>h.elim
structure Fun(K:Af)(x qual:Str)(st:Stmt)(f:Addr)(fd:Bv):Prop where
 ex:∃(oc:Value)(od:Option Addr)(kV doc pm:Value)(an:Option Addr)(cdv ct:Value)(osl:Array (Option Value)),
  fd=CT x qual (Jj st) (Jd st) (Hj st) .none kV doc pm an cdv ct∧K.lookup f=some ⟨oc,od,.func fd,osl⟩∧Fo K cdv qual=true
 kp:D_ K (.ref f)=true
section
variable{mg:Str→Option Value}{base:Heap}
theorem Fun.ok{qual:Str}{st:Stmt}{f:Addr}{fd:Bv}{N ps:List Str}{k:Nat}{sp:Sp}(F:Fun K x qual st f fd)(S:FnScope N ps (Hj st))(len:∀vs H Q E,sp vs H Q E→vs.length=ps.length)
 (hbody:∀(cdv:Value)(A:BB)(outer:List Env)(s:Shared)(H:Hp)(vs:List V)(Q:VK)(E:XK),Room k (A.deeper (envOfC qual (Hj st) s.heap.objs.size f cdv))→sp vs H Q E→
  ∃t,PSs (Ja Hu P w K mg base N qual (Hj st) f cdv A outer s H E).nox (Jd st) t∧t {nx:=λ_ H'=>Q .non H',rt:=Q} (start N vs) H):FnOk P w K mg base Hu (k+1) f fd ps sp:=by
 obtain⟨oc,od,kV,doc,pm,an,cdv,ct,osl,rfl,lk,hcd⟩:=F.ex;refine Su lk hcd S len λA outer s H vs Q E hr hsp=>?_;obtain⟨t,h,q⟩:=hbody cdv A outer s H vs Q E hr hsp;exact⟨t,h.nox,q⟩
theorem Fun.binds{qual:Str}{st:Stmt}{f:Addr}{fd:Bv}{ps:List Str}(F:Fun K x qual st f fd)
 (h:∀(kV doc pm:Value)(an:Option Addr)(cdv ct:Value)(us:List Value),us.length=ps.length→bindArgs (CT x qual (Jj st) (Jd st) (Hj st) .none kV doc pm an cdv ct) ⟨us,[]⟩=pure (ps.zip us)):Binds K fd ps []:=by
 obtain⟨oc,od,kV,doc,pm,an,cdv,ct,osl,rfl,lk,hcd⟩:=F.ex;exact .all (h kV doc pm an cdv ct)
theorem fun_mk{qual:Str}{st:Stmt}{f:Addr}{oc:Value}{od an:Option Addr}{osl:Array (Option Value)}{kV doc pm cdv ct:Value}(l:K.lookup f=some ⟨oc,od,.func (CT x qual (Jj st) (Jd st) (Hj st) .none kV doc pm an cdv ct),osl⟩)
 (c:Fo K cdv qual=true) (k:D_ K (.ref f)=true):Fun K x qual st f (CT x qual (Jj st) (Jd st) (Hj st) .none kV doc pm an cdv ct):=⟨⟨oc,od,kV,doc,pm,an,cdv,ct,osl,rfl,l,c⟩,k⟩
end
theorem Ld{k:Nat}(hr:Room k A):A.units+1<cLine:=Cj (FI (by decide:1≤64) _) hr.units
theorem HR(h:n≤1000):n<As:=Cj h (by decide)
theorem pv(i:Nat){pos:Pos}(hN:X.N[i]?=some x:=by rfl)(hv:M9 X.env.scope x:=by first | exact Or.inl rfl | exact Or.inr (Or.inl rfl) | exact Or.inr (Or.inr rfl))(hd:(x==("__debug__":Str))=false:=by decide)
 (hcd:(x==("__classdict__":Str))=false:=by decide):PE X (.Name x pos) (Js i):=SR hN hv hd hcd
theorem Ha{A B:Prop}(h:B):if false=true then A else B:=by rw[if_neg An];exact h
theorem Hc{A B:Prop}(h:A):if true=true then A else B:=by rw[if_pos rfl];exact h
theorem HD{c A B:Prop}[Decidable c](h1:c→A)(h2:¬c→B):if c then A else B:=by
 by_cases h:c
 · rw[if_pos h];exact h1 h
 · rw[if_neg h];exact h2 h
def Same(H H':Hp):Prop:=∀b o,H b=some o→H' b=some o
theorem Same.refl(H:Hp):Same H H:=λ_ _ h=>h
theorem Same.trans{H1 H2:Hp}(a:Same H H1)(b:Same H1 H2):Same H H2:=λc o h=>b c o (a c o h)
theorem Same.free{H':Hp}(e:Same H H'){l:Addr}(h:H' l=Option.none):H l=Option.none:=by
 cases q:H l with
 | none=>rfl
 | some o=> rw[e l o q] at h;cases h
theorem Same.seq{H':Hp}(e:Same H H')(h:SqL K H a xs):SqL K H' a xs:=by
 rcases h with(h | ⟨o,h⟩) | h
 · exact .inl (.inl (e _ _ h))
 · exact .inl (.inr ⟨o,e _ _ h⟩)
 · exact .inr h
section
variable{κ:Type}[DecidableEq κ]
end
def HS(X:Cx)(N':List Str)(scope:Scope)(cl:List (Str×Addr))(C:Addr)(s₀:Shared)(H₀:Hp)(ex:List Addr):Cx:=
 {prog:=X.prog,w:=X.w,K:=X.K,mg:=X.mg,base:=X.base,A:=X.A,N:=N',s₀:=s₀,H₀:=H₀,env:=compEnvC scope cl C X.env,outer:=X.stack,stack:=X.stack,ex:=ex,fn:=λx=>scope.names.lookup x==some .cell,calm:=X.calm,pn:=[],xe:=λ_ _=>False}
abbrev HU:=List (Option Nat)
def ID(js:HU)(σ:St):St:=js.map λo=>o.bind λj=>(σ[j]?).join
theorem TW{env:Env}(has:∀x,(env.kindOf x=some .cell∨env.kindOf x=some .free)→∃c,env.cells.lookup x=some c):
 ∀(names:List (Str×NameKind))(acc:List (Str×Addr)),(∀p∈names,p.2= .free→env.kindOf p.1=some .cell∨env.kindOf p.1=some .free)→(∀x c,acc.lookup x=some c→env.cells.lookup x=some c)→
  ∃cl,(forIn names acc (λ(p:Str×NameKind)(cs:List (Str×Addr))=>(do
   if p.2==NameKind.free then
    let c ←cellOf env p.1
    pure (ForInStep.yield ((p.1,c)::cs))
   else pure (ForInStep.yield cs):Sem (ForInStep (List (Str×Addr))))))=pure cl∧(∀x c,cl.lookup x=some c→env.cells.lookup x=some c)∧
   (∀x,(acc.lookup x).isSome=true→(cl.lookup x).isSome=true)∧∀p∈names,p.2= .free→(cl.lookup p.1).isSome=true:=by
 intro names
 induction names with
 | nil=>intro acc _ ha;exact⟨acc,rfl,ha,λ_ h=>h,λ_ h=>nomatch h⟩
 | cons p r ih=>
  intro acc hn ha;obtain⟨n,k⟩:=p;rw[Fa];by_cases hk:k= .free
  · subst hk;obtain⟨c,hc⟩:=has n (hn (n,.free) Ar rfl);have e:cellOf env n=(pure c:Sem Addr):=by
     unfold cellOf;rw[hc]
    obtain⟨cl,h1,h2,h3,h4⟩:=ih ((n,c)::acc) (λq hq=>hn q (Ao _ hq)) (λx c' hx=>by
     rw[BV] at hx;cases hb:x==n with
     | true=> rw[hb] at hx;cases hx;rw[show x=n from eq_of_beq hb];exact hc
     | false=> rw[hb] at hx;exact ha x c' hx)
    refine⟨cl,?_,h2,λx hx=>h3 x ?_,λq hq hf=>?_⟩
    · simp only[beq_self_eq_true,if_true,e];exact h1
    · rw[BV];cases hb:x==n with
      | true=>rfl
      | false=>exact hx
    · rcases Ax.mp hq with rfl | hq
      · exact h3 _ (by simp[BV])
      · exact h4 q hq hf
  · have hb:(k==NameKind.free)=false:=by simpa using hk
    obtain⟨cl,h1,h2,h3,h4⟩:=ih acc (λq hq=>hn q (Ao _ hq)) ha;refine⟨cl,?_,h2,h3,λq hq hf=>?_⟩
    · simp only[hb,A3,if_false];exact h1
    · rcases Ax.mp hq with rfl | hq
      · exact absurd hf hk
      · exact h4 q hq hf
theorem L_{env:Env}{scope:Scope}(has:∀x,(env.kindOf x=some .cell∨env.kindOf x=some .free)→∃c,env.cells.lookup x=some c)
 (hn:∀p∈scope.names,p.2= .free→env.kindOf p.1=some .cell∨env.kindOf p.1=some .free):
 ∃cl,closureFor scope env=pure cl∧(∀x c,cl.lookup x=some c→env.cells.lookup x=some c)∧∀p∈scope.names,p.2= .free→(cl.lookup p.1).isSome=true:=by
 obtain⟨cl,h1,h2,_,h4⟩:=TW has scope.names [] hn (λ_ _ h=>nomatch h);refine⟨cl,?_,h2,h4⟩;unfold closureFor;show(do let cs ←forIn scope.names [] _;pure cs)=_
 refine Eq.trans ?_ h1;simp only[bind_pure]
section
variable{R:Result→Shared→Prop}
theorem Wq{elt target iter:Expr}{ifs:List Expr}{scope:Scope}{pos:Pos}{it acc:Value}{env:Env}(I:Nat→Shared→Prop)
 (turn:∀n s,I n s→wpAny (model prog w) A (pyNext it) (λr s₁=>match r with
  | none=>R (.ok .next) s₁
  | some v=>wpAny (model prog w) A (C1 target it v) (λ_ s₁'=>wpAny (model prog w) A (assign target env v) (λ_ s₂=>
   wpAny (model prog w) A (forIn ifs true λc r=>if r=true then do let ok ←isTrue c env (eval c env);pure (ForInStep.yield ok) else pure (ForInStep.yield r)) (λok s₃=>
    if ok=true then wpAny (model prog w) A (eval elt env) (λx s₄=> wpAny (model prog w) A (call (.builtin "list.append") [acc,x]) (λ_ s₅=>∃m,m<n∧I m s₅) (λ_ _=>False) s₄) (λ_ _=>False) s₃
    else ∃m,m<n∧I m s₃) (λ_ _=>False) s₂) (λ_ _=>False) s₁') (λ_ _=>False) s₁) (λ_ _=>False) s)
 (n:Nat) (h:I n s):
 codeAny (model prog w) A (.compLoop (.ListComp elt [⟨target,iter,ifs,0⟩] scope pos) 0 it acc env) R s:=by
 refine codeAny_loop rfl I (λn s hI=>?_) n h;show wpAny _ A ((compTurn (.ListComp elt [⟨target,iter,ifs,0⟩] scope pos) 0 it acc env).onRaise (λx=>do noteFrame x env;theTreesLotGoes x)) _ _ s
 refine wpAny_noted ?_;rw[compTurn_list];refine Aa (Cf (Aa (A9 (turn n s hI) (λr s₁ h₁=>?_) λ_ _ h'=>h'.elim)));cases r with
 | none=>exact Ac h₁
 | some v=>
  refine Aa (A9 h₁ (λ_ s₁' h₁'=>?_) λ_ _ h'=>h'.elim);refine Aa (A9 h₁' (λ_ s₂ h₂=>Aa (A9 h₂ (λok s₃ h₃=>?_) λ_ _ h'=>h'.elim)) λ_ _ h'=>h'.elim);cases ok with
  | false=>exact Ac ⟨rfl,h₃⟩
  | true=> exact Aa (Aa (A9 h₃ (λx s₄ h₄=>Aa (A9 h₄ (λ_ s₅ h₅=>Ac (Ac ⟨rfl,h₅⟩)) λ_ _ h'=>h'.elim)) λ_ _ h'=>h'.elim))
end
def H_(X:Cx)(ifs:List Expr)(t:TT):Prop:=
 ∀(pins:List (Addr×Obj))(s:Shared)(σ:St)(H:Hp)(Q:Bool→Hp→Prop),Inv X pins σ H s→t σ H Q→
  wpAny (model X.prog X.w) X.A (forIn ifs true λc r=>if r=true then do let ok ←isTrue c X.env (eval c X.env);pure (ForInStep.yield ok) else pure (ForInStep.yield r)) (TP X pins σ Q) X.xe s
def On:TT:=λ_ H Q=>Q true H
theorem IB:H_ X [] On:=λ_ _ _ H _ I h=>wpAny_tests_nil ⟨H,I,h⟩
theorem Mf{c:Expr}{t:TT}(h:PT X c t):H_ X [c] t:=λpins s σ H Q I hw=>wpAny_tests_one (h pins s σ H Q I hw)
def J1(J:It)(p:Addr)(js:HU)(g:TG)(tc:TT)(te:TE)(σ:St)(H:Hp)(Q:VK):Prop:=
 ∃W:Nat→Nat→St→List V→Hp→Prop,(∃m,W 0 m (ID js σ) [] (GY H p (.lst [])))∧∀i m σ' ys H,W i m σ' ys H→H p=some (.lst ys)∧
  ((J.stop i H∧Q (.ref p) H)∨(J.go i H∧ys.length<As∧∀x H',J.yld i H x H'→g x σ' H' λσ2 H2=>tc σ2 H2 λb H3=>
    if b=true then te σ2 H3 λy H4=>H4 p=some (.lst ys)∧∃m',m'<m∧W (i+1) m' σ2 (ys++[y]) (GY H4 p (.lst (ys++[y])))
    else ∃m',m'<m∧W (i+1) m' σ2 ys H3))
def RZ(wi:TI)(js:HU)(g:TG)(tc:TT)(te:TE):TE:=λσ H Q=>wi σ H λJ H1=>∀p,H1 p=none→J1 J p js g tc te σ H1 Q
structure CapOk(X:Cx)(N':List Str)(js:HU)(scope:Scope):Prop where
 len:js.length=N'.length
 kind:scope.kind= .function
 cells:∀p∈scope.names,p.2= .cell→scope.names.lookup p.1=some .cell
 names:∀p∈scope.names,p.2= .local→scope.names.lookup p.1=some .local
 free:∀p∈scope.names,p.2= .free→X.env.kindOf p.1=some .cell∨X.env.kindOf p.1=some .free
 cap:∀(i j:Nat),js[i]?=some (some j)→∃x,N'[i]?=some x∧X.N[j]?=some x∧scope.names.lookup x=some .free
theorem NU{names:List (Str×NameKind)}{k:NameKind}(h:names.lookup x=some k):(x,k)∈names:=by
 induction names with
 | nil=>cases h
 | cons p r ih=>
  obtain⟨n,k'⟩:=p;rw[BV] at h;cases hb:x==n with
  | true=> rw[hb] at h;cases h;rw[show x=n from eq_of_beq hb];exact Ar
  | false=> rw[hb] at h;exact Ao _ (ih h)
theorem RH{env:Env}{k:NameKind}(h:(relabel scope env).names.lookup x=some k):∃k0,scope.names.lookup x=some k0∧(k=k0∨(k0= .free∧k= .cell)):=by
 have go:∀(names:List (Str×NameKind)),(names.map λ(p:Str×NameKind)=>if(p.2==NameKind.free && env.scope.kind== .function && env.kindOf p.1==some .cell) then(p.1,NameKind.cell) else(p.1,p.2)).lookup x=some k→
  ∃k0,names.lookup x=some k0∧(k=k0∨(k0= .free∧k= .cell)):=by
  intro names
  induction names with
  | nil=>intro h;cases h
  | cons p r ih=>
   obtain⟨n,k'⟩:=p;intro h;rw[Av] at h;by_cases hc:(k'==NameKind.free && env.scope.kind== .function && env.kindOf n==some .cell)=true
   · rw[if_pos hc] at h;rw[BV] at h ⊢;cases hb:x==n with
     | true=>
      rw[hb] at h;cases h;have:k'= .free:=by cases k'<;>first | rfl | (simp at hc)
      exact⟨k',rfl,.inr ⟨this,rfl⟩⟩
     | false=> rw[hb] at h;exact ih h
   · rw[if_neg hc] at h;rw[BV] at h ⊢;cases hb:x==n with
     | true=> rw[hb] at h;cases h;exact⟨k',rfl,.inl rfl⟩
     | false=> rw[hb] at h;exact ih h
 exact go scope.names h
theorem WL{env:Env}(h:scope.names.lookup x=some .free):(relabel scope env).names.lookup x=some .cell∨(relabel scope env).names.lookup x=some .free:=by
 have go:∀(names:List (Str×NameKind)),names.lookup x=some .free→(names.map λ(p:Str×NameKind)=>if(p.2==NameKind.free && env.scope.kind== .function && env.kindOf p.1==some .cell) then(p.1,NameKind.cell) else(p.1,p.2)).lookup x=some .cell∨
  (names.map λ(p:Str×NameKind)=>if(p.2==NameKind.free && env.scope.kind== .function && env.kindOf p.1==some .cell) then(p.1,NameKind.cell) else(p.1,p.2)).lookup x=some .free:=by
  intro names
  induction names with
  | nil=>intro h;cases h
  | cons p r ih=>
   obtain⟨n,k'⟩:=p;intro h;rw[Av];rw[BV] at h;by_cases hc:(k'==NameKind.free && env.scope.kind== .function && env.kindOf n==some .cell)=true
   · rw[if_pos hc,BV];cases hb:x==n with
     | true=>exact .inl rfl
     | false=> rw[hb] at h;exact ih h
   · rw[if_neg hc,BV];cases hb:x==n with
     | true=> rw[hb] at h;exact .inr h
     | false=> rw[hb] at h;exact ih h
 exact go scope.names h
theorem Mu:∀(names:List (Str×NameKind))(n:Nat)(acc:List (Str×Addr)),BG n names acc=BG n names []++acc
 | [],_,_=>rfl
 | (x,k)::r,n,acc=>by
  unfold BG
  split
  · rw[Mu r _ ((x,n)::acc),Mu r _ [(x,n)],D0];rfl
  · exact Mu r n acc
theorem Oj{c:Addr}:∀(names:List (Str×NameKind))(n:Nat)(acc:List (Str×Addr)),(x,c)∈BG n names acc→(x,NameKind.cell)∈names∨(x,c)∈acc
 | [],_,_,h=> .inr h
 | (y,k)::r,n,acc,h=>by
  unfold BG at h
  split at h
  · rename_i hk;rcases Oj r _ _ h with z | z
    · exact .inl (Ao _ z)
    · rcases Ax.mp z with z | z
      · cases z;rw[show k= .cell from eq_of_beq hk];exact .inl Ar
      · exact .inr z
  · rcases Oj r _ _ h with z | z
    · exact .inl (Ao _ z)
    · exact .inr z
structure OwnCells(scope:Scope)(cl0 cl:List (Str×Addr))(lo:Nat)(h₁:Heap):Prop where
 own:∀x c,cl.lookup x=some c→(scope.names.lookup x=some .cell→lo<c∧h₁.IsCell c none)∧(scope.names.lookup x≠some .cell→cl0.lookup x=some c)
 has:∀x,scope.names.lookup x=some .cell∨(cl0.lookup x).isSome=true→(cl.lookup x).isSome=true
 inj:∀x y c,scope.names.lookup x=some .cell→scope.names.lookup y=some .cell→cl.lookup x=some c→cl.lookup y=some c→x=y
theorem Ob{M:Model}{A:BB}{E:Value→Shared→Prop}{s:Shared}{globals:Addr}{cl0:List (Str×Addr)}{qual:Str}{env:Env}{Q:Env→Shared→Prop}(ok:∀p∈scope.names,p.2= .cell→scope.names.lookup p.1=some .cell)
 (hQ:∀(cl:List (Str×Addr))(h₁:Heap),(∃m,h₁.Ns s.heap.objs.size m)→(∀b u,s.heap.get? b=some u→h₁.get? b=some u)→OwnCells scope cl0 cl s.heap.objs.size h₁→
  Q (newEnv scope s.heap.objs.size globals cl qual none .none (some env) builtinsNs) {s with heap:=h₁,toks:=s.toks+([]:List (Str×Value)).length}):
 wpAny M A (newFunctionEnv scope globals cl0 [] qual none .none (some env)) Q E s:=by
 simp only[newFunctionEnv,Option.isSome_some,if_true];refine Aa (wpAny_alloc ?_);refine Aa (wpAny_layCells _ (λname kind cells=>by cases hkc:kind==NameKind.cell<;>simp[hkc]) _ _ _ _ ?_);have ck:=cellsFrom_ok scope.names (s.heap.push {cls:= .type "dict",data:= .dict #[]}) (s.heap.objs.size+1) [] ⟨λ_ _ hm=>(nomatch hm),List.Pairwise.nil⟩ (by rw[AJ];exact Ae _);rw[AJ] at ck;rw[show({s with heap:=s.heap.push {cls:= .type "dict",data:= .dict #[]}}:Shared).heap.objs.size=s.heap.objs.size+1 from AJ ..]
 rw[Fs];refine Aa (Ac (Ac ?_));rw[Mu];refine hQ _ _ ⟨_,(Heap.Ns.new s.heap (.type "dict")).keeps (pushCells_keeps _ _)⟩ (λb o e=>pushCells_keeps _ _ b o (Ad _ e)) ?_;have lk:∀x,(BG (s.heap.objs.size+1) scope.names []++cl0).lookup x=((BG (s.heap.objs.size+1) scope.names []).lookup x).or (cl0.lookup x):=λx=>List.lookup_append;have cn:∀x c,(BG (s.heap.objs.size+1) scope.names []).lookup x=some c→scope.names.lookup x=some .cell:=λx c e=>by
  rcases Oj _ _ _ (mem_of_lookup e) with z | z
  · exact ok _ z rfl
  · cases z
 refine⟨λx c e=>⟨λhx=>?_,λhx=>?_⟩,λx hx=>?_,λx y c hx hy e1 e2=>?_⟩
 · rw[lk] at e;have q:=Cv scope.names (s.heap.objs.size+1) [] (.inl hx);cases z:(BG (s.heap.objs.size+1) scope.names []).lookup x with
   | none=>rw[z] at q;cases q
   | some c'=> rw[z] at e;cases e;have:=ck.empty _ _ (mem_of_lookup z);exact⟨this.2,this.1⟩
 · rw[lk] at e;cases z:(BG (s.heap.objs.size+1) scope.names []).lookup x with
   | none=>rw[z] at e;exact e
   | some c'=>exact absurd (cn x c' z) hx
 · rw[lk];rcases hx with hx | hx
   · have q:=Cv scope.names (s.heap.objs.size+1) [] (.inl hx);cases z:(BG (s.heap.objs.size+1) scope.names []).lookup x with
     | none=>rw[z] at q;cases q
     | some c'=>rfl
   · cases z:(BG (s.heap.objs.size+1) scope.names []).lookup x with
     | none=>exact hx
     | some c'=>rfl
 · rw[lk] at e1 e2;have go:∀x,scope.names.lookup x=some .cell→((BG (s.heap.objs.size+1) scope.names []).lookup x).or (cl0.lookup x)=some c→(x,c)∈BG (s.heap.objs.size+1) scope.names []:=λx hx e=>by
    have q:=Cv scope.names (s.heap.objs.size+1) [] (.inl hx);cases z:(BG (s.heap.objs.size+1) scope.names []).lookup x with
    | none=>rw[z] at q;cases q
    | some c'=>rw[z] at e;cases e;exact mem_of_lookup z
   exact name_of_addr ck.apart (go x hx e1) (go y hy e2)
theorem N6{N':List Str}{js:HU}{cl0 cl:List (Str×Addr)}{fp:List Addr}{h₁:Heap}{t':Nat}(ok:CapOk X N' js scope)(I:Inv X pins σ H s)
 (h2':∀x c,cl0.lookup x=some c→X.env.cells.lookup x=some c) (h3':∀p∈scope.names,p.2= .free→(cl0.lookup p.1).isSome=true)
 (hf:∀b∈fp,Ht X pins H b) (hlt:∀b∈fp,b<s.heap.objs.size)
 (k:∀b u,s.heap.get? b=some u→h₁.get? b=some u) (hn:∃m,h₁.Ns s.heap.objs.size m) (oc:OwnCells scope cl0 cl s.heap.objs.size h₁):
 Inv (HS X N' scope cl s.heap.objs.size s H fp) [] (ID js σ) H {s with heap:=h₁,toks:=t'}:=by
 have fresh:H s.heap.objs.size=none:=I.hok.fresh (Ae _);have h2:∀x c,cl.lookup x=some c→(scope.names.lookup x=some .cell∧s.heap.objs.size<c∧h₁.IsCell c none)∨X.env.cells.lookup x=some c:=λx c e=>by
  by_cases hx:scope.names.lookup x=some .cell
  · exact .inl ⟨hx,(oc.own x c e).1 hx⟩
  · exact .inr (h2' x c ((oc.own x c e).2 hx))
 have h3:∀p∈scope.names,p.2= .free→(cl.lookup p.1).isSome=true:=λp hp e=>oc.has _ (.inr (h3' p hp e));have kind_of:∀x,((relabel scope X.env).names.lookup x=some .cell∨(relabel scope X.env).names.lookup x=some .free)→scope.names.lookup x=some .cell∨scope.names.lookup x=some .free:=λx hx=>by
  rcases hx with hx | hx
  · obtain⟨k0,e,z⟩:=RH hx;rcases z with z | ⟨z,_⟩
    · subst z;exact .inl e
    · subst z;exact .inr e
  · obtain⟨k0,e,z⟩:=RH hx;rcases z with z | ⟨z,z'⟩
    · subst z;exact .inr e
    · cases z'
 have clt:∀x c,X.env.cells.lookup x=some c→c<s.heap.objs.size:=λx c e=>let⟨v,hv⟩:=I.cell x c e;hv.lt;have okc:(HS X N' scope cl s.heap.objs.size s H fp).Ok:=by
  refine⟨I.ok.mod,ok.kind,I.ok.glob,I.ok.blt,Ae _,λx y c e1 e2=>?_,λx hx=>?_,λx c hx e=>?_,I.ok.hd,I.ok.frames,.inl rfl,λb hb=>⟨Al (hlt b hb),λx c e=>?_⟩,I.bs,AF I.ok.bsz I.sz,λb o e hb=>?_,λb hb hb'=>?_,I.stack,I.stkFree⟩
  · rcases h2 x c e1 with⟨k1,l1,_⟩ | l1
    · rcases h2 y c e2 with⟨k2,l2,_⟩ | l2
      · exact oc.inj x y c k1 k2 e1 e2
      · exact absurd l1 (Nat.lt_asymm (clt y c l2))
    · rcases h2 y c e2 with⟨k2,l2,_⟩ | l2
      · exact absurd l2 (Nat.lt_asymm (clt x c l1))
      · exact I.ok.inj x y c l1 l2
  · have z:(cl.lookup x).isSome=true:=by
     rcases kind_of x hx with e | e
     · exact oc.has x (.inl e)
     · exact h3 _ (NU e) rfl
    cases q:cl.lookup x with
    | none=>rw[q] at z;cases z
    | some c=>exact⟨c,q⟩
  · exact Bd ((oc.own x c e).1 (eq_of_beq hx)).1
  · rcases h2 x c e with⟨_,l,_⟩ | l
    · exact λz=>Nat.lt_asymm (hlt b hb) (z ▸ l)
    · exact(hf b hb).2.2.2.2.1 x c l
  · rcases(hf b hb).2.2.2.1 with z | z
    · exact I.ok.noex b o e z
    · exact absurd (Ay (Ag e) (AF I.ok.bsz z)) (Cp _)
  · rcases Ax.mp (I.stkSub b hb') with z | z
    · exact(hf b hb).2.1 z
    · exact(hf b hb).2.2.1 z
 obtain⟨m,hn⟩:=hn;refine⟨okc,rfl,I.bare,Un.kept k,⟨m,hn,λi x v e1 e2 e3=>?_⟩,λx c e=>?_,fresh,λx c e=>?_,(λp hp=>nomatch hp),I.hok.kept k,by show(ID js σ).length=N'.length;unfold ID;rw[Ab];exact ok.len⟩
 · have e2:(ID js σ)[i]?=some (some v):=e2;unfold ID at e2;rw[Ah] at e2;cases q:js[i]? with
   | none=>rw[q] at e2;cases e2
   | some o=>
    rw[q] at e2;cases o with
    | none=>cases e2
    | some j=>
     obtain⟨x',n1,n2,n3⟩:=ok.cap i j q;have e1:N'[i]?=some x:=e1;rw[n1] at e1;cases e1;have e2:(σ[j]?).join=some v:=A7 e2;have e2':σ[j]?=some (some v):=by
      cases q2:σ[j]? with
      | none=>rw[q2] at e2;cases e2
      | some o2=>rw[q2] at e2;exact congrArg some e2
     obtain⟨mo,hno,hlo⟩:=I.loc;have kx:=ok.free _ (NU n3) rfl;have vis:M9 X.env.scope x:=by
      rcases kx with z | z
      · exact .inr (.inl z)
      · exact .inr (.inr z)
     obtain⟨u,r,l⟩:=hlo j x v n2 e2' vis;refine⟨u,r,.inr ⟨WL n3,?_⟩⟩;rcases l with⟨z,_⟩ | ⟨_,c,hc,hcell⟩
     · rcases kx with y | y<;>(rw[z] at y;cases y)
     · have z:=h3 _ (NU n3) rfl;cases q3:cl.lookup x with
       | none=>rw[q3] at z;cases z
       | some c'=> have:=h2' x c' ((oc.own x c' q3).2 (by rw[n3];decide));rw[hc] at this;cases this;exact⟨c,q3,hcell.keeps k⟩
 · rcases h2 x c e with⟨_,_,l⟩ | l
   · exact⟨_,l⟩
   · obtain⟨v,hv⟩:=I.cell x c l;exact⟨v,hv.keeps k⟩
 · rcases h2 x c e with⟨_,l,_⟩ | l
   · exact I.hok.fresh (Bd l)
   · exact I.freeC x c l
section
variable{tg iter elt:Expr}{ifs:List Expr}{wi:TI}{js:HU}{g:TG}{tc:TT}{te:TE}{N':List Str}
theorem QW{pins:List (Addr×Obj)}{σ:St}{H:Hp}{s:Shared}{E:Value→Shared→Prop}{Q:VK}{J:It}{it:Addr}{fp:List Addr}{tn:Nat→Heap→Prop}{cl:List (Str×Addr)}
 (hc:X.calm=true) (ok:CapOk X N' js scope)
 (h2:∀x c,cl.lookup x=some c→X.env.cells.lookup x=some c) (h3:∀p∈scope.names,p.2= .free→(cl.lookup p.1).isSome=true)
 (hg:∀cl C s₀ H₀ ex,PG (HS X N' scope cl C s₀ H₀ ex) tg g) (ht:∀cl C s₀ H₀ ex,H_ (HS X N' scope cl C s₀ H₀ ex) ifs tc) (he:∀cl C s₀ H₀ ex,PE (HS X N' scope cl C s₀ H₀ ex) elt te)
 (I:Inv X pins σ H s) (T:Turn X.prog X.w X.K tg J fp it tn) (st:tn 0 s.heap) (hf:∀b∈fp,Ht X pins H b)
 (hw:∀p,H p=none→J1 J p js g tc te σ H Q):
 wpAny (model X.prog X.w) X.A (newList []) (λacc s₃=>wpAny (model X.prog X.w) X.A (newFunctionEnv scope X.env.globals cl [] X.env.qual none .none (some X.env)) (λcenv s₄=>
  codeAny (model X.prog X.w) X.A (.compStart (.ListComp elt [⟨tg,iter,ifs,0⟩] scope pos) 0 (.ref it) acc {cenv with scope:=relabel scope X.env})
   (λr s'=>r= .ok .next∧(∃m,s'.heap.Ns cenv.locals m)∧∃v H',RelV v acc∧Inv X pins σ H' s'∧Ht X pins H' cenv.locals∧Q v H') s₄) E s₃) E s:=by
 have objs:=T.obj _ _ st;refine Bf ?_ (by show 0≤As;decide);obtain⟨W,⟨m0,w0⟩,turn⟩:=hw s.heap.objs.size (I.hok.fresh (Ae _));generalize hp:s.heap.objs.size=p at*;have kp:∀b u,s.heap.get? b=some u→(s.heap.push {cls:= .type "list",dict:=none,data:= .seq ([]:List Value).toArray}).get? b=some u:=λb u e=>Ad _ e;have I3:Inv X pins σ (GY H p (.lst [])) {s with heap:=s.heap.push {cls:= .type "list",dict:=none,data:= .seq ([]:List Value).toArray}}:=by refine I.laid (t':=s.toks) kp (by rw[hp];exact Ae _) ⟨Br _,[],0,.nil,?_⟩;have:=Ai s.heap (o:={cls:= .type "list",dict:=none,data:= .seq ([]:List Value).toArray}) rfl;rw[hp] at this;exact this
 have fne:∀b∈fp,b≠p:=λb hb=>by obtain⟨o,e,_⟩:=objs b hb;have:=Ag e;rw[←hp];exact Al this
 have hf3:∀b∈fp,Ht X pins (GY H p (.lst [])) b:=λb hb=>⟨by rw[Hm (fne b hb)];exact(hf b hb).1,(hf b hb).2⟩;have st3:tn 0 (s.heap.push {cls:= .type "list",dict:=none,data:= .seq ([]:List Value).toArray}):=T.keep _ _ _ st λb _ o e=>kp b o e;have lt3:∀b∈fp,b<(s.heap.push {cls:= .type "list",dict:=none,data:= .seq ([]:List Value).toArray}).objs.size:=λb hb=>by obtain⟨o,e,_⟩:=objs b hb;exact Ag (kp b o e)
 generalize hs3:({s with heap:=s.heap.push {cls:= .type "list",dict:=none,data:= .seq ([]:List Value).toArray}}:Shared)=s3 at*
 have eh:s.heap.push {cls:= .type "list",dict:=none,data:= .seq ([]:List Value).toArray}=s3.heap:=by rw[←hs3]
 rw[eh] at st3 lt3;refine Ob ok.cells λcl h₁ hns₁ k4 oc=>?_;have I4:=N6 (cl:=cl) (h₁:=h₁) (t':=s3.toks+([]:List (Str×Value)).length) ok I3 h2 h3 hf3 lt3 k4 hns₁ oc;have st4:tn 0 h₁:=T.keep _ _ _ st3 λb _ o e=>k4 b o e;generalize hX:HS X N' scope cl s3.heap.objs.size s3 (GY H p (.lst [])) fp=X' at I4;have hg':PG X' tg g:=by rw[←hX];exact hg _ _ _ _ _
 have ht':H_ X' ifs tc:=by rw[←hX];exact ht _ _ _ _ _
 have he':PE X' elt te:=by rw[←hX];exact he _ _ _ _ _
 have eP:X'.prog=X.prog:=by rw[←hX];rfl
 have ew:X'.w=X.w:=by rw[←hX];rfl
 have eK:X'.K=X.K:=by rw[←hX];rfl
 have ec:X'.calm=true:=by rw[←hX];exact hc
 have eA:X'.A=X.A:=by rw[←hX];rfl
 have ex:X'.xe=λ_ _=>False:=by rw[←hX];rfl
 have eE:X'.env=compEnvC scope cl s3.heap.objs.size X.env:=by rw[←hX];rfl
 have eEx:X'.ex=fp:=by rw[←hX];rfl
 have eN:X'.pn=[]:=by rw[←hX];rfl
 have stat:∀{H':Hp},(∀b∈fp,H' b=none)→∀b∈fp,Ht X' [] H' b:=λ{H'}hn b hb=>by have okc:=I4.ok;refine⟨hn b hb,(okc.exf b (by rw[eEx];exact hb)).1,okc.exfs b (by rw[eEx];exact hb),.inl (by rw[eEx];exact hb),(okc.exf b (by rw[eEx];exact hb)).2,λq hq=>?_⟩;rw[eN] at hq;cases hq
 have loop:∀s₄:Shared,s₄={s3 with heap:=h₁,toks:=s3.toks+([]:List (Str×Value)).length}→
  codeAny (model X.prog X.w) X.A (.compLoop (.ListComp elt [⟨tg,iter,ifs,0⟩] scope pos) 0 (.ref it) (.ref p) (compEnvC scope cl s3.heap.objs.size X.env))
   (λr s'=>r= .ok .next∧(∃m,s'.heap.Ns s3.heap.objs.size m)∧∃v H',RelV v (.ref p)∧Inv X pins σ H' s'∧Ht X pins H' s3.heap.objs.size∧Q v H') s₄:=by
  rintro s₄ rfl;refine Wq (λn s'=>∃i σ' ys H',Inv X' [] σ' H' s'∧tn i s'.heap∧(∀b∈fp,H' b=none)∧W i n σ' ys H') ?_ m0 ⟨0,_,[],_,I4,st4,λb hb=>(hf3 b hb).1,w0⟩;rintro n s5 ⟨i,σ5,ys,H5,I5,st5,fr5,w5⟩;obtain⟨hp5,tu⟩:=turn i n σ5 ys H5 w5;rcases tu with⟨stop,qn⟩ | ⟨go,hz,step⟩
  · have D:=T.done X' eP ew eK ec i [] s5 σ5 H5 (λ_ _=>False) I5 (stat fr5) st5 stop;rw[eA] at D;refine He D λr s6 ⟨hr,I6⟩=>?_;subst hr;refine⟨rfl,?_,.ref p,H5,rfl,?_,?_,qn⟩
    · obtain⟨m,hm,_⟩:=I6.loc;rw[eE] at hm;exact⟨m,hm⟩
    · have b6:=I6.base;have ho:=I6.os;have hk:=I6.hok;have hb:=I6.bare;subst hX;exact I3.call' (ch:=fp) ho b6 hk hb λb hb'=>⟨(hf b hb').2.2.2.1,(hf b hb').2.1,(hf b hb').2.2.2.2.1,(hf b hb').2.2.2.2.2⟩
    · have fr:=I6.free;rw[eE] at fr;exact I3.fpOk (Ae _) fr
  · have D:=T.item X' eP ew eK ec i [] s5 σ5 H5 (λ_ _=>False) I5 (stat fr5) st5 go;rw[eA] at D;refine He D λr s6 ⟨u,hr,h6⟩=>?_;subst hr;refine He h6 λ_ s7 ⟨x,H7,I7,r7,y7,st7,fr7⟩=>?_;have I7':=I7.pinned (stat fr7) (T.obj _ _ st7);have G:=hg' _ s7 σ5 H7 x u _ I7' r7 (step x H7 y7);rw[eP,ew,eA,ex,eE] at G;refine He G λ_ s8 ⟨σ8,H8,I8,q8⟩=>?_;have Tt:=ht' _ s8 σ8 H8 _ I8 q8;rw[eP,ew,eA,ex,eE] at Tt;refine He Tt λb s9 ⟨H9,I9,q9⟩=>?_;have again:∀{s':Shared}{ys':List V}{H':Hp},Inv X' ([]++Kx fp s7.heap) σ8 H' s'→(∃m',m'<n∧W (i+1) m' σ8 ys' H')→
     ∃m,m<n∧∃i σ' ys H',Inv X' [] σ' H' s'∧tn i s'.heap∧(∀b∈fp,H' b=none)∧W i m σ' ys H':=λ{s' ys' H'}I' ⟨m',hm,w'⟩=>by
     refine⟨m',hm,i+1,σ8,ys',H',I'.unpinned,T.keep _ _ _ st7 λb hb o e=>(I'.pin (b,o) (A6 _ (A6 _ (Ki hb e)))).1,λb hb=>?_,w'⟩;obtain⟨o,e,d⟩:=T.obj _ _ st7 b hb;exact(I'.pin (b,o) (A6 _ (A6 _ (Ki hb e)))).2.1
    cases b with
    | false=>exact again I9 q9
    | true=> have Ee:=he' _ s9 σ8 H9 _ I9 q9;rw[eP,ew,eA,ex,eE] at Ee;show wpAny _ _ _ _ _ _;refine He Ee λxv s10 ⟨y,H10,I10,r10,hp10,q10⟩=>?_;have Ap:=Ke (X:=X') _ s10 σ8 H10 (.ref p) [y] (.ref p) [xv] (λ_ H'=>H'=GY H10 p (.lst (ys++[y]))) I10 rfl (.cons r10 .nil) ⟨p,ys,y,rfl,rfl,hp10,hz,rfl⟩;rw[eP,ew,eA,ex] at Ap;refine He Ap λ_ s11 ⟨_,H11,I11,_,e11⟩=>?_;subst e11;exact again I11 q10
 exact codeAny_compStart_list (loop _ rfl) (T.self _ 0 _ _ _ st4 (loop _ rfl))
theorem IG(hc:X.calm=true)(ok:CapOk X N' js scope)(hi:PI X tg iter wi)
 (hg:∀cl C s₀ H₀ ex,PG (HS X N' scope cl C s₀ H₀ ex) tg g) (ht:∀cl C s₀ H₀ ex,H_ (HS X N' scope cl C s₀ H₀ ex) ifs tc) (he:∀cl C s₀ H₀ ex,PE (HS X N' scope cl C s₀ H₀ ex) elt te)
 (hs:∀x,CP iter X.env x=pure x:=by intro _;rfl):PE X (.ListComp elt [⟨tg,iter,ifs,0⟩] scope pos) (RZ wi js g tc te):=by
 intro pins s σ H Q I h;obtain⟨cl,c1,c2,c3⟩:=L_ (scope:=scope) I.ok.has ok.free;rw[eval_ListComp];refine CC (use:=none) rfl hs c1 ok.kind ok.names (He (hi pins s σ H _ I h) λv s1 h1=>He h1 λitv s2 h2=>?_);obtain⟨it,fp,tn,J,H2,e,I2,T,st2,f2,hw⟩:=h2;subst e;refine A9 (QW (iter:=iter) (pos:=pos) hc ok c2 c3 hg ht he I2 T st2 f2 hw) (λacc s3 h3=>A9 h3 (λcenv s4 h4=>?_) λ_ _ z=>z) λ_ _ z=>z;refine Cd h4 λr s5 h5=>?_;obtain⟨rfl,⟨m,hm⟩,v,H5,rv,I5,f5,q5⟩:=h5;refine⟨m,hm,λh' sb=>?_⟩;obtain⟨f0,f1,_,f3,f4,f6⟩:=f5;exact⟨v,H5,I5.turned (t':=s5.toks) (λb o hb e=>(sb.2 b hb).trans e) f0 f1 f3 f4 f6,rv,q5⟩
theorem Nu{px:Pos}{spos:Pos}(hN:X.N.Nodup)(hi':X.N[i]?=some x)(hx:La X.env.scope x)(hc:X.calm=true)(ok:CapOk X N' js scope)(hi:PI X tg iter wi)
 (hg:∀cl C s₀ H₀ ex,PG (HS X N' scope cl C s₀ H₀ ex) tg g) (ht:∀cl C s₀ H₀ ex,H_ (HS X N' scope cl C s₀ H₀ ex) ifs tc) (he:∀cl C s₀ H₀ ex,PE (HS X N' scope cl C s₀ H₀ ex) elt te)
 (hsw:swapsWith (.ListComp elt [⟨tg,iter,ifs,0⟩] scope pos) (some (.Name x px)) spos.line X.env=pure true:=by rfl)
 (hs:∀x,CP iter X.env x=pure x:=by intro _;rfl) (hf:X.fn x=true∨X.env.scope.names.lookup x=some .local:=by first | exact .inl rfl | exact .inr rfl | assumption):
 PS X (.Assign [.Name x px] (.ListComp elt [⟨tg,iter,ifs,0⟩] scope pos) spos) (Jt (RZ wi js g tc te) (JA i)):=by
 intro pins s σ H D I h;obtain⟨cl,c1,c2,c3⟩:=L_ (scope:=scope) I.ok.has ok.free;rw[exec_Assign_Name_used _ _ _ _ hsw];refine Aa (Cf (Aa ?_));show wpAny _ X.A (do let _ ←comprehension (.ListComp elt [⟨tg,iter,ifs,0⟩] scope pos) scope X.env _ (newList []) false (eval iter X.env) (some (assign (.Name x px) X.env))) _ _ s
 refine Aa (A9 (CC (use:=some (assign (.Name x px) X.env)) (Q:=λ_ s'=>SP X pins D .next s') rfl hs c1 ok.kind ok.names
  (He (hi pins s σ H _ I h) λv s1 h1=>He h1 λitv s2 h2=>?_)) (λ_ s' hq=>Ac (Ac hq)) λ_ _ e=>e)
 obtain⟨it,fp,tn,J,H2,e,I2,T,st2,f2,hw⟩:=h2;subst e;refine A9 (QW (Q:=λx H1=>JA i x σ H1 D.nx) (iter:=iter) (pos:=pos) hc ok c2 c3 hg ht he I2 T st2 f2 hw) (λacc s3 h3=>A9 h3 (λcenv s4 h4=>?_) λ_ _ z=>z) λ_ _ z=>z;refine Cd h4 λr s5 h5=>?_;obtain⟨rfl,⟨m,hm⟩,v,H5,rv,I5,f5,q5⟩:=h5;obtain⟨f0,f1,f2',f3,f4,f6⟩:=f5;show wpAny _ X.A (assign (.Name x px) X.env acc) _ _ _;refine E4 (Nx I5 hN hi' hx rv (λs6 I6 ch=>?_) hf);obtain⟨a,sb,ha⟩:=ch;have na:cenv.locals≠a:=by
  rcases ha with z | z
  · rw[z];exact f1
  · exact λy=>f4 x a z y.symm
 refine⟨m,hm.sameBut sb na,λh' sb'=>⟨_,H5,I6.turned (t':=s6.toks) (λb o hb e=>(sb'.2 b hb).trans e) f0 f1 f3 f4 f6,q5⟩⟩
end
end L2
set_option exponentiation.threshold 2000
namespace L2
def MG(i j:Int):Prop:=0≤j∧j≤1000∧i.natAbs<2^1000
def Sl(i j:Int):Prop:=0<j∧j<2^1000
theorem Jf:HK X (binaryOp .Pow) (rI MG λi j=> .int (i^j.toNat)):=L0 λi j _ _ _ _ _ hc q=>by
 obtain⟨h0,h1,h2⟩:=hc;refine pow_int h0 ?_ q;have hb:DU i≤1000:=intBits_le h2;have e1:((DU i:Nat):Int)*j≤1000*1000:=by have a1:((DU i:Nat):Int)*j≤1000*j:=Int.mul_le_mul_of_nonneg_right (by omega) h0;have a2:1000*j≤1000*1000:=Int.mul_le_mul_of_nonneg_left h1 (by decide);exact Int.le_trans a1 a2
 exact Int.le_trans e1 (by decide)
theorem Np:HK X (binaryOp .FloorDiv) (rI Sl λi j=> .int (i / j)):=L0 λi j _ _ _ _ _ hc q=>by
 obtain⟨h0,h1⟩:=hc;refine floordiv_int (by omega) ?_ (.inl (PyProof.noPylong_of_log2 ?_))
 · rw[Int.fdiv_eq_ediv_of_nonneg _ (by omega)];exact q
 · have h2:j.natAbs<2^1000:=by
    have e:((j.natAbs:Nat):Int)=j:=by omega
    have h3:((j.natAbs:Nat):Int)<((2^1000:Nat):Int):=by rw[e,Int.natCast_pow];exact h1
    exact Int.ofNat_lt.mp h3
   have h4:j.natAbs≠0:=by omega
   have h5:=(Nat.log2_lt h4).mpr h2;omega
inductive PD where
 | non | bl (b:Bool) | int (i:Int) | str (x:Str) | lst (ds:List PD) | tup (ds:List PD)
mutual
def GZ(K:Af)(H:Hp):PD→V→Prop
 | .non,v=>v= .non
 | .bl b,v=>v= .bl b
 | .int i,v=>v= .int i
 | .str x,v=>v= .str x
 | .lst ds,v=>∃a xs,v= .ref a∧SqL K H a xs∧Reps K H ds xs
 | .tup ds,v=>∃a xs,v= .ref a∧SqT K H a xs∧Reps K H ds xs
def Reps(K:Af)(H:Hp):List PD→List V→Prop
 | [],xs=>xs=[]
 | d::ds,xs=>∃x r,xs=x::r∧GZ K H d x∧Reps K H ds r
end
mutual
def Hk:PD→PD→Bool
 | .non,.non=>true
 | .bl a,.bl b=>a==b
 | .bl a,.int b=>(if a then 1 else 0)==b
 | .int a,.bl b=>a==(if b then 1 else 0)
 | .int a,.int b=>a==b
 | .str a,.str b=>a==b
 | .lst xs,.lst ys=>Ib xs ys
 | .tup xs,.tup ys=>Ib xs ys
 | _,_=>false
def Ib:List PD→List PD→Bool
 | [],[]=>true
 | x::xs,y::ys=>Hk x y && Ib xs ys
 | _,_=>false
end
mutual
def Ir:PD→Nat
 | .lst ds=>IQ ds+1
 | .tup ds=>IQ ds+1
 | _=>0
def IQ:List PD→Nat
 | []=>0
 | d::ds=>max (Ir d) (IQ ds)
end
mutual
theorem JK:∀d:PD,Hk d d=true
 | .non=>rfl
 | .bl b=>by simp[Hk]
 | .int i=>by simp[Hk]
 | .str x=>by simp[Hk]
 | .lst ds=>by rw[Hk];exact Mj ds
 | .tup ds=>by rw[Hk];exact Mj ds
theorem Mj:∀ds:List PD,Ib ds ds=true
 | []=>by rw[Ib]
 | d::ds=>by rw[Ib,JK d,Mj ds];rfl
end
theorem Reps.length:∀{ds:List PD}{xs:List V},Reps K H ds xs→xs.length=ds.length
 | [],xs,h=>by rw[Reps] at h;rw[h];rfl
 | d::ds,xs,h=>by rw[Reps] at h;obtain⟨x,r,rfl,_,h⟩:=h;rw[A5,A5,Reps.length h]
theorem Kf:∀{xs ys:List PD},xs.length≠ys.length→Ib xs ys=false
 | [],[],h=>absurd rfl h
 | [],_::_,_=>by rw[Ib];all_goals simp
 | _::_,[],_=>by rw[Ib];all_goals simp
 | x::xs,y::ys,h=>by rw[Ib,Kf (xs:=xs) (ys:=ys) (by simpa using h)];simp
def Kn(xs ys:List PD)(j:Nat):Bool:=match xs[j]?,ys[j]? with
 | some a,some b=>Hk a b
 | _,_=>false
theorem K3:∀(xs ys:List PD),xs.length=ys.length→(AX xs.length).all (Kn xs ys)=Ib xs ys
 | [],[],_=>by rw[Ib];rfl
 | x::xs,y::ys,h=>by rw[Ib,A5,D8,C2,List.all_map];rw[←K3 xs ys (by simpa using h)];rfl
theorem SqT.notL{K:Af}{ys:List V}(I:Inv X pins σ H s)(h:SqT X.K H a xs)(h':SqL X.K H a ys):False:=by obtain⟨its,_,p,_⟩:=I.tuple h;obtain⟨its',_,p',_⟩:=I.list h';exact SeqAt.ne_of_list_tuple p'.isList (show s.heap.IsTuple a its.toArray from p) rfl
mutual
theorem LV(I:Inv X pins σ H s):∀(d e:PD)(v:V),GZ X.K H d v→GZ X.K H e v→d=e
 | .non,e,v,h,h'=>by rw[GZ] at h;subst h;cases e<;>rw[GZ] at h'<;>first | rfl | (obtain⟨_,_,z,_⟩:=h';cases z;done) | (cases h';done)
 | .bl b,e,v,h,h'=>by rw[GZ] at h;subst h;cases e<;>rw[GZ] at h'<;>first | (obtain⟨_,_,z,_⟩:=h';cases z;done) | (cases h';done) | (cases h';rfl)
 | .int i,e,v,h,h'=>by rw[GZ] at h;subst h;cases e<;>rw[GZ] at h'<;>first | (obtain⟨_,_,z,_⟩:=h';cases z;done) | (cases h';done) | (cases h';rfl)
 | .str x,e,v,h,h'=>by rw[GZ] at h;subst h;cases e<;>rw[GZ] at h'<;>first | (obtain⟨_,_,z,_⟩:=h';cases z;done) | (cases h';done) | (cases h';rfl)
 | .lst ds,e,v,h,h'=>by
  rw[GZ] at h;obtain⟨a,xs,rfl,q,r⟩:=h;cases e with
  | lst es=> rw[GZ] at h';obtain⟨a',ys,z,q',r'⟩:=h';cases z;have:=I.list_inj q q';subst this;rw[Nh I ds es xs r r']
  | tup es=> rw[GZ] at h';obtain⟨a',ys,z,q',r'⟩:=h';cases z;exact(SqT.notL (K:=X.K) I q' q).elim
  | _=>rw[GZ] at h';cases h'
 | .tup ds,e,v,h,h'=>by
  rw[GZ] at h;obtain⟨a,xs,rfl,q,r⟩:=h;cases e with
  | tup es=> rw[GZ] at h';obtain⟨a',ys,z,q',r'⟩:=h';cases z;have:=I.tuple_inj q q';subst this;rw[Nh I ds es xs r r']
  | lst es=> rw[GZ] at h';obtain⟨a',ys,z,q',r'⟩:=h';cases z;exact(SqT.notL (K:=X.K) I q q').elim
  | _=>rw[GZ] at h';cases h'
theorem Nh(I:Inv X pins σ H s):∀(ds es:List PD)(vs:List V),Reps X.K H ds vs→Reps X.K H es vs→ds=es
 | [],es,vs,h,h'=>by
  rw[Reps] at h;subst h;cases es with
  | nil=>rfl
  | cons e es=>rw[Reps] at h';obtain⟨_,_,z,_⟩:=h';cases z
 | d::ds,es,vs,h,h'=>by
  rw[Reps] at h;obtain⟨x,r,rfl,h1,h2⟩:=h;cases es with
  | nil=>rw[Reps] at h';cases h'
  | cons e es=> rw[Reps] at h';obtain⟨x',r',z,h1',h2'⟩:=h';cases z;rw[LV I d e x h1 h1',Nh I ds es r h2 h2']
end
mutual
theorem KO(I:Inv X pins σ H s):∀(A:BB)(d e:PD)(v w:V)(u y:Value),GZ X.K H d v→GZ X.K H e w→RelV v u→RelV w y→A.units+Ir d<cLine→EE A s u y (Hk d e)
 | A,.non,e,v,w,u,y,h,h',r,r',z=>by
  rw[GZ] at h;subst h;cases r;cases e with
  | non=>rw[GZ] at h';subst h';cases r';rw[Hk];exact Dk _
  | bl b=>rw[GZ] at h';subst h';cases r';exact F6 b
  | int b=>rw[GZ] at h';subst h';obtain⟨t,rfl⟩:=r';exact DQ b t
  | str b=>rw[GZ] at h';subst h';obtain⟨t,rfl⟩:=r';exact DR b t
  | lst es=>rw[GZ] at h';obtain⟨a,xs,rfl,q,_⟩:=h';cases r';obtain⟨its,_,p,_⟩:=I.list q;exact SeqAt.EqAt.none_list p.isList (by omega)
  | tup es=>rw[GZ] at h';obtain⟨a,xs,rfl,q,_⟩:=h';cases r';obtain⟨its,_,p,_⟩:=I.tuple q;exact SeqAt.EqAt.none_tuple p (by omega)
 | A,.bl c,e,v,w,u,y,h,h',r,r',z=>by
  rw[GZ] at h;subst h;cases r;cases e with
  | non=>rw[GZ] at h';subst h';cases r';exact F7 c
  | bl b=>rw[GZ] at h';subst h';cases r';exact F8 c b
  | int b=>rw[GZ] at h';subst h';obtain⟨t,rfl⟩:=r';exact FE c b t
  | str b=>rw[GZ] at h';subst h';obtain⟨t,rfl⟩:=r';exact FF c b t
  | lst es=>rw[GZ] at h';obtain⟨a,xs,rfl,q,_⟩:=h';cases r';obtain⟨its,_,p,_⟩:=I.list q;exact SeqAt.EqAt.bool_list c p.isList (by omega)
  | tup es=>rw[GZ] at h';obtain⟨a,xs,rfl,q,_⟩:=h';cases r';obtain⟨its,_,p,_⟩:=I.tuple q;exact SeqAt.EqAt.bool_tuple c p (by omega)
 | A,.int c,e,v,w,u,y,h,h',r,r',z=>by
  rw[GZ] at h;subst h;obtain⟨tc,rfl⟩:=r;cases e with
  | non=>rw[GZ] at h';subst h';cases r';exact DS c tc
  | bl b=>rw[GZ] at h';subst h';cases r';exact FG c tc b
  | int b=>rw[GZ] at h';subst h';obtain⟨t,rfl⟩:=r';exact SeqAt.EqAt.int_int c tc b t
  | str b=>rw[GZ] at h';subst h';obtain⟨t,rfl⟩:=r';exact Do c tc b t
  | lst es=>rw[GZ] at h';obtain⟨a,xs,rfl,q,_⟩:=h';cases r';obtain⟨its,_,p,_⟩:=I.list q;exact SeqAt.EqAt.int_list c tc p.isList (by omega)
  | tup es=>rw[GZ] at h';obtain⟨a,xs,rfl,q,_⟩:=h';cases r';obtain⟨its,_,p,_⟩:=I.tuple q;exact SeqAt.EqAt.int_tuple c tc p (by omega)
 | A,.str c,e,v,w,u,y,h,h',r,r',z=>by
  rw[GZ] at h;subst h;obtain⟨tc,rfl⟩:=r;cases e with
  | non=>rw[GZ] at h';subst h';cases r';exact DT c tc
  | bl b=>rw[GZ] at h';subst h';cases r';exact FH c tc b
  | int b=>rw[GZ] at h';subst h';obtain⟨t,rfl⟩:=r';exact Dp c tc b t
  | str b=>rw[GZ] at h';subst h';obtain⟨t,rfl⟩:=r';exact SeqAt.EqAt.str_str c tc b t
  | lst es=>rw[GZ] at h';obtain⟨a,xs,rfl,q,_⟩:=h';cases r';obtain⟨its,_,p,_⟩:=I.list q;exact SeqAt.EqAt.str_list c tc p.isList (by omega)
  | tup es=>rw[GZ] at h';obtain⟨a,xs,rfl,q,_⟩:=h';cases r';obtain⟨its,_,p,_⟩:=I.tuple q;exact SeqAt.EqAt.str_tuple c tc p (by omega)
 | A,.lst ds,e,v,w,u,y,h,h',r,r',z=>by
  have h0:=h;rw[GZ] at h;obtain⟨a,xs,rfl,q,qs⟩:=h;cases r;obtain⟨its,rv,p,_⟩:=I.list q;cases e with
  | non=>rw[GZ] at h';subst h';cases r';exact SeqAt.EqAt.list_none p.isList (by omega)
  | bl b=>rw[GZ] at h';subst h';cases r';exact SeqAt.EqAt.list_bool b p.isList (by omega)
  | int b=>rw[GZ] at h';subst h';obtain⟨t,rfl⟩:=r';exact SeqAt.EqAt.list_int b t p.isList (by omega)
  | str b=>rw[GZ] at h';subst h';obtain⟨t,rfl⟩:=r';exact SeqAt.EqAt.list_str b t p.isList (by omega)
  | tup es=>rw[GZ] at h';obtain⟨b,ys,rfl,q',_⟩:=h';cases r';obtain⟨its',_,p',_⟩:=I.tuple q';exact SeqAt.EqAt.list_tuple p.isList p' (by omega)
  | lst es=>
   have h0':=h';rw[GZ] at h';obtain⟨b,ys,rfl,q',qs'⟩:=h';cases r';obtain⟨its',rv',p',_⟩:=I.list q';by_cases hab:a=b
   · subst hab;rw[LV I _ _ _ h0 h0',JK];exact Dk _
   · refine SeqAt.EqAt.of_refs hab ?_;rw[Hk];rw[Ir] at z;have l1:=qs.length;have l2:=qs'.length;have l3:=rv.length;have l4:=rv'.length;by_cases hl:ds.length=es.length
     · rw[←K3 ds es hl];have:=SeqAt.RcAt.lists (e:=Kn ds es) p.isList p'.isList (by simp;omega) (by omega) (λj h1 h2=>?_) (A:=A)
       · simp only[Ak] at this;rw[show ds.length=its.length by omega];exact this
       · have:=Ky I A.in1 ds es xs ys its its' qs qs' rv rv' (by rw[Bn];omega) j (by simpa using h1) (by simpa using h2);simpa using this
     · rw[Kf hl];exact EM p.isList p'.isList (by simp;omega) (by omega)
 | A,.tup ds,e,v,w,u,y,h,h',r,r',z=>by
  have h0:=h;rw[GZ] at h;obtain⟨a,xs,rfl,q,qs⟩:=h;cases r;obtain⟨its,rv,p,_⟩:=I.tuple q;cases e with
  | non=>rw[GZ] at h';subst h';cases r';exact SeqAt.EqAt.tuple_none p (by omega)
  | bl b=>rw[GZ] at h';subst h';cases r';exact SeqAt.EqAt.tuple_bool b p (by omega)
  | int b=>rw[GZ] at h';subst h';obtain⟨t,rfl⟩:=r';exact SeqAt.EqAt.tuple_int b t p (by omega)
  | str b=>rw[GZ] at h';subst h';obtain⟨t,rfl⟩:=r';exact SeqAt.EqAt.tuple_str b t p (by omega)
  | lst es=>rw[GZ] at h';obtain⟨b,ys,rfl,q',_⟩:=h';cases r';obtain⟨its',_,p',_⟩:=I.list q';exact SeqAt.EqAt.tuple_list p p'.isList (by omega)
  | tup es=>
   have h0':=h';rw[GZ] at h';obtain⟨b,ys,rfl,q',qs'⟩:=h';cases r';obtain⟨its',rv',p',_⟩:=I.tuple q';by_cases hab:a=b
   · subst hab;rw[LV I _ _ _ h0 h0',JK];exact Dk _
   · refine SeqAt.EqAt.of_refs hab ?_;rw[Hk];rw[Ir] at z;have l1:=qs.length;have l2:=qs'.length;have l3:=rv.length;have l4:=rv'.length;have:=E8 (e:=Kn ds es) p p' (by omega) (λj h1 h2=>?_) (A:=A)
     · simp only[Ak] at this;by_cases hl:ds.length=es.length
       · rw[←K3 ds es hl];rw[show min its.length its'.length=ds.length by omega,show(its.length==its'.length)=true by simp;omega,Bool.and_true] at this;exact this
       · rw[Kf hl];rw[show(its.length==its'.length)=false by simp;omega,CU] at this;exact this
     · have:=Ky I A.in1 ds es xs ys its its' qs qs' rv rv' (by rw[Bn];omega) j (by simpa using h1) (by simpa using h2);simpa using this
theorem Ky(I:Inv X pins σ H s):∀(A:BB)(ds es:List PD)(vs ws:List V)(us ys:List Value),Reps X.K H ds vs→Reps X.K H es ws→Vals vs us→Vals ws ys→A.units+IQ ds<cLine→
 ∀(j:Nat)(h1:j<us.length)(h2:j<ys.length),EE A s us[j] ys[j] (Kn ds es j)
 | A,[],es,vs,ws,us,ys,h,h',r,r',z=>by rw[Reps] at h;subst h;cases r;intro j h1;exact absurd h1 (Nat.not_lt_zero _)
 | A,d::ds,es,vs,ws,us,ys,h,h',r,r',z=>by
  rw[Reps] at h;obtain⟨x,vr,rfl,g1,g2⟩:=h;cases es with
  | nil=> rw[Reps] at h';subst h';cases r';intro j h1 h2;exact absurd h2 (Nat.not_lt_zero _)
  | cons e es=>
   rw[Reps] at h';obtain⟨x',vr',rfl,g1',g2'⟩:=h';cases r with
   | cons ra rb=>
    cases r' with
    | cons ra' rb'=>
     rw[IQ] at z;intro j h1 h2;cases j with
     | zero=>exact KO I A d e x x' _ _ g1 g1' ra ra' (by omega)
     | succ j=>exact Ky I A ds es vr vr' _ _ g2 g2' rb rb' (by omega) j (by simpa using h1) (by simpa using h2)
end
section
variable{R:Result→Shared→Prop}{J:Addr}{fo wo:List Addr}{len:Nat}{At:Nat→Value→Prop}{Sx:Nat→Heap→Prop}
end
section
variable{R:Result→Shared→Prop}{J:Addr}{fo wo:List Addr}{len:Nat}{At:Nat→Value→Prop}{Sx:Nat→Heap→Prop}
end
theorem Mg(I:Inv X pins σ H s)(A:BB)(d e:PD)(v w:V)(u y:Value)(h:GZ X.K H d v)(h':GZ X.K H e w)(r:RelV v u)(r':RelV w y)(z:A.units+Ir d<cLine):SeqAt.RcAt A s u y (Hk d e):=by
 cases d with
 | non=>
  rw[GZ] at h;subst h;cases r;cases e with
  | non=> rw[GZ] at h';subst h';cases r';rw[Hk];exact SeqAt.RcAt.none_none
  | bl b=> rw[GZ] at h';subst h';cases r';exact SeqAt.RcAt.none_bool b
  | int b=> rw[GZ] at h';subst h';obtain⟨t,rfl⟩:=r';exact SeqAt.RcAt.none_int b t
  | str b=> rw[GZ] at h';subst h';obtain⟨t,rfl⟩:=r';exact SeqAt.RcAt.none_str b t
  | lst es=> rw[GZ] at h';obtain⟨b,ys,rfl,q',qs'⟩:=h';cases r';obtain⟨its',rv',p',_⟩:=I.list q';exact SeqAt.RcAt.none_list p'.isList (by omega)
  | tup es=> rw[GZ] at h';obtain⟨b,ys,rfl,q',qs'⟩:=h';cases r';obtain⟨its',rv',p',_⟩:=I.tuple q';exact SeqAt.RcAt.none_tuple p' (by omega)
 | bl c=>
  rw[GZ] at h;subst h;cases r;cases e with
  | non=> rw[GZ] at h';subst h';cases r';exact SeqAt.RcAt.bool_none c
  | bl b=> rw[GZ] at h';subst h';cases r';exact SeqAt.RcAt.bool_bool c b
  | int b=> rw[GZ] at h';subst h';obtain⟨t,rfl⟩:=r';exact SeqAt.RcAt.bool_int c b t
  | str b=> rw[GZ] at h';subst h';obtain⟨t,rfl⟩:=r';exact SeqAt.RcAt.bool_str c b t
  | lst es=> rw[GZ] at h';obtain⟨b,ys,rfl,q',qs'⟩:=h';cases r';obtain⟨its',rv',p',_⟩:=I.list q';exact SeqAt.RcAt.bool_list c p'.isList (by omega)
  | tup es=> rw[GZ] at h';obtain⟨b,ys,rfl,q',qs'⟩:=h';cases r';obtain⟨its',rv',p',_⟩:=I.tuple q';exact SeqAt.RcAt.bool_tuple c p' (by omega)
 | int c=>
  rw[GZ] at h;subst h;obtain⟨tc,rfl⟩:=r;cases e with
  | non=> rw[GZ] at h';subst h';cases r';exact SeqAt.RcAt.int_none c tc
  | bl b=> rw[GZ] at h';subst h';cases r';exact SeqAt.RcAt.int_bool c tc b
  | int b=> rw[GZ] at h';subst h';obtain⟨t,rfl⟩:=r';exact SeqAt.RcAt.int_int c tc b t
  | str b=> rw[GZ] at h';subst h';obtain⟨t,rfl⟩:=r';exact SeqAt.RcAt.int_str c tc b t
  | lst es=> rw[GZ] at h';obtain⟨b,ys,rfl,q',qs'⟩:=h';cases r';obtain⟨its',rv',p',_⟩:=I.list q';exact SeqAt.RcAt.int_list c tc p'.isList (by omega)
  | tup es=> rw[GZ] at h';obtain⟨b,ys,rfl,q',qs'⟩:=h';cases r';obtain⟨its',rv',p',_⟩:=I.tuple q';exact SeqAt.RcAt.int_tuple c tc p' (by omega)
 | str c=>
  rw[GZ] at h;subst h;obtain⟨tc,rfl⟩:=r;cases e with
  | non=> rw[GZ] at h';subst h';cases r';exact SeqAt.RcAt.str_none c tc
  | bl b=> rw[GZ] at h';subst h';cases r';exact SeqAt.RcAt.str_bool c tc b
  | int b=> rw[GZ] at h';subst h';obtain⟨t,rfl⟩:=r';exact SeqAt.RcAt.str_int c tc b t
  | str b=> rw[GZ] at h';subst h';obtain⟨t,rfl⟩:=r';exact SeqAt.RcAt.str_str c tc b t
  | lst es=> rw[GZ] at h';obtain⟨b,ys,rfl,q',qs'⟩:=h';cases r';obtain⟨its',rv',p',_⟩:=I.list q';exact SeqAt.RcAt.str_list c tc p'.isList (by omega)
  | tup es=> rw[GZ] at h';obtain⟨b,ys,rfl,q',qs'⟩:=h';cases r';obtain⟨its',rv',p',_⟩:=I.tuple q';exact SeqAt.RcAt.str_tuple c tc p' (by omega)
 | lst ds=>
  rw[GZ] at h;obtain⟨a,xs,rfl,q,qs⟩:=h;cases r;obtain⟨its,rv,p,_⟩:=I.list q;cases e with
  | non=> rw[GZ] at h';subst h';cases r';exact SeqAt.RcAt.list_none p.isList (by omega)
  | bl b=> rw[GZ] at h';subst h';cases r';exact SeqAt.RcAt.list_bool b p.isList (by omega)
  | int b=> rw[GZ] at h';subst h';obtain⟨t,rfl⟩:=r';exact SeqAt.RcAt.list_int b t p.isList (by omega)
  | str b=> rw[GZ] at h';subst h';obtain⟨t,rfl⟩:=r';exact SeqAt.RcAt.list_str b t p.isList (by omega)
  | lst es=>
   rw[GZ] at h';obtain⟨b,ys,rfl,q',qs'⟩:=h';cases r';obtain⟨its',rv',p',_⟩:=I.list q';rw[Hk];rw[Ir] at z;have l1:=qs.length;have l2:=qs'.length;have l3:=rv.length;have l4:=rv'.length;by_cases hl:ds.length=es.length
   · rw[←K3 ds es hl];have:=SeqAt.RcAt.lists (e:=Kn ds es) p.isList p'.isList (by simp;omega) (by omega) (λj h1 h2=>?_) (A:=A)
     · simp only[Ak] at this;rw[show ds.length=its.length by omega];exact this
     · have:=Ky I A.in1 ds es xs ys its its' qs qs' rv rv' (by rw[Bn];omega) j (by simpa using h1) (by simpa using h2);simpa using this
   · rw[Kf hl];exact EM p.isList p'.isList (by simp;omega) (by omega)
  | tup es=> rw[GZ] at h';obtain⟨b,ys,rfl,q',qs'⟩:=h';cases r';obtain⟨its',rv',p',_⟩:=I.tuple q';exact SeqAt.RcAt.list_tuple p.isList p' (by omega)
 | tup ds=>
  rw[GZ] at h;obtain⟨a,xs,rfl,q,qs⟩:=h;cases r;obtain⟨its,rv,p,_⟩:=I.tuple q;cases e with
  | non=> rw[GZ] at h';subst h';cases r';exact SeqAt.RcAt.tuple_none p (by omega)
  | bl b=> rw[GZ] at h';subst h';cases r';exact SeqAt.RcAt.tuple_bool b p (by omega)
  | int b=> rw[GZ] at h';subst h';obtain⟨t,rfl⟩:=r';exact SeqAt.RcAt.tuple_int b t p (by omega)
  | str b=> rw[GZ] at h';subst h';obtain⟨t,rfl⟩:=r';exact SeqAt.RcAt.tuple_str b t p (by omega)
  | lst es=> rw[GZ] at h';obtain⟨b,ys,rfl,q',qs'⟩:=h';cases r';obtain⟨its',rv',p',_⟩:=I.list q';exact SeqAt.RcAt.tuple_list p p'.isList (by omega)
  | tup es=>
   rw[GZ] at h';obtain⟨b,ys,rfl,q',qs'⟩:=h';cases r';obtain⟨its',rv',p',_⟩:=I.tuple q';rw[Hk];rw[Ir] at z;have l1:=qs.length;have l2:=qs'.length;have l3:=rv.length;have l4:=rv'.length;have:=E8 (e:=Kn ds es) p p' (by omega) (λj h1 h2=>?_) (A:=A)
   · simp only[Ak] at this;by_cases hl:ds.length=es.length
     · rw[←K3 ds es hl];rw[show min its.length its'.length=ds.length by omega,show(its.length==its'.length)=true by simp;omega,Bool.and_true] at this;exact this
     · rw[Kf hl];rw[show(its.length==its'.length)=false by simp;omega,CU] at this;exact this
   · have:=Ky I A.in1 ds es xs ys its its' qs qs' rv rv' (by rw[Bn];omega) j (by simpa using h1) (by simpa using h2);simpa using this
theorem VI(I:Inv X pins σ H s)(A:BB)(d e:PD)(v w:V)(u y:Value)(h:GZ X.K H d v)(h':GZ X.K H e w)(r:RelV v u)(r':RelV w y)(z:A.units+Ir d<cLine):SeqAt.RcNeAt A s u y (!Hk d e):=by
 cases d with
 | non=>
  rw[GZ] at h;subst h;cases r;cases e with
  | non=> rw[GZ] at h';subst h';cases r';rw[Hk];exact SeqAt.RcNeAt.none_none
  | bl b=> rw[GZ] at h';subst h';cases r';exact SeqAt.RcNeAt.none_bool b
  | int b=> rw[GZ] at h';subst h';obtain⟨t,rfl⟩:=r';exact SeqAt.RcNeAt.none_int b t
  | str b=> rw[GZ] at h';subst h';obtain⟨t,rfl⟩:=r';exact SeqAt.RcNeAt.none_str b t
  | lst es=> rw[GZ] at h';obtain⟨b,ys,rfl,q',qs'⟩:=h';cases r';obtain⟨its',rv',p',_⟩:=I.list q';exact SeqAt.RcNeAt.none_list p'.isList (by omega)
  | tup es=> rw[GZ] at h';obtain⟨b,ys,rfl,q',qs'⟩:=h';cases r';obtain⟨its',rv',p',_⟩:=I.tuple q';exact SeqAt.RcNeAt.none_tuple p' (by omega)
 | bl c=>
  rw[GZ] at h;subst h;cases r;cases e with
  | non=> rw[GZ] at h';subst h';cases r';exact SeqAt.RcNeAt.bool_none c
  | bl b=> rw[GZ] at h';subst h';cases r';exact SeqAt.RcNeAt.bool_bool c b
  | int b=> rw[GZ] at h';subst h';obtain⟨t,rfl⟩:=r';exact SeqAt.RcNeAt.bool_int c b t
  | str b=> rw[GZ] at h';subst h';obtain⟨t,rfl⟩:=r';exact SeqAt.RcNeAt.bool_str c b t
  | lst es=> rw[GZ] at h';obtain⟨b,ys,rfl,q',qs'⟩:=h';cases r';obtain⟨its',rv',p',_⟩:=I.list q';exact SeqAt.RcNeAt.bool_list c p'.isList (by omega)
  | tup es=> rw[GZ] at h';obtain⟨b,ys,rfl,q',qs'⟩:=h';cases r';obtain⟨its',rv',p',_⟩:=I.tuple q';exact SeqAt.RcNeAt.bool_tuple c p' (by omega)
 | int c=>
  rw[GZ] at h;subst h;obtain⟨tc,rfl⟩:=r;cases e with
  | non=> rw[GZ] at h';subst h';cases r';exact SeqAt.RcNeAt.int_none c tc
  | bl b=> rw[GZ] at h';subst h';cases r';exact SeqAt.RcNeAt.int_bool c tc b
  | int b=> rw[GZ] at h';subst h';obtain⟨t,rfl⟩:=r';exact SeqAt.RcNeAt.int_int c tc b t
  | str b=> rw[GZ] at h';subst h';obtain⟨t,rfl⟩:=r';exact SeqAt.RcNeAt.int_str c tc b t
  | lst es=> rw[GZ] at h';obtain⟨b,ys,rfl,q',qs'⟩:=h';cases r';obtain⟨its',rv',p',_⟩:=I.list q';exact SeqAt.RcNeAt.int_list c tc p'.isList (by omega)
  | tup es=> rw[GZ] at h';obtain⟨b,ys,rfl,q',qs'⟩:=h';cases r';obtain⟨its',rv',p',_⟩:=I.tuple q';exact SeqAt.RcNeAt.int_tuple c tc p' (by omega)
 | str c=>
  rw[GZ] at h;subst h;obtain⟨tc,rfl⟩:=r;cases e with
  | non=> rw[GZ] at h';subst h';cases r';exact SeqAt.RcNeAt.str_none c tc
  | bl b=> rw[GZ] at h';subst h';cases r';exact SeqAt.RcNeAt.str_bool c tc b
  | int b=> rw[GZ] at h';subst h';obtain⟨t,rfl⟩:=r';exact SeqAt.RcNeAt.str_int c tc b t
  | str b=> rw[GZ] at h';subst h';obtain⟨t,rfl⟩:=r';exact SeqAt.RcNeAt.str_str c tc b t
  | lst es=> rw[GZ] at h';obtain⟨b,ys,rfl,q',qs'⟩:=h';cases r';obtain⟨its',rv',p',_⟩:=I.list q';exact SeqAt.RcNeAt.str_list c tc p'.isList (by omega)
  | tup es=> rw[GZ] at h';obtain⟨b,ys,rfl,q',qs'⟩:=h';cases r';obtain⟨its',rv',p',_⟩:=I.tuple q';exact SeqAt.RcNeAt.str_tuple c tc p' (by omega)
 | lst ds=>
  rw[GZ] at h;obtain⟨a,xs,rfl,q,qs⟩:=h;cases r;obtain⟨its,rv,p,_⟩:=I.list q;cases e with
  | non=> rw[GZ] at h';subst h';cases r';exact SeqAt.RcNeAt.list_none p.isList (by omega)
  | bl b=> rw[GZ] at h';subst h';cases r';exact SeqAt.RcNeAt.list_bool b p.isList (by omega)
  | int b=> rw[GZ] at h';subst h';obtain⟨t,rfl⟩:=r';exact SeqAt.RcNeAt.list_int b t p.isList (by omega)
  | str b=> rw[GZ] at h';subst h';obtain⟨t,rfl⟩:=r';exact SeqAt.RcNeAt.list_str b t p.isList (by omega)
  | lst es=>
   rw[GZ] at h';obtain⟨b,ys,rfl,q',qs'⟩:=h';cases r';obtain⟨its',rv',p',_⟩:=I.list q';rw[Hk];rw[Ir] at z;have l1:=qs.length;have l2:=qs'.length;have l3:=rv.length;have l4:=rv'.length;by_cases hl:ds.length=es.length
   · rw[←K3 ds es hl];have:=SeqAt.RcNeAt.lists (e:=Kn ds es) p.isList p'.isList (by simp;omega) (by omega) (λj h1 h2=>?_) (A:=A)
     · simp only[Ak] at this;rw[show ds.length=its.length by omega];exact this
     · have:=Ky I A.in1 ds es xs ys its its' qs qs' rv rv' (by rw[Bn];omega) j (by simpa using h1) (by simpa using h2);simpa using this
   · rw[Kf hl];exact Er p.isList p'.isList (by simp;omega) (by omega)
  | tup es=> rw[GZ] at h';obtain⟨b,ys,rfl,q',qs'⟩:=h';cases r';obtain⟨its',rv',p',_⟩:=I.tuple q';exact SeqAt.RcNeAt.list_tuple p.isList p' (by omega)
 | tup ds=>
  rw[GZ] at h;obtain⟨a,xs,rfl,q,qs⟩:=h;cases r;obtain⟨its,rv,p,_⟩:=I.tuple q;cases e with
  | non=> rw[GZ] at h';subst h';cases r';exact SeqAt.RcNeAt.tuple_none p (by omega)
  | bl b=> rw[GZ] at h';subst h';cases r';exact SeqAt.RcNeAt.tuple_bool b p (by omega)
  | int b=> rw[GZ] at h';subst h';obtain⟨t,rfl⟩:=r';exact SeqAt.RcNeAt.tuple_int b t p (by omega)
  | str b=> rw[GZ] at h';subst h';obtain⟨t,rfl⟩:=r';exact SeqAt.RcNeAt.tuple_str b t p (by omega)
  | lst es=> rw[GZ] at h';obtain⟨b,ys,rfl,q',qs'⟩:=h';cases r';obtain⟨its',rv',p',_⟩:=I.list q';exact SeqAt.RcNeAt.tuple_list p p'.isList (by omega)
  | tup es=>
   rw[GZ] at h';obtain⟨b,ys,rfl,q',qs'⟩:=h';cases r';obtain⟨its',rv',p',_⟩:=I.tuple q';rw[Hk];rw[Ir] at z;have l1:=qs.length;have l2:=qs'.length;have l3:=rv.length;have l4:=rv'.length;have:=SeqAt.RcNeAt.tuples (e:=Kn ds es) p p' (by omega) (λj h1 h2=>?_) (A:=A)
   · simp only[Ak] at this;by_cases hl:ds.length=es.length
     · rw[←K3 ds es hl];rw[show min its.length its'.length=ds.length by omega,show(its.length==its'.length)=true by simp;omega,Bool.and_true] at this;exact this
     · rw[Kf hl];rw[show(its.length==its'.length)=false by simp;omega,CU] at this;exact this
   · have:=Ky I A.in1 ds es xs ys its its' qs qs' rv rv' (by rw[Bn];omega) j (by simpa using h1) (by simpa using h2);simpa using this
def Jb(X:Cx):Prop:=X.A.units+60<cLine
def Lw(K:Af):R2:=λx y H Q=>∃d e,GZ K H d x∧GZ K H e y∧Ir d<60∧Q (.bl (!Hk d e)) H
theorem Pz(hr:Jb X):HK X (Bq .NotEq) (Lw X.K):=by intro pins s σ H x y v u Q I rx ry h;obtain⟨d,e,h1,h2,h3,q⟩:=h;unfold Jb at hr;exact VI I X.A d e x y v u h1 h2 rx ry (by omega) X.prog X.w _ _ ⟨.bl _,H,I,rfl,q⟩
theorem K0{k:Nat}(hr:Room k A):A.units+60<cLine:=Cj (FI (by decide:60≤64) _) hr.units
theorem Ik{n:String}:I0 X (.builtin "isinstance") (λxs H Q=>∃x t c b,xs=[x,.ty c]∧TyOf X.K H x (.type t)∧PySem.W.kitOne X.K (.type t) (.type c)=some b∧Q (.bl b) H):=by intro pins s σ H xs us Q I r h;obtain⟨x,t,c,b,rfl,ty,e,q⟩:=h;obtain⟨u,w',rfl,ru,rw'⟩:=KJ r;cases rw';exact Vw I ru ty e λtk=>⟨.bl b,H,I.tok tk,rfl,q⟩
section
variable{p:Addr}{g:TG}{tc:TT}{te:TE}{Q:VK}
abbrev Kv(p:Addr)(g:TG)(tc:TT)(te:TE)(ys:List V)(x:V)(σ:St)(H:Hp)(N:St→List V→Hp→Prop):Prop:=
 g x σ H λσ2 H2=>tc σ2 H2 λb H3=>if b=true then te σ2 H3 λy H4=>H4 p=some (.lst ys)∧N σ2 (ys++[y]) (GY H4 p (.lst (ys++[y]))) else N σ2 ys H3
theorem KL{n:Nat}{J:It}{js:HU}(Pv:Nat→St→List V→Hp→Prop)(h0:Pv 0 (ID js σ) [] (GY H p (.lst [])))
 (hl:∀i σ ys H,i≤n→Pv i σ ys H→H p=some (.lst ys)∧ys.length<As)
 (hgo:∀i σ ys H,i<n→Pv i σ ys H→J.go i H) (hst:∀σ ys H,Pv n σ ys H→J.stop n H)
 (hs:∀(i:Nat)x σ ys H H'(N:St→List V→Hp→Prop),i<n→J.yld i H x H'→Pv i σ ys H→(∀σ' ys' H',Pv (i+1) σ' ys' H'→N σ' ys' H')→Kv p g tc te ys x σ H' N)
 (hd:∀σ ys H,Pv n σ ys H→Q (.ref p) H):
 J1 J p js g tc te σ H Q:=by
 refine⟨λi m σ ys H=>m=n - i∧i≤n∧Pv i σ ys H,⟨n,by simp,Br _,h0⟩,?_⟩;rintro i m σ ys H ⟨rfl,hi,pv⟩;obtain⟨q1,q2⟩:=hl i σ ys H hi pv;refine⟨q1,?_⟩;by_cases lt:i<n
 · exact .inr ⟨hgo i σ ys H lt pv,q2,λx H' y=>hs i x σ ys H H' (λσ2 ys2 H2=>∃m',m'<n - i∧m'=n - (i+1)∧i+1≤n∧Pv (i+1) σ2 ys2 H2) lt y pv λσ' ys' H' p'=>⟨n - (i+1),by omega,rfl,lt,p'⟩⟩
 · have e:i=n:=by omega
   subst e;exact .inl ⟨hst σ ys H pv,hd σ ys H pv⟩
theorem Kd{js:HU}(Pv:Nat→St→List V→Hp→Prop)(h0:Pv 0 (ID js σ) [] (GY H p (.lst [])))
 (hl:∀i σ ys H,i≤xs.length→Pv i σ ys H→SqL K H a xs∧H p=some (.lst ys)∧ys.length<As)
 (hs:∀(i:Nat)x σ ys H(N:St→List V→Hp→Prop),xs[i]?=some x→Pv i σ ys H→(∀σ' ys' H',Pv (i+1) σ' ys' H'→N σ' ys' H')→Kv p g tc te ys x σ H N)
 (hd:∀σ ys H,Pv xs.length σ ys H→Q (.ref p) H):J1 (JZ K a) p js g tc te σ H Q:=
 KL (n:=xs.length) (J:=JZ K a) (js:=js) (σ:=σ) (H:=H) (p:=p) (Q:=Q) (g:=g) (tc:=tc) (te:=te) Pv h0 (λi σ ys H hi pv=>(hl i σ ys H hi pv).2)
  (λi σ ys H hi pv=>⟨xs,xs[i],(hl i σ ys H (Bd hi) pv).1,by simp[hi]⟩) (λσ ys H pv=>⟨xs,(hl _ σ ys H (Ae _) pv).1,Ae _⟩)
  (λi x σ ys H H' N hi y pv hN=>by obtain⟨e,y⟩:=y;subst e;exact hs i x σ ys _ N (y xs (hl i σ ys _ (Bd hi) pv).1) pv hN) hd
theorem Pw{js:HU}(Pv:Nat→St→List V→Hp→Prop)(h0:Pv 0 (ID js σ) [] (GY H p (.lst [])))
 (hl:∀i σ ys H,i≤xs.length→Pv i σ ys H→SqT K H a xs∧H p=some (.lst ys)∧ys.length<As)
 (hs:∀(i:Nat)x σ ys H(N:St→List V→Hp→Prop),xs[i]?=some x→Pv i σ ys H→(∀σ' ys' H',Pv (i+1) σ' ys' H'→N σ' ys' H')→Kv p g tc te ys x σ H N)
 (hd:∀σ ys H,Pv xs.length σ ys H→Q (.ref p) H):J1 (Kp K a) p js g tc te σ H Q:=
 KL (n:=xs.length) (J:=Kp K a) (js:=js) (σ:=σ) (H:=H) (p:=p) (Q:=Q) (g:=g) (tc:=tc) (te:=te) Pv h0 (λi σ ys H hi pv=>(hl i σ ys H hi pv).2)
  (λi σ ys H hi pv=>⟨xs,xs[i],(hl i σ ys H (Bd hi) pv).1,by simp[hi]⟩) (λσ ys H pv=>⟨xs,(hl _ σ ys H (Ae _) pv).1,Ae _⟩)
  (λi x σ ys H H' N hi y pv hN=>by obtain⟨e,y⟩:=y;subst e;exact hs i x σ ys _ N (y xs (hl i σ ys _ (Bd hi) pv).1) pv hN) hd
theorem K2{js:HU}{lo:Int}{n:Nat}(Pv:Nat→St→List V→Hp→Prop)(h0:Pv 0 (ID js σ) [] (GY H p (.lst [])))
 (hl:∀i σ ys H,i≤n→Pv i σ ys H→H p=some (.lst ys)∧ys.length<As)
 (hs:∀(i:Nat)σ ys H(N:St→List V→Hp→Prop),i<n→Pv i σ ys H→(∀σ' ys' H',Pv (i+1) σ' ys' H'→N σ' ys' H')→Kv p g tc te ys (.int (lo+i)) σ H N)
 (hd:∀σ ys H,Pv n σ ys H→Q (.ref p) H):J1 (Kq lo n) p js g tc te σ H Q:=
 KL (n:=n) (J:=Kq lo n) (js:=js) (σ:=σ) (H:=H) (p:=p) (Q:=Q) (g:=g) (tc:=tc) (te:=te) Pv h0 hl
  (λi σ ys H hi pv=>hi) (λσ ys H pv=>Ae n)
  (λi x σ ys H H' N hi y pv hN=>by obtain⟨e,y⟩:=y;subst e y;exact hs i σ ys _ N hi pv hN) hd
end
def QR(outer:Scope)(N N':List Str)(js:HU)(scope:Scope):Bool:=
 decide (js.length=N'.length) && (scope.kind== .function) && scope.names.all (λp=>(p.2 != .cell || scope.names.lookup p.1==some .cell) && (p.2 != .local || scope.names.lookup p.1==some .local) && (p.2 != .free || (outer.names.lookup p.1==some .cell || outer.names.lookup p.1==some .free)))
  && (AX js.length).all λi=>match js[i]? with
   | some (some j)=>(match N'[i]? with | some x=>N[j]?==some x && scope.names.lookup x==some .free | none=>false)
   | _=>true
theorem Ig{N N':List Str}{js:HU}{outer:Scope}(h:QR outer N N' js scope=true)(hN:X.N=N:=by rfl)(ho:X.env.scope=outer:=by rfl):CapOk X N' js scope:=by
 subst hN ho;unfold QR at h;rw[AV,AV,AV] at h;obtain⟨⟨⟨h1,h2⟩,h3⟩,h4⟩:=h;rw[List.all_eq_true] at h3 h4;refine⟨of_decide_eq_true h1,eq_of_beq h2,λp hp e=>?_,λp hp e=>?_,λp hp e=>?_,λi j e=>?_⟩
 · have:=h3 p hp;rw[e] at this;simp at this;exact this
 · have:=h3 p hp;rw[e] at this;simp at this;exact this
 · have:=h3 p hp;rw[e] at this;simp at this;exact this
 · have hi:i<js.length:=(Am.mp e).1;have:=h4 i (DZ.mpr hi);rw[e] at this;simp only at this;cases q:N'[i]? with
   | none=>rw[q] at this;cases this
   | some x=> rw[q] at this;simp only[AV,beq_iff_eq] at this;exact⟨x,rfl,this.1,this.2⟩
def HA(P:Bb)(w:World)(K:Af)(mg:Str→Option Value)(base:Heap)(k:Nat)(x:Str)(ps:List Str)(sp:Sp):Prop:=
 ∃f fd,FnOk P w K mg base Hu k f fd ps sp∧Binds K fd ps []∧D_ K (.ref f)=true∧mg x=some (.ref f)
section
variable{k:Nat}{ps:List Str}{sp:Sp}{es:List Expr}{t:TA}{p:Pos}
theorem Hf(F:HA X.prog X.w X.K X.mg X.base k x ps sp)(hr:Room k X.A)(hg:Gl X x)(ha:PA X (e::es) t)(hdb:(x==("__debug__":Str))=false:=by decide)
 (he:Az (e::es) X.env=(false,eval e X.env)::Az es X.env:=by rfl) (hpl:(backTo pos (Az es X.env)).any (·.1)=false:=by rfl):PE X (.Call (.Name x p) (e::es) [] pos) (Pf sp [] E0 t):=by
 obtain⟨f,fd,h1,h2,h3,h4⟩:=F;exact Ul h1 hr hg h4 h3 h2 .nil SD ha hdb he hpl
end
structure Bl(mg:Str→Option Value):Prop where
 len_:mg "len"=none
 range_:mg "range"=none
 isinstance_:mg "isinstance"=none
 int_:mg "int"=none
 bool_:mg "bool"=none
 tuple_:mg "tuple"=none
 list_:mg "list"=none
 max_:mg "max"=none
 min_:mg "min"=none
 all_:mg "all"=none
 zip_:mg "zip"=none
 str_:mg "str"=none
 dict_:mg "dict"=none
 sorted_:mg "sorted"=none
 set_:mg "set"=none
 any_:mg "any"=none
 sum_:mg "sum"=none
 enumerate_:mg "enumerate"=none
 repr_:mg "repr"=none
 ord_:mg "ord"=none
 chr_:mg "chr"=none
 abs_:mg "abs"=none
 reversed_:mg "reversed"=none
theorem ML:AQ "int"=some (.type "int"):=by decide+kernel
theorem MW:AQ "bool"=some (.type "bool"):=by decide+kernel
theorem J3:AQ "tuple"=some (.type "tuple"):=by decide+kernel
theorem Jc:AQ "list"=some (.type "list"):=by decide+kernel
theorem MS:AQ "str"=some (.type "str"):=by decide+kernel
theorem TV:AQ "dict"=some (.type "dict"):=by decide+kernel
theorem Po:AQ "set"=some (.type "set"):=by decide+kernel
theorem Ih:AQ "isinstance"=some (.builtin "isinstance"):=by decide+kernel
theorem HN:AQ "len"=some (.builtin "len"):=by decide+kernel
theorem Ti:AQ "max"=some (.builtin "max"):=by decide+kernel
theorem MM:AQ "min"=some (.builtin "min"):=by decide+kernel
theorem Ka:AQ "all"=some (.builtin "all"):=by decide+kernel
theorem Pn:AQ "any"=some (.builtin "any"):=by decide+kernel
theorem Mp:AQ "sorted"=some (.builtin "sorted"):=by decide+kernel
theorem Pd(h:n≤1000):n≤As:=Bd (HR h)
theorem Hh{p:Addr}(h:H p=none)(o:HO):Same H (GY H p o):=λb u q=>by rw[Hm (IA q h)];exact q
def eV:Option Int→V
 | none=> .non
 | some i=> .int i
def SameB(b g:Addr)(H H':Hp):Prop:=∀a o,H a=some o→a≠b→a≠g→H' a=some o
theorem SameB.trans{g:Addr}{H1 H2:Hp}(x:SameB b g H H1)(y:SameB b g H1 H2):SameB b g H H2:=λa o h n1 n2=>y a o (x a o h n1 n2) n1 n2
theorem Same.sameB{g:Addr}{H1:Hp}(x:Same H H1):SameB b g H H1:=λa o h _ _=>x a o h
theorem Q7:∀ns:List Int,Reps K H (ns.map PD.int) (ns.map V.int)
 | []=>by show Reps K H [] [];rw[Reps]
 | n::ns=>by show Reps K H (.int n::ns.map PD.int) (.int n::ns.map V.int);rw[Reps];exact⟨_,_,rfl,by rw[GZ],Q7 ns⟩
theorem Rw:∀ns:List Int,IQ (ns.map PD.int)=0
 | []=>by show IQ []=0;rw[IQ]
 | n::ns=>by
  show IQ (.int n::ns.map PD.int)=0;rw[IQ,Rw ns,Ir]
  all_goals simp
theorem Pk{p:Addr}{ns:List Int}{Q:VK}(h:SqL K H a (ns.map V.int))(hp:SqL K H p [])(q:Q (.bl (!ns.isEmpty)) H):Lw K (.ref a) (.ref p) H Q:=by
 refine⟨.lst (ns.map PD.int),.lst [],by rw[GZ];exact⟨a,_,rfl,h,Q7 ns⟩,by rw[GZ];exact⟨p,_,rfl,hp,by rw[Reps]⟩,by rw[Ir,Rw];decide,?_⟩;cases ns with
 | nil=>rw[Hk,show Ib (([]:List Int).map PD.int) []=true from Mj []];exact q
 | cons n ns=>rw[Hk,Kf (by simp)];exact q
theorem OT{α:Type}{x:α}{r:List α}:Ie (x::r) 0=some x:=J5 (j:=0) rfl
theorem Se{α:Type}{x:α}{r:List α}:JP (x::r).length 0=some 0:=by unfold JP;rw[if_pos (by decide),if_pos (by rw[A5];omega)];rfl
theorem Tg{ls:List Int}{i:Int}(h0:0≤i)(h1:i<(ls.length:Int)):∃v,Ie (ls.map V.int) i=some (.int v)∧v∈ls:=by
 obtain⟨k,rfl⟩:=Int.eq_ofNat_of_zero_le h0;have hk:k<ls.length:=by omega
 exact⟨ls[k],J5 (by rw[Ah,AB hk];rfl),List.getElem_mem _⟩
theorem I_:(0:Nat)≤As:=Br _
theorem JL{α:Type}{l:List α}{x:α}(h:l[i]?=some x):l.take (i+1)=l.take i++[x]:=by rw[BY,h];rfl
theorem Ql{p:Addr}{Q:VK}{js:HU}{cap:St}{tc:TT}{te:TE}(ns:List Int)(f:Int→Int)(c:Int→Bool)(hn:ns.length≤900)(e:SqL K H a (ns.map V.int))(hp:H p=none)(hσ:ID js σ=none::cap)
 (ht:∀n H'(R:Bool→Hp→Prop),Same H H'→R (c n) H'→tc (some (.int n)::cap) H' R) (he:∀n H'(R:VK),Same H H'→R (.int (f n)) H'→te (some (.int n)::cap) H' R)
 (hq:∀H',Same H H'→H' p=some (.lst (((ns.filter c).map f).map V.int))→Q (.ref p) H'):J1 (JZ K a) p js (JA 0) tc te σ H Q:=by
 have s0:=Hh hp (.lst []);refine Kd (xs:=ns.map V.int) (λi σ' ys H'=>(∃v,σ'=v::cap)∧Same H H'∧H' p=some (.lst ys)∧ys=((((ns.take i).filter c).map f).map V.int)) ⟨⟨_,hσ⟩,s0,Hb,rfl⟩ ?_ ?_ ?_
 · rintro i σ' ys H' hi ⟨_,s,h1,h2⟩;refine⟨s.seq e,h1,?_⟩;rw[h2];simp only[Ab];have:=CV c (ns.take i);rw[AC] at this;exact HR (by omega)
 · rintro i x σ' ys H' N hx ⟨⟨v,rfl⟩,s,h1,h2⟩ hN;rw[Ah] at hx;cases hn':ns[i]? with
   | none=>rw[hn'] at hx;cases hx
   | some n=>
    rw[hn'] at hx;have hx:V.int n=x:=A7 hx;subst hx;refine ht n H' _ s ?_;have e1:=JL hn';cases hc:c n with
    | true=>
     refine Hc (he n H' _ s ⟨h1,hN _ _ _ ⟨⟨_,rfl⟩,?_,Hb,?_⟩⟩)
     · intro b o q;have:b≠p:=λz=>by rw[z,hp] at q;cases q
       rw[Hm this];exact s b o q
     · rw[h2,e1,Eh,List.filter_cons,if_pos hc];simp
    | false=> refine Ha (hN _ _ _ ⟨⟨_,rfl⟩,s,h1,?_⟩);rw[h2,e1,Eh,List.filter_cons,if_neg (by rw[hc];exact An)];simp
 · rintro σ' ys H' ⟨_,s,h1,h2⟩;refine hq H' s ?_;rw[h1,h2,Ab,Bt]
theorem Same.seqT{H':Hp}(e:Same H H')(h:SqT K H a xs):SqT K H' a xs:=by
 rcases h with(h | ⟨o,h⟩) | h
 · exact .inl (.inl (e _ _ h))
 · exact .inl (.inr ⟨o,e _ _ h⟩)
 · exact .inr h
def LM(xs:List V):It:=⟨λi _=>i<xs.length,λi H x H'=>H'=H∧xs[i]?=some x,λi _=>xs.length≤i⟩
theorem Xm{tg:Expr}(it:Addr)(x:Str)(t:Tok):Turn P w K tg (LM (x.cps.toList.map λc=>V.str ⟨#[c]⟩)) [it] it (λi h=>h.IsStrIter it "str_ascii_iterator" x t i) where
 mem:=by simp
 obj:=λi h st b hb=>by
  have e:b=it:=by simpa using hb
  subst e;obtain⟨o,e,c,d⟩:=st;exact⟨o,e,λv z=>by rw[d] at z;cases z⟩
 keep:=λi h h' st k=>let⟨o,ho,r⟩:=st;⟨o,k it (by simp) o ho,r⟩
 item:=by
  intro X hP hw hK hc i pins s σ H E I hf st hg;subst hP hw hK;have hg:i<(x.cps.toList.map λc=>V.str ⟨#[c]⟩).length:=hg;rw[Ab,Aj] at hg;obtain⟨f0,f1,f2,f3,f4,f5⟩:=hf it (by simp);refine wpAny_pyNext_ascii_item st (c:=x.cps[i]) (by simp[hg]) λh' st' sb=>?_;have I1:Inv X pins σ H {s with heap:=h',toks:=s.toks+1}:=I.turned (λb o hb e=>(sb.2 b hb).trans e) f0 f1 f3 f4 f5
  obtain⟨o,e,c,d⟩:=id st';exact⟨_,rfl,Lc (s:={s with heap:=h',toks:=s.toks+1}) e c d (by decide) ⟨.str ⟨#[x.cps[i]]⟩,H,I1,⟨_,rfl⟩,⟨rfl,by rw[Ah,AI,AY hg];rfl⟩,st',λb hb=>(hf b hb).1⟩⟩
 done:=by intro X hP hw hK hc i pins s σ H E I hf st hg;subst hP hw hK;have hg:(x.cps.toList.map λc=>V.str ⟨#[c]⟩).length≤i:=hg;rw[Ab,Aj] at hg;obtain⟨f0,f1,f2,f3,f4,f5⟩:=hf it (by simp);exact wpAny_pyNext_ascii_end (I.ok.hd hc) st (by simpa using hg) λh' eb=>⟨rfl,I.turned (t':=s.toks) (λb o hb e=>eb b o hb e) f0 f1 f3 f4 f5⟩
 self:=λ_ _ _ _ _ st h=>wpAny_pyIter_striter_ascii st h
theorem Xy{tg:Expr}(it:Addr)(x:Str)(t:Tok):Turn P w K tg (LM (x.cps.toList.map λc=>V.str ⟨#[c]⟩)) [it] it (λi h=>h.IsStrIter it "str_iterator" x t i) where
 mem:=by simp
 obj:=λi h st b hb=>by
  have e:b=it:=by simpa using hb
  subst e;obtain⟨o,e,c,d⟩:=st;exact⟨o,e,λv z=>by rw[d] at z;cases z⟩
 keep:=λi h h' st k=>let⟨o,ho,r⟩:=st;⟨o,k it (by simp) o ho,r⟩
 item:=by
  intro X hP hw hK hc i pins s σ H E I hf st hg;subst hP hw hK;have hg:i<(x.cps.toList.map λc=>V.str ⟨#[c]⟩).length:=hg;rw[Ab,Aj] at hg;obtain⟨f0,f1,f2,f3,f4,f5⟩:=hf it (by simp);refine wpAny_pyNext_wide_item st (c:=x.cps[i]) (by simp[hg]) λh' st' sb=>?_;have I1:Inv X pins σ H {s with heap:=h',toks:=s.toks+1}:=I.turned (λb o hb e=>(sb.2 b hb).trans e) f0 f1 f3 f4 f5
  obtain⟨o,e,c,d⟩:=id st';exact⟨_,rfl,Lc (s:={s with heap:=h',toks:=s.toks+1}) e c d (by decide) ⟨.str ⟨#[x.cps[i]]⟩,H,I1,⟨_,rfl⟩,⟨rfl,by rw[Ah,AI,AY hg];rfl⟩,st',λb hb=>(hf b hb).1⟩⟩
 done:=by intro X hP hw hK hc i pins s σ H E I hf st hg;subst hP hw hK;have hg:(x.cps.toList.map λc=>V.str ⟨#[c]⟩).length≤i:=hg;rw[Ab,Aj] at hg;obtain⟨f0,f1,f2,f3,f4,f5⟩:=hf it (by simp);exact wpAny_pyNext_wide_end (I.ok.hd hc) st (by simpa using hg) λh' eb=>⟨rfl,I.turned (t':=s.toks) (λb o hb e=>eb b o hb e) f0 f1 f3 f4 f5⟩
 self:=λ_ _ _ _ _ st h=>wpAny_pyIter_striter_wide st h
section
variable{tg:Expr}
def signs(x:Str):List V:=x.cps.toList.map λc=>V.str ⟨#[c]⟩
def ON(tl:TE):TI:=λσ H R=>tl σ H λv H1=>∃x,v= .str x∧R (LM (signs x)) H1
theorem SS{l:Expr}{tl:TE}(hl:PE X l tl):PI X tg l (ON tl):=by
 intro pins s σ H R I h;refine He (hl pins s σ H _ I h) λv s1 ⟨y,H1,I1,r1,q1⟩=>?_;obtain⟨x,e,q⟩:=q1;subst e;obtain⟨t,rfl⟩:=r1;cases ha:x.cps.all (· <128)
 · refine wpAny_pyIter_wide ha ?_;refine⟨s1.heap.objs.size,[s1.heap.objs.size],_,_,H1,rfl,I1.kept (t':=s1.toks) λb o e=>Ad _ e,Xy _ x t,⟨_,Ai _ rfl,rfl,rfl⟩,λb hb=>?_,q⟩;have e:b=s1.heap.objs.size:=by simpa using hb
   subst e;exact I1.fpOk (Ae _) (I1.hok.fresh (Ae _))
 · refine wpAny_pyIter_ascii ha ?_;refine⟨s1.heap.objs.size,[s1.heap.objs.size],_,_,H1,rfl,I1.kept (t':=s1.toks) λb o e=>Ad _ e,Xm _ x t,⟨_,Ai _ rfl,rfl,rfl⟩,λb hb=>?_,q⟩;have e:b=s1.heap.objs.size:=by simpa using hb
   subst e;exact I1.fpOk (Ae _) (I1.hok.fresh (Ae _))
theorem Q_:HK X (Bq .LtE) (λx y H Q=>∃i j,x= .str i∧y= .str j∧Q (.bl (!decide (j.cps.toList<i.cps.toList))) H):=by intro pins s σ H x y v u Q I rx ry h;obtain⟨i,j,rfl,rfl,q⟩:=h;obtain⟨t,rfl⟩:=rx;obtain⟨t',rfl⟩:=ry;exact PySem.P.le_str (HM I q rfl)
theorem Kg(hc:X.calm=true):I0 X (.builtin "all") (λxs H Q=>∃(a:Addr)(bs:List Bool),xs=[.ref a]∧SqL X.K H a (bs.map V.bl)∧Q (.bl (bs.all id)) H):=by
 intro pins s σ H xs us Q I r h;obtain⟨a,bs,rfl,hq,q⟩:=h;obtain⟨u,rfl,ru⟩:=IW r;cases ru;obtain⟨its,rv,p,hzz⟩:=I.list hq;have ll:=rv.length;rw[Ab] at ll;refine call_all_walk (CO p.isList ?_);obtain⟨o,ho,_⟩:=id p.isList;have lt:=Ag ho;refine⟨s.heap.objs.size,_,_,_,_,_,λi=>bs.getD i false,rfl,Walks.list (A:=X.A.in1) (I.ok.hd hc) s.heap.objs.size a (Al lt) its.toArray,⟨⟨_,Ai _ rfl,rfl,rfl⟩,p.isList.at λo' e=>Ad _ e⟩,?_,λg t' k=>?_⟩
 · intro i v s' Q' E' hv q';have hi:its[i]?=some v:=by simpa using hv
   have hl:i<its.length:=(Am.mp hi).1;have e:(bs.map V.bl)[i]?=some (.bl (bs.getD i false)):=by rw[Ah,AB (by omega),Es,AB (by omega)];rfl
   obtain⟨u,h1,h2⟩:=Vals.get rv e;rw[hi] at h1;cases h1;cases h2;exact Be q'
 · refine⟨.bl (bs.all id),H,I.kept (λb o' e=>k b o' ?_ (Ad _ e)),?_,q⟩
   · intro z;exact absurd (Aw.mp z) (Al (Ag e))
   · show Value.bool _=Value.bool _;congr 1;rw[Ak,←ll];clear rv ll hq q p ho lt hzz
     induction bs with
     | nil=>rfl
     | cons b r ih=> rw[A5,D8,C2,List.all_map,C2,←ih];rfl
end
theorem Tv{xs:List V}{p:Addr}{g:TG}{tc:TT}{te:TE}{Q:VK}{js:HU}(Pv:Nat→St→List V→Hp→Prop)(h0:Pv 0 (ID js σ) [] (GY H p (.lst [])))
 (hl:∀i σ ys H,i≤xs.length→Pv i σ ys H→H p=some (.lst ys)∧ys.length<As)
 (hs:∀(i:Nat)x σ ys H(N:St→List V→Hp→Prop),xs[i]?=some x→Pv i σ ys H→(∀σ' ys' H',Pv (i+1) σ' ys' H'→N σ' ys' H')→Kv p g tc te ys x σ H N)
 (hd:∀σ ys H,Pv xs.length σ ys H→Q (.ref p) H):J1 (LM xs) p js g tc te σ H Q:=
 KL (n:=xs.length) (J:=LM xs) (js:=js) (σ:=σ) (H:=H) (p:=p) (Q:=Q) (g:=g) (tc:=tc) (te:=te) Pv h0 hl
  (λi σ ys H hi pv=>hi) (λσ ys H pv=>Ae _)
  (λi x σ ys H H' N hi y pv hN=>by obtain⟨e,y⟩:=y;subst e;exact hs i x σ ys _ N y pv hN) hd
section
variable{R:Result→Shared→Prop}
theorem W_{kx vx target iter:Expr}{ifs:List Expr}{scope:Scope}{pos:Pos}{it:Value}{D:Addr}{env:Env}(I:Nat→Shared→Prop)
 (turn:∀n s,I n s→wpAny (model prog w) A (pyNext it) (λr s₁=>match r with
  | none=>R (.ok .next) s₁
  | some v=>wpAny (model prog w) A (C1 target it v) (λ_ s₁'=>wpAny (model prog w) A (assign target env v) (λ_ s₂=>
   wpAny (model prog w) A (forIn ifs true λc r=>if r=true then do let ok ←isTrue c env (eval c env);pure (ForInStep.yield ok) else pure (ForInStep.yield r)) (λok s₃=>
    if ok=true then wpAny (model prog w) A (eval kx env) (λkv s₄=>wpAny (model prog w) A (eval vx env) (λvv s₅=> wpAny (model prog w) A (dictSet D kv vv) (λ_ s₆=>∃m,m<n∧I m s₆) (λ_ _=>False) s₅) (λ_ _=>False) s₄) (λ_ _=>False) s₃
    else ∃m,m<n∧I m s₃) (λ_ _=>False) s₂) (λ_ _=>False) s₁') (λ_ _=>False) s₁) (λ_ _=>False) s)
 (n:Nat) (h:I n s):
 codeAny (model prog w) A (.compLoop (.DictComp kx vx [⟨target,iter,ifs,0⟩] scope pos) 0 it (.ref D) env) R s:=by
 refine codeAny_loop rfl I (λn s hI=>?_) n h;show wpAny _ A ((compTurn (.DictComp kx vx [⟨target,iter,ifs,0⟩] scope pos) 0 it (.ref D) env).onRaise (λx=>do noteFrame x env;theTreesLotGoes x)) _ _ s
 refine wpAny_noted ?_;rw[compTurn_dict];refine Aa (Cf (Aa (A9 (turn n s hI) (λr s₁ h₁=>?_) λ_ _ z=>z.elim)));cases r with
 | none=>exact Ac h₁
 | some v=>
  refine Aa (A9 h₁ (λ_ s₁' h₁'=>?_) λ_ _ z=>z.elim);refine Aa (A9 h₁' (λ_ s₂ h₂=>Aa (A9 h₂ (λok s₃ h₃=>?_) λ_ _ z=>z.elim)) λ_ _ z=>z.elim);cases ok with
  | false=>exact Ac ⟨rfl,h₃⟩
  | true=> exact Aa (Aa (A9 h₃ (λkv s₄ h₄=>Aa (AE (A9 h₄ (λvv s₅ h₅=>Aa (Cf (AE (A9 h₅ (λ_ s₆ h₆=>Ac ⟨rfl,h₆⟩) λ_ _ z=>z.elim)))) λ_ _ z=>z.elim))) λ_ _ z=>z.elim))
end
def MH(J:It)(p:Addr)(js:HU)(g:TG)(tc:TT)(tk tv:TE)(σ:St)(H:Hp)(Q:VK):Prop:=
 ∃W:Nat→Nat→St→List (Hs×V)→Hp→Prop,(∃m,W 0 m (ID js σ) [] (GY H p (.dK [])))∧∀i m σ' kvs H,W i m σ' kvs H→H p=some (.dK kvs)∧
  ((J.stop i H∧Q (.ref p) H)∨(J.go i H∧kvs.length<As∧∀x H',J.yld i H x H'→g x σ' H' λσ2 H2=>tc σ2 H2 λb H3=>
    if b=true then tk σ2 H3 λk H4=>tv σ2 H4 λy H5=>∃ky,k=kV ky∧H5 p=some (.dK kvs)∧∃m',m'<m∧W (i+1) m' σ2 (Hw kvs ky y) (GY H5 p (.dK (Hw kvs ky y)))
    else ∃m',m'<m∧W (i+1) m' σ2 kvs H3))
def XS(wi:TI)(js:HU)(g:TG)(tc:TT)(tk tv:TE):TE:=λσ H Q=>wi σ H λJ H1=>∀p,H1 p=none→MH J p js g tc tk tv σ H1 Q
section
variable{tg iter kx vx:Expr}{ifs:List Expr}{wi:TI}{js:HU}{g:TG}{tc:TT}{tk tv:TE}{N':List Str}
theorem UH{pins:List (Addr×Obj)}{σ:St}{H:Hp}{s:Shared}{E:Value→Shared→Prop}{Q:VK}{J:It}{it:Addr}{fp:List Addr}{tn:Nat→Heap→Prop}{cl:List (Str×Addr)}
 (hc:X.calm=true) (ok:CapOk X N' js scope)
 (h2:∀x c,cl.lookup x=some c→X.env.cells.lookup x=some c) (h3:∀p∈scope.names,p.2= .free→(cl.lookup p.1).isSome=true)
 (hg:∀cl C s₀ H₀ ex,PG (HS X N' scope cl C s₀ H₀ ex) tg g) (ht:∀cl C s₀ H₀ ex,H_ (HS X N' scope cl C s₀ H₀ ex) ifs tc) (he:∀cl C s₀ H₀ ex,PE (HS X N' scope cl C s₀ H₀ ex) kx tk) (hv:∀cl C s₀ H₀ ex,PE (HS X N' scope cl C s₀ H₀ ex) vx tv)
 (I:Inv X pins σ H s) (T:Turn X.prog X.w X.K tg J fp it tn) (st:tn 0 s.heap) (hf:∀b∈fp,Ht X pins H b)
 (hw:∀p,H p=none→MH J p js g tc tk tv σ H Q):
 wpAny (model X.prog X.w) X.A newDict (λacc s₃=>wpAny (model X.prog X.w) X.A (newFunctionEnv scope X.env.globals cl [] X.env.qual none .none (some X.env)) (λcenv s₄=>
  codeAny (model X.prog X.w) X.A (.compStart (.DictComp kx vx [⟨tg,iter,ifs,0⟩] scope pos) 0 (.ref it) acc {cenv with scope:=relabel scope X.env})
   (λr s'=>r= .ok .next∧(∃m,s'.heap.Ns cenv.locals m)∧∃v H',RelV v acc∧Inv X pins σ H' s'∧Ht X pins H' cenv.locals∧Q v H') s₄) E s₃) E s:=by
 have objs:=T.obj _ _ st;refine Bf ?_;obtain⟨W,⟨m0,w0⟩,turn⟩:=hw s.heap.objs.size (I.hok.fresh (Ae _));generalize hp:s.heap.objs.size=p at*;have kp:∀b u,s.heap.get? b=some u→(s.heap.push {cls:= .type "dict",data:= .dict #[]}).get? b=some u:=λb u e=>Ad _ e;have I3:Inv X pins σ (GY H p (.dK [])) {s with heap:=s.heap.push {cls:= .type "dict",data:= .dict #[]}}:=by subst hp;exact I.laid (t':=s.toks) kp (Ae _) (QV s.heap I.big)
 have fne:∀b∈fp,b≠p:=λb hb=>by obtain⟨o,e,_⟩:=objs b hb;have:=Ag e;rw[←hp];exact Al this
 have hf3:∀b∈fp,Ht X pins (GY H p (.dK [])) b:=λb hb=>⟨by rw[Hm (fne b hb)];exact(hf b hb).1,(hf b hb).2⟩;have st3:tn 0 (s.heap.push {cls:= .type "dict",data:= .dict #[]}):=T.keep _ _ _ st λb _ o e=>kp b o e;have lt3:∀b∈fp,b<(s.heap.push {cls:= .type "dict",data:= .dict #[]}).objs.size:=λb hb=>by obtain⟨o,e,_⟩:=objs b hb;exact Ag (kp b o e)
 generalize hs3:({s with heap:=s.heap.push {cls:= .type "dict",data:= .dict #[]}}:Shared)=s3 at*
 have eh:s.heap.push {cls:= .type "dict",data:= .dict #[]}=s3.heap:=by rw[←hs3]
 rw[eh] at st3 lt3;refine Ob ok.cells λcl h₁ hns₁ k4 oc=>?_;have I4:=N6 (cl:=cl) (h₁:=h₁) (t':=s3.toks+([]:List (Str×Value)).length) ok I3 h2 h3 hf3 lt3 k4 hns₁ oc;have st4:tn 0 h₁:=T.keep _ _ _ st3 λb _ o e=>k4 b o e;generalize hX:HS X N' scope cl s3.heap.objs.size s3 (GY H p (.dK [])) fp=X' at I4;have hg':PG X' tg g:=by rw[←hX];exact hg _ _ _ _ _
 have ht':H_ X' ifs tc:=by rw[←hX];exact ht _ _ _ _ _
 have he':PE X' kx tk:=by rw[←hX];exact he _ _ _ _ _
 have hv':PE X' vx tv:=by rw[←hX];exact hv _ _ _ _ _
 have eP:X'.prog=X.prog:=by rw[←hX];rfl
 have ew:X'.w=X.w:=by rw[←hX];rfl
 have eK:X'.K=X.K:=by rw[←hX];rfl
 have ec:X'.calm=true:=by rw[←hX];exact hc
 have eA:X'.A=X.A:=by rw[←hX];rfl
 have ex:X'.xe=λ_ _=>False:=by rw[←hX];rfl
 have eE:X'.env=compEnvC scope cl s3.heap.objs.size X.env:=by rw[←hX];rfl
 have eEx:X'.ex=fp:=by rw[←hX];rfl
 have eN:X'.pn=[]:=by rw[←hX];rfl
 have stat:∀{H':Hp},(∀b∈fp,H' b=none)→∀b∈fp,Ht X' [] H' b:=λ{H'}hn b hb=>by have okc:=I4.ok;refine⟨hn b hb,(okc.exf b (by rw[eEx];exact hb)).1,okc.exfs b (by rw[eEx];exact hb),.inl (by rw[eEx];exact hb),(okc.exf b (by rw[eEx];exact hb)).2,λq hq=>?_⟩;rw[eN] at hq;cases hq
 have loop:∀s₄:Shared,s₄={s3 with heap:=h₁,toks:=s3.toks+([]:List (Str×Value)).length}→
  codeAny (model X.prog X.w) X.A (.compLoop (.DictComp kx vx [⟨tg,iter,ifs,0⟩] scope pos) 0 (.ref it) (.ref p) (compEnvC scope cl s3.heap.objs.size X.env))
   (λr s'=>r= .ok .next∧(∃m,s'.heap.Ns s3.heap.objs.size m)∧∃v H',RelV v (.ref p)∧Inv X pins σ H' s'∧Ht X pins H' s3.heap.objs.size∧Q v H') s₄:=by
  rintro s₄ rfl;refine W_ (λn s'=>∃i σ' ys H',Inv X' [] σ' H' s'∧tn i s'.heap∧(∀b∈fp,H' b=none)∧W i n σ' ys H') ?_ m0 ⟨0,_,[],_,I4,st4,λb hb=>(hf3 b hb).1,w0⟩;rintro n s5 ⟨i,σ5,ys,H5,I5,st5,fr5,w5⟩;obtain⟨hp5,tu⟩:=turn i n σ5 ys H5 w5;rcases tu with⟨stop,qn⟩ | ⟨go,hz,step⟩
  · have D:=T.done X' eP ew eK ec i [] s5 σ5 H5 (λ_ _=>False) I5 (stat fr5) st5 stop;rw[eA] at D;refine He D λr s6 ⟨hr,I6⟩=>?_;subst hr;refine⟨rfl,?_,.ref p,H5,rfl,?_,?_,qn⟩
    · obtain⟨m,hm,_⟩:=I6.loc;rw[eE] at hm;exact⟨m,hm⟩
    · have b6:=I6.base;have ho:=I6.os;have hk:=I6.hok;have hb:=I6.bare;subst hX;exact I3.call' (ch:=fp) ho b6 hk hb λb hb'=>⟨(hf b hb').2.2.2.1,(hf b hb').2.1,(hf b hb').2.2.2.2.1,(hf b hb').2.2.2.2.2⟩
    · have fr:=I6.free;rw[eE] at fr;exact I3.fpOk (Ae _) fr
  · have D:=T.item X' eP ew eK ec i [] s5 σ5 H5 (λ_ _=>False) I5 (stat fr5) st5 go;rw[eA] at D;refine He D λr s6 ⟨u,hr,h6⟩=>?_;subst hr;refine He h6 λ_ s7 ⟨x,H7,I7,r7,y7,st7,fr7⟩=>?_;have I7':=I7.pinned (stat fr7) (T.obj _ _ st7);have G:=hg' _ s7 σ5 H7 x u _ I7' r7 (step x H7 y7);rw[eP,ew,eA,ex,eE] at G;refine He G λ_ s8 ⟨σ8,H8,I8,q8⟩=>?_;have Tt:=ht' _ s8 σ8 H8 _ I8 q8;rw[eP,ew,eA,ex,eE] at Tt;refine He Tt λb s9 ⟨H9,I9,q9⟩=>?_;have again:∀{s':Shared}{ys':List (Hs×V)}{H':Hp},Inv X' ([]++Kx fp s7.heap) σ8 H' s'→(∃m',m'<n∧W (i+1) m' σ8 ys' H')→
     ∃m,m<n∧∃i σ' ys H',Inv X' [] σ' H' s'∧tn i s'.heap∧(∀b∈fp,H' b=none)∧W i m σ' ys H':=λ{s' ys' H'}I' ⟨m',hm,w'⟩=>by
     refine⟨m',hm,i+1,σ8,ys',H',I'.unpinned,T.keep _ _ _ st7 λb hb o e=>(I'.pin (b,o) (A6 _ (A6 _ (Ki hb e)))).1,λb hb=>?_,w'⟩;obtain⟨o,e,d⟩:=T.obj _ _ st7 b hb;exact(I'.pin (b,o) (A6 _ (A6 _ (Ki hb e)))).2.1
    cases b with
    | false=>exact again I9 q9
    | true=>
     have Ee:=he' _ s9 σ8 H9 _ I9 q9;rw[eP,ew,eA,ex,eE] at Ee;show wpAny _ _ _ _ _ _;refine He Ee λkv s10 ⟨kk,H10,I10,r10,q10⟩=>?_;have Ev:=hv' _ s10 σ8 H10 _ I10 q10;rw[eP,ew,eA,ex,eE] at Ev;refine He Ev λvv s11 ⟨y,H11,I11,r11,ky,ek,hp11,q11⟩=>?_;subst ek;obtain⟨z0,hd0,vs0,rel0,dd0⟩:=Jy I11.hok hp11;have hz0:vs0.length≤As:=by rw[←rel0.length];exact z0
     have hl0:(Hw ys ky y).length≤As:=by have:=NT ys ky y;omega
     rw[eP,ew] at dd0;refine wpAny_dictSet_pairs (hsz:=hz0) (Le r10) dd0 λh' dd' hs'=>?_;have he0:∃q,h'.get? p=some q:=let⟨q,_,_,hq,_⟩:=dd';⟨q,hq⟩;have I12:=Qo (t':=s11.toks+1) I11 (by rw[hp11];exact True.intro) hs' he0 (Pq hl0 hd0 (rel0.put ky r11) (by rw[eP,ew];exact dd'));exact again I12 q11
 exact codeAny_compStart_dict (loop _ rfl) (T.self _ 0 _ _ _ st4 (loop _ rfl))
end
theorem MZ{ti tp:Addr}{k:Nat}{vs:Array Value}{v:Value}{Q:Value→Shared→Prop}(hi:s.heap.IsTupleIter ti tp k)(ht:s.heap.IsTuple tp vs)(hv:vs[k]?=some v)
 (fin:∀g,g.IsTupleIter ti tp (k+1)→BS ti s.heap g→Q v {s with heap:=g}):wpAny (model prog w) A (Bp (.ref ti)) Q E s:=by
 obtain⟨oi,e1,c1,d1⟩:=id hi;obtain⟨ot,e2,_,nt,d2⟩:=ht;unfold Bp;refine Aa (Bo (name:=Cw "__next__") hi.typeIs Cg (AR Cg hi.typeIs D9 ?_ (D1 _)));show wpAny _ _ (field (.ref ti) 0>>=_) _ _ s;refine Aa (Bs e1 d1 (x:= .ref tp) rfl ?_);show wpAny _ _ (if(Value.ref tp==Value.none)=true then _ else _) _ _ s
 rw[if_neg (show ¬((Value.ref tp==Value.none)=true) from An)];show wpAny _ _ (field (.ref ti) 1>>=_) _ _ s;refine Aa (Bs e1 d1 (x:= .int k 0) rfl ?_);show wpAny _ _ (seqItems? (.ref tp)>>=_) _ _ s;refine Aa (AT e2 d2 ?_);simp only[Ba,hv];refine Aa (BM e1 d1 (by simp) (Ac ⟨v,rfl,Ac (fin _ ?_ (AN ..))⟩));exact⟨_,Ci _ e1 (Obj.isFreed_of_fields (Obj.data_mapFields d1 _)),(Obj.cls_mapFields ..).trans c1,by rw[Obj.data_mapFields d1];simp[rawInt]⟩
theorem Py{ti tp:Addr}{k:Nat}{vs:Array Value}{Q:Value→Shared→Prop}(hh:A.handled=none)(hi:s.heap.IsTupleIter ti tp k)(ht:s.heap.IsTuple tp vs)(hv:vs[k]?=none)
 (fin:∀g e,Heap.ExtBut ti s.heap g→(∃o,g.get? e=some o∧o.cls= .type "StopIteration")→E (.ref e) {s with heap:=g}):wpAny (model prog w) A (Bp (.ref ti)) Q E s:=by
 obtain⟨oi,e1,c1,d1⟩:=id hi;obtain⟨ot,e2,_,nt,d2⟩:=ht;unfold Bp;refine Aa (Bo (name:=Cw "__next__") hi.typeIs Cg (AR Cg hi.typeIs D9 ?_ (D1 _)));show wpAny _ _ (field (.ref ti) 0>>=_) _ _ s;refine Aa (Bs e1 d1 (x:= .ref tp) rfl ?_);show wpAny _ _ (if(Value.ref tp==Value.none)=true then _ else _) _ _ s
 rw[if_neg (show ¬((Value.ref tp==Value.none)=true) from An)];show wpAny _ _ (field (.ref ti) 1>>=_) _ _ s;refine Aa (Bs e1 d1 (x:= .int k 0) rfl ?_);show wpAny _ _ (seqItems? (.ref tp)>>=_) _ _ s;refine Aa (AT e2 d2 ?_);simp only[Ba,hv];refine Aa (BX (Aa (BM e1 d1 (by simp) ?_)));show wpAny _ _ (newExc (.type "StopIteration") []>>=_) _ _ _;refine Aa ?_;simp only[newExc,newTuple];refine Aa (Bf ?_ (by size_fits));refine Aa (m:=firstArgMember _ _) (Ec (a:=Value.none) (by first | rfl | (simp only[firstArgMember];rfl)) ?_)
 refine Bf ?_ (by size_fits);simp only[raiseNew];refine Aa (wpAny_handled ?_)
 first | rw[show A.in1.handled=none from hh] | rw[hh]
 refine Aa (Ac (wpAny_throw ?_));exact fin _ _ (((AN ..).extBut.push _).push _) ⟨_,Ai _ rfl,rfl⟩
structure ZA(z a b i j:Addr):Prop where
 az:a≠z
 bz:b≠z
 iz:i≠z
 jz:j≠z
 ab:a≠b
 ai:a≠i
 aj:a≠j
 bi:b≠i
 bj:b≠j
 ij:i≠j
theorem JF{h':Heap}{t c:Addr}{vs:Array Value}(x:h.IsTuple t vs)(hs:BS c h h')(n:t≠c):h'.IsTuple t vs:=x.extBut hs.extBut n
theorem TU{z i j t1 t2:Addr}{k1 k2:Nat}{xs ys:Array Value}{x y p q:Value}{Q:Value→Shared→Prop}(D:ZA z a b i j)(n1:t1≠z∧t1≠b∧t1≠i∧t1≠j)(n2:t2≠z∧t2≠b∧t2≠i∧t2≠j)
 (hz:IsZip s.heap z a b .none) (ha:IsPair s.heap a (.ref i) (.ref j)) (hb:IsPair s.heap b p q) (h1:s.heap.IsTupleIter i t1 k1) (h2:s.heap.IsTupleIter j t2 k2) (g1:s.heap.IsTuple t1 xs) (g2:s.heap.IsTuple t2 ys) (hx:xs[k1]?=some x) (hy:ys[k2]?=some y)
 (fin:∀g,IsZip g z a b (rawInt s.heap.objs.size)→IsPair g b x y→g.IsTupleIter i t1 (k1+1)→g.IsTupleIter j t2 (k2+1)→IsPair g s.heap.objs.size x y→
  (∀c o,c≠z→c≠b→c≠i→c≠j→s.heap.get? c=some o→g.get? c=some o)→Q (.ref s.heap.objs.size) {s with heap:=g}):
 wpAny (model prog w) A (Builtin.«zip.__next__» ⟨[.ref z],[]⟩) (λr s'=>∃v,r= .done (.ret v)∧Q v s') E s:=by
 show wpAny _ _ (field (.ref z) 2>>=_) _ _ _;refine Aa (Bs hz rfl (x:= .bool false) rfl ?_);show wpAny _ _ (field (.ref z) 3>>=_) _ _ _;refine Aa (Bs hz rfl (x:= .ref a) rfl ?_);refine Aa (AT ha rfl ?_);show wpAny _ _ (BZ (.ref z)>>=_) _ _ _;refine Aa ?_;unfold BZ;refine Aa (Bs hz rfl (x:= .none) rfl (Ac ?_));simp only[if_true];refine Aa (BX ?_);refine Aa (Bs hz rfl (x:= .ref b) rfl ?_);refine Aa (Cy hz (by simp) λw1 z1 m1=>?_)
 replace z1:IsZip w1 z a b .ellipsis:=z1
 refine Aa ?_;simp only[List.zipIdx_cons,List.zipIdx_nil,Fa,Fs];refine Aa (Aa (Et ?_));show wpAny _ _ (Bp (.ref i)>>=_) _ _ _;refine Aa (MZ (h1.extBut m1.extBut D.iz) (JF g1 m1 n1.1) hx λw2 i2 m2=>Ac ?_);have b2:IsPair w2 b p q:=m2.extBut _ _ D.bi (m1.extBut _ _ D.bz hb);refine Aa (AT b2 rfl ?_);refine Aa (DM b2 λw3 b3 m3=>?_)
 replace b3:IsPair w3 b x q:=b3
 refine Aa (Ff (Ac ?_));refine Aa (Aa (Et ?_));show wpAny _ _ (Bp (.ref j)>>=_) _ _ _;refine Aa (MZ (((h2.extBut m1.extBut D.jz).extBut m2.extBut D.ij.symm).extBut m3.extBut D.bj.symm) (JF (JF (JF g2 m1 n2.1) m2 n2.2.2.1) m3 n2.2.1) hy λw4 j4 m4=>Ac ?_);have b4:IsPair w4 b x q:=m4.extBut _ _ D.bj b3;refine Aa (AT b4 rfl ?_);refine Aa (DM b4 λw5 b5 m5=>?_)
 replace b5:IsPair w5 b x y:=b5
 refine Aa (Ff (Ac (Ac ?_)));refine Aa (AT b5 rfl ?_);refine Aa (wpAny_newTuple ?_);have sz:w5.objs.size=s.heap.objs.size:=by rw[m5.1,m4.1,m3.1,m2.1,m1.1]
 have z5:IsZip w5 z a b .ellipsis:=m5.extBut _ _ D.bz.symm (m4.extBut _ _ D.jz.symm (m3.extBut _ _ D.bz.symm (m2.extBut _ _ D.iz.symm z1)));have k5:∀c o,c≠z→c≠b→c≠i→c≠j→s.heap.get? c=some o→w5.get? c=some o:=λc o c1 c2 c3 c4 e=> m5.extBut _ _ c2 (m4.extBut _ _ c4 (m3.extBut _ _ c2 (m2.extBut _ _ c3 (m1.extBut _ _ c1 e))));have i5:w5.IsTupleIter i t1 (k1+1):=((i2.extBut m3.extBut D.bi.symm).extBut m4.extBut D.ij).extBut m5.extBut D.bi.symm;have j5:w5.IsTupleIter j t2 (k2+1):=j4.extBut m5.extBut D.bj.symm;have zlt:z<w5.objs.size:=Ag z5;show wpAny _ _ (Ds (.ref z) (.ref w5.objs.size)>>=_) _ _ _;refine Aa ?_;unfold Ds;have z6:IsZip (w5.push {cls:= .type "tuple",data:= .seq #[x,y]}) z a b .ellipsis:=Ad _ z5;refine Aa (Cy z6 (by simp) λw7 z7 m7=>?_)
 replace z7:IsZip w7 z a b (rawInt w5.objs.size):=z7
 refine Cy z7 (by simp) λw8 z8 m8=>?_
 replace z8:IsZip w8 z a b (rawInt w5.objs.size):=z8
 have up:∀c o,c≠z→w5.get? c=some o→w8.get? c=some o:=λc o c1 e=>m8.extBut _ _ c1 (m7.extBut _ _ c1 (Ad _ e));have t8:IsPair w8 w5.objs.size x y:=m8.extBut _ _ (Cc zlt) (m7.extBut _ _ (Cc zlt) (Ai _ rfl));rw[sz] at z8 t8;refine Ac ⟨_,rfl,?_⟩;show Q (.ref w5.objs.size) _;rw[sz];obtain⟨oi,ei,ri⟩:=i5;obtain⟨oj,ej,rj⟩:=j5;exact fin w8 z8 (up _ _ D.bz b5) ⟨oi,up _ oi D.iz ei,ri⟩ ⟨oj,up _ oj D.jz ej,rj⟩ t8 λc o c1 c2 c3 c4 e=>up c o c1 (k5 c o c1 c2 c3 c4 e)
theorem Uu{z i j t1 t2:Addr}{k1 k2:Nat}{xs ys:Array Value}{p q:Value}{Q:Fin→Shared→Prop}(hh:A.handled=none)(D:ZA z a b i j)(n1:t1≠z∧t1≠b∧t1≠i∧t1≠j)(n2:t2≠z∧t2≠b∧t2≠i∧t2≠j)
 (hz:IsZip s.heap z a b .none) (ha:IsPair s.heap a (.ref i) (.ref j)) (hb:IsPair s.heap b p q) (h1:s.heap.IsTupleIter i t1 k1) (h2:s.heap.IsTupleIter j t2 k2) (g1:s.heap.IsTuple t1 xs) (g2:s.heap.IsTuple t2 ys) (hend:xs[k1]?=none∨ys[k2]?=none)
 (fin:∀g e,(∀c o,c≠z→c≠b→c≠i→c≠j→s.heap.get? c=some o→g.get? c=some o)→(∃o,g.get? e=some o∧o.cls= .type "StopIteration")→E (.ref e) {s with heap:=g}):
 wpAny (model prog w) A (Builtin.«zip.__next__» ⟨[.ref z],[]⟩) Q E s:=by
 show wpAny _ _ (field (.ref z) 2>>=_) _ _ _;refine Aa (Bs hz rfl (x:= .bool false) rfl ?_);show wpAny _ _ (field (.ref z) 3>>=_) _ _ _;refine Aa (Bs hz rfl (x:= .ref a) rfl ?_);refine Aa (AT ha rfl ?_);show wpAny _ _ (BZ (.ref z)>>=_) _ _ _;refine Aa ?_;unfold BZ;refine Aa (Bs hz rfl (x:= .none) rfl (Ac ?_));simp only[if_true];refine Aa (BX ?_);refine Aa (Bs hz rfl (x:= .ref b) rfl ?_);refine Aa (Cy hz (by simp) λw1 z1 m1=>?_)
 replace z1:IsZip w1 z a b .ellipsis:=z1
 refine Aa ?_;simp only[List.zipIdx_cons,List.zipIdx_nil,Fa,Fs];refine Aa (Aa (Et ?_));show wpAny _ _ (Bp (.ref i)>>=_) _ _ _;cases hx:xs[k1]? with
 | none=>
  refine Aa (Py hh (h1.extBut m1.extBut D.iz) (JF g1 m1 n1.1) hx λw2 e m2 he=>?_);obtain⟨oe,e1,e2⟩:=he;have z2:IsZip w2 z a b .ellipsis:=m2 _ _ D.iz.symm z1;have ez:e≠z:=λu=>by subst u;rw[z2] at e1;cases e1;simp at e2
  exact Cy z2 (by simp) λw3 _ m3=>fin w3 e (λc o c1 _ c3 _ u=>m3.extBut _ _ c1 (m2 _ _ c3 (m1.extBut _ _ c1 u))) ⟨oe,m3.extBut _ _ ez e1,e2⟩
 | some x=>
  have hy:ys[k2]?=none:=by
   rcases hend with u | u
   · rw[hx] at u;cases u
   · exact u
  refine Aa (MZ (h1.extBut m1.extBut D.iz) (JF g1 m1 n1.1) hx λw2 i2 m2=>Ac ?_);have b2:IsPair w2 b p q:=m2.extBut _ _ D.bi (m1.extBut _ _ D.bz hb);refine Aa (AT b2 rfl ?_);refine Aa (DM b2 λw3 b3 m3=>?_);refine Aa (Ff (Ac ?_));refine Aa (Aa (Et ?_));show wpAny _ _ (Bp (.ref j)>>=_) _ _ _;refine Aa (Py hh (((h2.extBut m1.extBut D.jz).extBut m2.extBut D.ij.symm).extBut m3.extBut D.bj.symm) (JF (JF (JF g2 m1 n2.1) m2 n2.2.2.1) m3 n2.2.1) hy λw4 e m4 he=>?_);obtain⟨oe,e1,e2⟩:=he;have z4:IsZip w4 z a b .ellipsis:=m4 _ _ D.jz.symm (m3.extBut _ _ D.bz.symm (m2.extBut _ _ D.iz.symm z1));have ez:e≠z:=λu=>by subst u;rw[z4] at e1;cases e1;simp at e2
  exact Cy z4 (by simp) λw5 _ m5=>fin w5 e (λc o c1 c2 c3 c4 u=>m5.extBut _ _ c1 (m4 _ _ c4 (m3.extBut _ _ c2 (m2.extBut _ _ c3 (m1.extBut _ _ c1 u))))) ⟨oe,m5.extBut _ _ ez e1,e2⟩
section
variable{h':Heap}
theorem Inv.newTup{T:Addr}{x y:V}{t':Nat}(I:Inv X pins σ H s)(ch:List Addr)(hch:∀c∈ch,Ht X pins H c)(keep:∀c o,c ∉ ch→s.heap.get? c=some o→h'.get? c=some o)(hT:s.heap.objs.size≤T)
 (tup:∃its:List Value,Vals [x,y] its∧IsTupP h' T its.toArray):Inv X pins σ (GY H T (.tup [x,y])) {s with heap:=h',toks:=t'}:=by
 have hn:H T=none:=I.hok.fresh hT;have neT:∀c o,s.heap.get? c=some o→c≠T:=λc o e=>Al (Ay (Ag e) hT);have off:∀c u,H c=some u→c ∉ ch:=λc u e z=>by rw[(hch c z).1] at e;cases e
 refine I.step (g':=s.gens) (d':=s.drawn) (ch:=ch) (λc hc=>⟨(hch c hc).2.2.2.1,(hch c hc).2.1,(hch c hc).2.2.2.2.1,(hch c hc).2.2.2.2.2⟩) (λc o _ _ hc e _=>keep c o hc e) (λc o _ _ hc e _=>⟨o.slots,keep c o hc e⟩)
  (λc o _ e n=>by rw[Hm (neT c o e)];exact n) (λc o hc e=>⟨o,keep c o hc e⟩) (λc xs e=>by rw[Hm (IA e hn)];exact e) (λc o u e=>by rw[Hm (IA e hn)];exact e)
  (λc ps e=>⟨#[],by rw[Hm (IA e hn),e];simp⟩) (λm hm=>?_) (λc u e=>?_) I.bare
 · obtain⟨o,es,ep,ho,r⟩:=hm;exact⟨o,es,ep,keep _ o (λz=>(hch _ z).2.1 rfl) ho,r⟩
 · by_cases hc:c=T
   · subst hc;rw[Hb] at e;cases e;obtain⟨its,r,p⟩:=tup;exact⟨by show 2≤As;decide,its,r,p⟩
   · rw[Hm hc] at e;refine(I.hok c u e).stay (λd v hd q=>keep d v ?_ q) (λd q=>by rw[Hm (IA q hn)];exact q) λd xs q=>by rw[Hm (IA q hn)];exact q
     rcases hd with z | z
     · rw[z];exact off c u e
     · exact off d _ z
theorem Inv.turnedN{t':Nat}(I:Inv X pins σ H s)(ch:List Addr)(hch:∀c∈ch,Ht X pins H c)(keep:∀c o,c ∉ ch→s.heap.get? c=some o→h'.get? c=some o):Inv X pins σ H {s with heap:=h',toks:=t'}:=by
 have off:∀c u,H c=some u→c ∉ ch:=λc u e z=>by rw[(hch c z).1] at e;cases e
 refine I.step (g':=s.gens) (d':=s.drawn) (ch:=ch) (λc hc=>⟨(hch c hc).2.2.2.1,(hch c hc).2.1,(hch c hc).2.2.2.2.1,(hch c hc).2.2.2.2.2⟩) (λc o _ _ hc e _=>keep c o hc e) (λc o _ _ hc e _=>⟨o.slots,keep c o hc e⟩)
  (λc o _ e n=>n) (λc o hc e=>⟨o,keep c o hc e⟩) (λc xs e=>e) (λc o u e=>e) (λc ps e=>⟨#[],by rw[e];simp⟩) (λm hm=>?_) (λc u e=>?_) I.bare
 · obtain⟨o,es,ep,ho,r⟩:=hm;exact⟨o,es,ep,keep _ o (λz=>(hch _ z).2.1 rfl) ho,r⟩
 · refine(I.hok c u e).stay (λd v hd q=>keep d v ?_ q) (λ_ q=>q) λ_ _ q=>q;rcases hd with z | z
   · rw[z];exact off c u e
   · exact off d _ z
theorem IN{t c:Addr}(I:Inv X pins σ H s)(h:SqT X.K H t xs)(f:Ht X pins H c):t≠c:=by
 intro e;subst e;rcases h with(h | ⟨o,h⟩) | ⟨o,its,n,hk,_⟩
 · rw[f.1] at h;cases h
 · rw[f.1] at h;cases h
 · have eb:=I.ok.mod.kin t o hk;rcases f.2.2.2.1 with z | z
   · exact I.ok.noex t o eb z
   · exact absurd (Ay (Ag eb) (AF I.ok.bsz z)) (Cp _)
end
def MB(K:Af)(t1 t2:Addr):It:=
 ⟨λk H=>∃(xs ys:List V)(x y:V),SqT K H t1 xs∧SqT K H t2 ys∧xs[k]?=some x∧ys[k]?=some y,
  λk H v H'=>∃p,v= .ref p∧H p=none∧∀(xs ys:List V)(x y:V),SqT K H t1 xs→SqT K H t2 ys→xs[k]?=some x→ys[k]?=some y→H'=GY H p (.tup [x,y]),
  λk H=>∃(xs ys:List V),SqT K H t1 xs∧SqT K H t2 ys∧(xs.length≤k∨ys.length≤k)⟩
theorem UB{P:Bb}{w:World}{K:Af}{es:List Expr}{kk:Nat}{pos:Pos}(t1 t2 z a b i j:Addr)(D:ZA z a b i j):
 Turn P w K (.Tuple es kk pos) (MB K t1 t2) [z,a,b,i,j] z (λk h=>IsZip h z a b .none∧IsPair h a (.ref i) (.ref j)∧(∃p q,IsPair h b p q)∧h.IsTupleIter i t1 k∧h.IsTupleIter j t2 k) where
 mem:=by simp
 obj:=λk h st c hc=>by
  obtain⟨hz,ha,⟨p,q,hb⟩,⟨oi,ei,_,di⟩,⟨oj,ej,_,dj⟩⟩:=st;simp only[Ax,AD,or_false] at hc;rcases hc with rfl | rfl | rfl | rfl | rfl
  · exact⟨_,hz,λv e=>by cases e⟩
  · exact⟨_,ha,λv e=>by cases e⟩
  · exact⟨_,hb,λv e=>by cases e⟩
  · exact⟨oi,ei,λv e=>by rw[di] at e;cases e⟩
  · exact⟨oj,ej,λv e=>by rw[dj] at e;cases e⟩
 keep:=λk h h' st kp=>by obtain⟨hz,ha,⟨p,q,hb⟩,⟨oi,ei,ri⟩,⟨oj,ej,rj⟩⟩:=st;exact⟨kp z (by simp) _ hz,kp a (by simp) _ ha,⟨p,q,kp b (by simp) _ hb⟩,⟨oi,kp i (by simp) _ ei,ri⟩,⟨oj,kp j (by simp) _ ej,rj⟩⟩
 item:=by
  intro X hP hw hK hc k pins s σ H E I hf st hg;subst hP hw hK;obtain⟨xs,ys,x,y,q1,q2,hx,hy⟩:=hg;obtain⟨hz,ha,⟨p,q,hb⟩,h1,h2⟩:=st;obtain⟨its1,r1,g1,_⟩:=I.tuple q1;obtain⟨its2,r2,g2,_⟩:=I.tuple q2;obtain⟨u1,hu1,v1⟩:=r1.get hx;obtain⟨u2,hu2,v2⟩:=r2.get hy;have fz:=hf z (by simp);have fb:=hf b (by simp);have fi:=hf i (by simp);have fj:=hf j (by simp);have hT:s.TypeIs (.ref z) "zip":=⟨_,hz,rfl⟩;unfold pyNext;refine Aa (Eu (Bo (name:=Cw "__next__") hT CW (AR CW hT Fg
   (TU D ⟨IN I q1 fz,IN I q1 fb,IN I q1 fi,IN I q1 fj⟩ ⟨IN I q2 fz,IN I q2 fb,IN I q2 fi,IN I q2 fj⟩ hz ha hb h1 h2 g1 g2 (by simpa using hu1) (by simpa using hu2) λg a1 a2 a3 a4 a5 a6=>Ac ?_) (ES _))))
  refine⟨_,rfl,wpAny_letOwnedTupleGo_zip a1 λg' z' m'=>?_⟩;have zT:z≠s.heap.objs.size:=Al (Ag hz);have up:∀c o,c≠z→g.get? c=some o→g'.get? c=some o:=λc o hc e=>m'.extBut c o hc e;have fr:H s.heap.objs.size=none:=I.hok.fresh (Ae _);have I1:Inv X pins σ (GY H s.heap.objs.size (.tup [x,y])) {s with heap:=g'}:=by
   refine I.newTup (t':=s.toks) [z,b,i,j] (λc hc=>?_) (λc o hc e=>?_) (Ae _) ⟨[u1,u2],.cons v1 (.cons v2 .nil),_,up _ _ zT.symm a5,rfl,rfl,_,rfl⟩
   · simp only[Ax,AD,or_false] at hc;rcases hc with rfl | rfl | rfl | rfl
     · exact fz
     · exact fb
     · exact fi
     · exact fj
   · simp only[Ax,AD,or_false,not_or] at hc;exact up c o hc.1 (a6 c o hc.1 hc.2.1 hc.2.2.1 hc.2.2.2 e)
  obtain⟨oi,ei,ri⟩:=a3;obtain⟨oj,ej,rj⟩:=a4;refine⟨.ref s.heap.objs.size,_,I1,rfl,⟨_,rfl,fr,λxs' ys' x' y' s1 s2 e1 e2=>?_⟩,⟨z',up _ _ D.az (a6 a _ D.az D.ab D.ai D.aj ha),⟨_,_,up _ _ D.bz a2⟩,⟨oi,up _ _ D.iz ei,ri⟩,⟨oj,up _ _ D.jz ej,rj⟩⟩,λc hc=>?_⟩
  · rw[I.tuple_inj s1 q1,hx] at e1;rw[I.tuple_inj s2 q2,hy] at e2;cases e1;cases e2;rfl
  · have fc:=hf c hc;have:c≠s.heap.objs.size:=by
     simp only[Ax,AD,or_false] at hc;obtain⟨oi',ei',_⟩:=h1;obtain⟨oj',ej',_⟩:=h2;rcases hc with rfl | rfl | rfl | rfl | rfl
     · exact zT
     · exact Al (Ag ha)
     · exact Al (Ag hb)
     · exact Al (Ag ei')
     · exact Al (Ag ej')
    rw[Hm this];exact fc.1
 done:=by
  intro X hP hw hK hc k pins s σ H E I hf st hg;subst hP hw hK;obtain⟨xs,ys,q1,q2,hend⟩:=hg;obtain⟨hz,ha,⟨p,q,hb⟩,h1,h2⟩:=st;obtain⟨its1,r1,g1,_⟩:=I.tuple q1;obtain⟨its2,r2,g2,_⟩:=I.tuple q2;have l1:=r1.length;have l2:=r2.length;have fz:=hf z (by simp);have fb:=hf b (by simp);have fi:=hf i (by simp);have fj:=hf j (by simp);have hT:s.TypeIs (.ref z) "zip":=⟨_,hz,rfl⟩;unfold pyNext;refine Aa (Eu (Bo (name:=Cw "__next__") hT CW (AR CW hT Fg
   (Uu (I.ok.hd hc) D ⟨IN I q1 fz,IN I q1 fb,IN I q1 fi,IN I q1 fj⟩ ⟨IN I q2 fz,IN I q2 fb,IN I q2 fi,IN I q2 fj⟩ hz ha hb h1 h2 g1 g2 ?_ λg e kp he=>?_) (ES _))))
  · rcases hend with u | u
    · exact .inl (by simp;omega)
    · exact .inr (by simp;omega)
  · obtain⟨o,ho,hcl⟩:=he;refine Aa (Cu (T:="StopIteration") (b:=true) ⟨o,ho,hcl⟩ isSubtype_stop ?_);refine Ac ⟨rfl,I.turnedN (t':=s.toks) [z,b,i,j] (λc hc=>?_) (λc o hc e=>?_)⟩
    · simp only[Ax,AD,or_false] at hc;rcases hc with rfl | rfl | rfl | rfl
      · exact fz
      · exact fb
      · exact fi
      · exact fj
    · simp only[Ax,AD,or_false,not_or] at hc;exact kp c o hc.1 hc.2.1 hc.2.2.1 hc.2.2.2 e
 self:=λ_ _ _ _ _ st h=>wpAny_pyIter_zip st.1 h
abbrev Kt(h:Heap)(t:Addr):Heap:=h.push {cls:= .type "tuple_iterator",data:= .fields #[.ref t,.int 0 0]}
abbrev Ks(h:Heap)(t u:Addr):Heap:=(Kt h t).push {cls:= .type "tuple_iterator",data:= .fields #[.ref u,.int 0 0]}
abbrev Kr(h:Heap)(t u:Addr):Heap:=(Ks h t u).push {cls:= .type "tuple",data:= .seq #[.ref h.objs.size,.ref (Kt h t).objs.size]}
abbrev KE(h:Heap)(t u:Addr):Heap:=(Kr h t u).push {cls:= .type "tuple",data:= .seq #[.none,.none]}
abbrev J_(h:Heap)(t u:Addr):Heap:=(KE h t u).push {cls:= .type "zip",data:= .fields #[.none,.bool false,.bool false,.ref (Ks h t u).objs.size,.ref (Kr h t u).objs.size]}
theorem Uv(t u:Addr)(xs ys:Array Value):Meets (Builtin.«zip.__new__» ⟨[.type "zip",.ref t,.ref u],[]⟩) (λ_ R s=>s.heap.IsTuple t xs∧s.heap.IsTuple u ys∧
 R (.ok (.ret (.ref (KE s.heap t u).objs.size))) {s with heap:=J_ s.heap t u}):=
 .of_wp λprog w A R s h=>by
  obtain⟨hp,g,d,tk,os⟩:=s;obtain⟨g1,g2,h⟩:=h;have f0:=sub_zip;have f1:Heap.IsTuple (Shared.heap ⟨hp,g,d,tk,os⟩) t xs:=g1;have f2:Heap.IsTuple (Shared.heap ⟨hp.push {cls:= .type "tuple_iterator",data:= .fields #[.ref t,.int 0 0]},g,d,tk,os⟩) u ys:=E9 g2 _
  wp_walk using Dq f1,Dq f2
  exact⟨_,rfl,h⟩
theorem Tj:AQ "zip"=some (.type "zip"):=by decide+kernel
def OL(K:Af)(ta:TA):TI:=λσ H R=>ta σ H λvs H1=>∃t u,vs=[.ref t,.ref u]∧(∃xs,SqT K H1 t xs)∧(∃ys,SqT K H1 u ys)∧R (MB K t u) H1
theorem SU{es:List Expr}{kk:Nat}{tpos:Pos}{a b:Expr}{ta:TA}{p pos:Pos}(hg:Gl X "zip")(hm:X.mg "zip"=none)(ha:PA X [a,b] ta)
 (he:Az [a,b] X.env=(false,eval a X.env)::Az [b] X.env:=by rfl) (hpl:(backTo pos (Az [b] X.env)).any (·.1)=false:=by rfl):
 PI X (.Tuple es kk tpos) (.Call (.Name "zip" p) [a,b] [] pos) (OL X.K ta):=by
 intro pins s σ H R I h;refine Bi (IY I hg hm Tj ?_ (by decide) (by decide));refine Bh (He (ha pos pins s σ H _ I h) λus s1 ⟨vs,H1,I1,r1,t,u,e,⟨xs,q1⟩,⟨ys,q2⟩,q⟩=>?_) he hpl;subst e;obtain⟨u1,u2,rfl,v1,v2⟩:=KJ r1;cases v1;cases v2;obtain⟨its1,rv1,g1,_⟩:=I1.tuple q1;obtain⟨its2,rv2,g2,_⟩:=I1.tuple q2;refine callType_new PySem.F.called_zip (by decide) (PySem.F.typeCall_zip_2 _ _) (PySem.F.newCall_zip_2 _ _) (λobj=>PySem.F.args_object_init_3 obj _ _) PySem.F.entry_zip_new (Uv t u its1.toArray its2.toArray) ⟨g1,g2,?_⟩;have y1:(Kt s1.heap t).objs.size=s1.heap.objs.size+1:=AJ ..;have y2:(Ks s1.heap t u).objs.size=s1.heap.objs.size+2:=by rw[AJ,y1]
 have y3:(Kr s1.heap t u).objs.size=s1.heap.objs.size+3:=by rw[AJ,y2]
 have y4:(KE s1.heap t u).objs.size=s1.heap.objs.size+4:=by rw[AJ,y3]
 have k5:∀c o,s1.heap.get? c=some o→(J_ s1.heap t u).get? c=some o:=λc o e=>Ad _ (Ad _ (Ad _ (Ad _ (Ad _ e))));have e5:(J_ s1.heap t u).get? (KE s1.heap t u).objs.size=some _:=Ai _ rfl;have e4:(J_ s1.heap t u).get? (Kr s1.heap t u).objs.size=some _:=Ad _ (Ai _ rfl);have e3:(J_ s1.heap t u).get? (Ks s1.heap t u).objs.size=some _:=Ad _ (Ad _ (Ai _ rfl));have e2:(J_ s1.heap t u).get? (Kt s1.heap t).objs.size=some _:=Ad _ (Ad _ (Ad _ (Ai _ rfl)));have e1:(J_ s1.heap t u).get? s1.heap.objs.size=some _:=Ad _ (Ad _ (Ad _ (Ad _ (Ai _ rfl))));have I2:Inv X pins σ H1 {s1 with heap:=J_ s1.heap t u}:=I1.kept (t':=s1.toks) k5
 have fp:∀c,s1.heap.objs.size≤c→Ht X pins H1 c:=λc hc=>I1.fpOk hc (I1.hok.fresh hc);have D:ZA (KE s1.heap t u).objs.size (Ks s1.heap t u).objs.size (Kr s1.heap t u).objs.size s1.heap.objs.size (Kt s1.heap t).objs.size:=by
  have n4:(Kr s1.heap t u).objs.size<(KE s1.heap t u).objs.size:=by rw[y3,y4];exact BH _
  have n3:(Ks s1.heap t u).objs.size<(Kr s1.heap t u).objs.size:=by rw[y2,y3];exact BH _
  have n2:(Kt s1.heap t).objs.size<(Ks s1.heap t u).objs.size:=by rw[y1,y2];exact BH _
  have n1:s1.heap.objs.size<(Kt s1.heap t).objs.size:=by rw[y1];exact BH _
  exact⟨Al (BU n3 n4),Al n4,Al (BU n1 (BU n2 (BU n3 n4))),Al (BU n2 (BU n3 n4)),Al n3,Cc (BU n1 n2),Cc n2,
   Cc (BU n1 (BU n2 n3)),Cc (BU n2 n3),Al n1⟩
 refine⟨⟨_,e5,rfl⟩,wpAny_pyIter_zip e5 ?_⟩;refine⟨_,_,_,_,H1,rfl,I2,UB t u _ _ _ _ _ D,⟨e5,e3,⟨_,_,e4⟩,⟨_,e1,rfl,rfl⟩,⟨_,e2,rfl,rfl⟩⟩,λc hc=>fp c ?_,q⟩;simp only[Ax,AD,or_false] at hc;rcases hc with rfl | rfl | rfl | rfl | rfl
 · rw[y4];exact Ct _ _
 · rw[y2];exact Ct _ _
 · rw[y3];exact Ct _ _
 · exact Ae _
 · rw[y1];exact Ct _ _
section
variable{tg iter kx vx:Expr}{ifs:List Expr}{wi:TI}{js:HU}{g:TG}{tc:TT}{tk tv:TE}{N':List Str}
theorem Va{px:Pos}{spos:Pos}(hN:X.N.Nodup)(hi':X.N[i]?=some x)(hx:La X.env.scope x)(hc:X.calm=true)(ok:CapOk X N' js scope)(hi:PI X tg iter wi)
 (hg:∀cl C s₀ H₀ ex,PG (HS X N' scope cl C s₀ H₀ ex) tg g) (ht:∀cl C s₀ H₀ ex,H_ (HS X N' scope cl C s₀ H₀ ex) ifs tc) (he:∀cl C s₀ H₀ ex,PE (HS X N' scope cl C s₀ H₀ ex) kx tk) (hv:∀cl C s₀ H₀ ex,PE (HS X N' scope cl C s₀ H₀ ex) vx tv)
 (hsw:swapsWith (.DictComp kx vx [⟨tg,iter,ifs,0⟩] scope pos) (some (.Name x px)) spos.line X.env=pure true:=by rfl)
 (hs:∀x,CP iter X.env x=pure x:=by intro _;rfl) (hf:X.fn x=true∨X.env.scope.names.lookup x=some .local:=by first | exact .inl rfl | exact .inr rfl | assumption):
 PS X (.Assign [.Name x px] (.DictComp kx vx [⟨tg,iter,ifs,0⟩] scope pos) spos) (Jt (XS wi js g tc tk tv) (JA i)):=by
 intro pins s σ H D I h;obtain⟨cl,c1,c2,c3⟩:=L_ (scope:=scope) I.ok.has ok.free;rw[exec_Assign_Name_used _ _ _ _ hsw];refine Aa (Cf (Aa ?_));show wpAny _ X.A (do let _ ←comprehension (.DictComp kx vx [⟨tg,iter,ifs,0⟩] scope pos) scope X.env _ newDict false (eval iter X.env) (some (assign (.Name x px) X.env))) _ _ s
 refine Aa (A9 (CC (use:=some (assign (.Name x px) X.env)) (Q:=λ_ s'=>SP X pins D .next s') rfl hs c1 ok.kind ok.names
  (He (hi pins s σ H _ I h) λv s1 h1=>He h1 λitv s2 h2=>?_)) (λ_ s' hq=>Ac (Ac hq)) λ_ _ e=>e)
 obtain⟨it,fp,tn,J,H2,e,I2,T,st2,f2,hw⟩:=h2;subst e;refine A9 (UH (Q:=λx H1=>JA i x σ H1 D.nx) (iter:=iter) (pos:=pos) hc ok c2 c3 hg ht he hv I2 T st2 f2 hw) (λacc s3 h3=>A9 h3 (λcenv s4 h4=>?_) λ_ _ z=>z) λ_ _ z=>z;refine Cd h4 λr s5 h5=>?_;obtain⟨rfl,⟨m,hm⟩,v,H5,rv,I5,f5,q5⟩:=h5;obtain⟨f0,f1,f2',f3,f4,f6⟩:=f5;show wpAny _ X.A (assign (.Name x px) X.env acc) _ _ _;refine E4 (Nx I5 hN hi' hx rv (λs6 I6 ch=>?_) hf);obtain⟨a,sb,ha⟩:=ch;have na:cenv.locals≠a:=by
  rcases ha with z | z
  · rw[z];exact f1
  · exact λy=>f4 x a z y.symm
 refine⟨m,hm.sameBut sb na,λh' sb'=>⟨_,H5,I6.turned (t':=s6.toks) (λb o hb e=>(sb'.2 b hb).trans e) f0 f1 f3 f4 f6,q5⟩⟩
end
theorem V2{t sl:Addr}{items:Array Value}{vl vu:Value}{lo hi:Option Int}{Q:Value→Shared→Prop}(ht:IsTup s.heap t items)(hs:s.heap.IsSliceOf sl vl vu .none)(pl:IsPart vl lo)(pu:IsPart vu hi)
 (h0:HT.sIx items.size 0 lo=0) (h1:HT.sIx items.size items.size hi=items.size) (h:Q (.ref t) s):wpAny (model prog w) A (getItem (.ref t) (.ref sl)) Q E s:=by
 obtain⟨os,hos,hcs,hds⟩:=id hs;have hTs:s.TypeIs (.ref sl) "slice":=⟨os,hos,hcs⟩;unfold getItem
 try with_reducible refine AE ?_
 first | refine Aa (Ac ?_) | skip
 refine Aa (E5 ht.typeIs (by decide) ?_);refine Aa (Bo (name:=Cw "__getitem__") ht.typeIs Bu
  (AR Bu ht.typeIs PySem.F.entry_tuple_getitem ?_ (PySem.F.args_tuple_getitem_2 _ _)))
 show wpAny _ _ (Dg (.ref t)>>=_) _ _ s;refine Aa (tupleItemsOf_ ht ?_);refine Aa (Ce hTs ?_);rw[if_pos (by decide)];refine Aa (HT.sliceApplied_gen hs pl pu ?_);have yes:((((HT.sIx items.size 0 lo:Nat):Int)==0 && (1:Int)==1 && (HT.sIx items.size items.size hi - HT.sIx items.size 0 lo)==items.size)=true):=by rw[h0,h1];simp
 show wpAny _ _ (if(((HT.sIx items.size 0 lo:Nat):Int)==0 && (1:Int)==1 && (HT.sIx items.size items.size hi - HT.sIx items.size 0 lo)==items.size)=true then _ else _) _ _ s
 rw[if_pos yes];unfold Builtin.Tuple.tupleIsExact;refine Aa (Aa (Ce ht.typeIs (Ac ?_)));rw[if_pos (by decide)];exact Aa (BX (Ac ⟨_,rfl,Ac h⟩))
def Lv(K:Af):V→Option Int→Option Int→Hp→VK→Prop:=λx lo hi H Q=>∃a xs,x= .ref a∧SqT K H a xs∧
 (HT.sIx xs.length 0 lo=0∧HT.sIx xs.length xs.length hi=xs.length→Q (.ref a) H)∧
 (¬(HT.sIx xs.length 0 lo=0∧HT.sIx xs.length xs.length hi=xs.length)→∀p,H p=none→Q (.ref p) (GY H p (.tup (HJ xs lo hi))))
theorem Qr:K_ X (Lv X.K):=by
 intro pins s σ H x v vl vu lo hi sl Q I rx hs pl pu h;obtain⟨a,xs,rfl,hx,q1,q2⟩:=h;by_cases hw:HT.sIx xs.length 0 lo=0∧HT.sIx xs.length xs.length hi=xs.length
 · cases rx;obtain⟨its,r,ht,hz⟩:=I.tuple hx;have hlen:its.toArray.size=xs.length:=by rw[Ak];exact r.length.symm
   refine⟨"tuple",_,Bu.lookup,ht.typeIs,?_⟩;exact V2 ht hs pl pu (by rw[hlen];exact hw.1) (by rw[hlen];exact hw.2) ⟨.ref a,H,I,rfl,q1 hw⟩
 · exact Ta pins s σ H (.ref a) v vl vu lo hi sl Q I rx hs pl pu ⟨a,xs,rfl,hx,hw,q2 hw⟩
theorem TK{Q:VK}(h:SqT K H a xs)(q:∀p H',Same H H'→SqT K H' p (xs.drop 1)→Q (.ref p) H'):Lv K (.ref a) (some 1) none H Q:=by
 have e0:HT.sIx xs.length 0 (some 1)=min 1 xs.length:=HT.sIx_nat _ _ 1;refine⟨a,xs,rfl,h,λhw=>?_,λhw p hp=>?_⟩
 · rw[e0] at hw;have hl:xs.length=0:=by omega
   have hx:xs=[]:=CH.mp hl;subst hx;exact q a H (Same.refl _) h
 · refine q p _ (Hh hp _) (SqT.of ?_);rw[Hb];unfold HJ;rw[e0,show HT.sIx xs.length xs.length none=xs.length from rfl];cases xs with
   | nil=>rfl
   | cons x r=>
    have e1:min 1 (x::r).length=1:=by rw[A5];omega
    rw[e1];congr 2;rw[A5,Nat.add_sub_cancel];exact AZ (by simp)
theorem Ma(K:Af)(h:X.K=K):KC X (Lx K):=by subst h;exact IX
theorem KQ(K:Af)(h:X.K=K){es:List Expr}{k:Nat}{t:Ko}{n:Nat}{pos:Pos}(hc:X.calm=true)(hg:LJ X es t)
 (hn:(assignEach es X.env).length=n:=by rfl) (hst:(assignEach es X.env).findIdx? (·.1)=none:=by rfl):PG X (.Tuple es k pos) (LF K n t):=by subst h;exact J2 hc hg hn hst
theorem Tw{K:Af}{t1 t2 p:Addr}{ys:List V}{g:TG}{tc:TT}{te:TE}{Q:VK}{js:HU}(h1:n≤xs.length)(h2:n≤ys.length)(h3:xs.length≤n∨ys.length≤n)(Pv:Nat→St→List V→Hp→Prop)(h0:Pv 0 (ID js σ) [] (GY H p (.lst [])))
 (hl:∀i σ zs H,i≤n→Pv i σ zs H→SqT K H t1 xs∧SqT K H t2 ys∧H p=some (.lst zs)∧zs.length<As)
 (hs:∀(i:Nat)x y σ zs H q(N:St→List V→Hp→Prop),xs[i]?=some x→ys[i]?=some y→H q=none→Pv i σ zs H→(∀σ' ys' H',Pv (i+1) σ' ys' H'→N σ' ys' H')→Kv p g tc te zs (.ref q) σ (GY H q (.tup [x,y])) N)
 (hd:∀σ zs H,Pv n σ zs H→Q (.ref p) H):J1 (MB K t1 t2) p js g tc te σ H Q:=
 KL (n:=n) (J:=MB K t1 t2) (js:=js) (σ:=σ) (H:=H) (p:=p) (Q:=Q) (g:=g) (tc:=tc) (te:=te) Pv h0 (λi σ zs H hi pv=>(hl i σ zs H hi pv).2.2)
  (λi σ zs H hi pv=>⟨xs,ys,xs[i],ys[i],(hl i σ zs H (Bd hi) pv).1,(hl i σ zs H (Bd hi) pv).2.1,by simp,by simp⟩)
  (λσ zs H pv=>⟨xs,ys,(hl _ σ zs H (Ae _) pv).1,(hl _ σ zs H (Ae _) pv).2.1,h3⟩)
  (λi v σ zs H H' N hi y pv hN=>by
   obtain⟨q,e,hq,y⟩:=y;subst e;have ex:xs[i]?=some xs[i]:=by simp
   have ey:ys[i]?=some ys[i]:=by simp
   have e2:=y xs ys _ _ (hl i σ zs H (Bd hi) pv).1 (hl i σ zs H (Bd hi) pv).2.1 ex ey;subst e2;exact hs i _ _ σ zs H q N ex ey hq pv hN) hd
section
variable{h':Heap}
end
def MC(K:Af)(a:Addr):It:=
 ⟨λk H=>∃(xs:List V)(x:V),SqL K H a xs∧xs[k]?=some x,
  λk H v H'=>∃p,v= .ref p∧H p=none∧∀(xs:List V)(x:V),SqL K H a xs→xs[k]?=some x→H'=GY H p (.tup [.int k,x]),
  λk H=>∃(xs:List V),SqL K H a xs∧xs.length≤k⟩
theorem VV{P:Bb}{w:World}{K:Af}{es:List Expr}{kk:Nat}{pos:Pos}(a e it:Addr)(D:e≠it):
 Turn P w K (.Tuple es kk pos) (MC K a) [e,it] e (λk h=>(∃old,IsEnum h e it k old)∧h.IsListIter it a k) where
 mem:=by simp
 obj:=λk h st c hc=>by
  obtain⟨⟨old,hz⟩,⟨oi,ei,_,di⟩⟩:=st;simp only[Ax,AD,or_false] at hc;rcases hc with rfl | rfl
  · exact⟨_,hz,λv e=>by cases e⟩
  · exact⟨oi,ei,λv e=>by rw[di] at e;cases e⟩
 keep:=λk h h' st kp=>by obtain⟨⟨old,hz⟩,⟨oi,ei,ri⟩⟩:=st;exact⟨⟨old,kp e (by simp) _ hz⟩,⟨oi,kp it (by simp) _ ei,ri⟩⟩
 item:=by
  intro X hP hw hK hc k pins s σ H E I hf st hg;subst hP hw hK;obtain⟨xs,x,q1,hx⟩:=hg;obtain⟨⟨old,hz⟩,h1⟩:=st;obtain⟨its1,r1,g1,_⟩:=I.list q1;obtain⟨u1,hu1,v1⟩:=r1.get hx;have fz:=hf e (by simp);have fi:=hf it (by simp);refine wpAny_pyNext_enum_item hz h1 g1.isList (by simpa using hu1) D λg a1 a2 a3 a4 a5=>?_;refine⟨_,rfl,wpAny_letOwnedTupleGo_enum a1 λg' z' m'=>?_⟩;have zT:e≠s.heap.objs.size:=Al (Ag hz);have up:∀c o,c≠e→g.get? c=some o→g'.get? c=some o:=λc o hc e=>m'.extBut c o hc e;have fr:H s.heap.objs.size=none:=I.hok.fresh (Ae _);have I1:Inv X pins σ (GY H s.heap.objs.size (.tup [.int k,x])) {s with heap:=g',toks:=s.toks+1}:=by
   refine I.newTup (t':=s.toks+1) [e,it] (λc hc=>?_) (λc o hc e=>?_) (Ae _) ⟨[.int k s.toks,u1],.cons ⟨_,rfl⟩ (.cons v1 .nil),_,up _ _ zT.symm a3,rfl,rfl,_,rfl⟩
   · simp only[Ax,AD,or_false] at hc;rcases hc with rfl | rfl
     · exact fz
     · exact fi
   · simp only[Ax,AD,or_false,not_or] at hc;exact up c o hc.1 (a5 c o hc.1 hc.2 e)
  obtain⟨oi,ei,ri⟩:=a2;refine⟨.ref s.heap.objs.size,_,I1,rfl,⟨_,rfl,fr,λxs' x' s1 e1=>?_⟩,⟨⟨_,z'⟩,⟨oi,up _ _ D.symm ei,ri⟩⟩,λc hc=>?_⟩
  · rw[I.list_inj s1 q1,hx] at e1;cases e1;rfl
  · have fc:=hf c hc;have:c≠s.heap.objs.size:=by
     simp only[Ax,AD,or_false] at hc;obtain⟨oi',ei',_⟩:=h1;rcases hc with rfl | rfl
     · exact zT
     · exact Al (Ag ei')
    rw[Hm this];exact fc.1
 done:=by
  intro X hP hw hK hc k pins s σ H E I hf st hg;subst hP hw hK;obtain⟨xs,q1,hend⟩:=hg;obtain⟨⟨old,hz⟩,h1⟩:=st;obtain⟨its1,r1,g1,_⟩:=I.list q1;have l1:=r1.length;refine wpAny_pyNext_enum_end (I.ok.hd hc) hz h1 g1.isList (by simp;omega) λg kp=>?_;refine⟨rfl,I.turnedN (t':=s.toks) [it] (λc hc=>?_) (λc o hc e=>?_)⟩
  · simp only[Ax,AD,or_false] at hc;subst hc;exact hf c (by simp)
  · simp only[Ax,AD,or_false] at hc;exact kp c o hc e
 self:=λ_ _ _ _ _ st h=>by obtain⟨⟨old,hz⟩,_⟩:=st;exact wpAny_pyIter_enum hz h
theorem WX:AQ "enumerate"=some (.type "enumerate"):=by decide+kernel
def Sy(K:Af)(ta:TA):TI:=λσ H R=>ta σ H λvs H1=>∃t,vs=[.ref t]∧(∃xs,SqL K H1 t xs)∧R (MC K t) H1
theorem Um{es:List Expr}{kk:Nat}{tpos:Pos}{a:Expr}{ta:TA}{p pos:Pos}(hg:Gl X "enumerate")(hm:X.mg "enumerate"=none)(ha:PA X [a] ta)
 (he:Az [a] X.env=(false,eval a X.env)::Az [] X.env:=by rfl) (hpl:(backTo pos (Az [] X.env)).any (·.1)=false:=by rfl):
 PI X (.Tuple es kk tpos) (.Call (.Name "enumerate" p) [a] [] pos) (Sy X.K ta):=by
 intro pins s σ H R I h;refine Bi (IY I hg hm WX ?_ (by decide) (by decide));refine Bh (He (ha pos pins s σ H _ I h) λus s1 ⟨vs,H1,I1,r1,t,e,⟨xs,q1⟩,q⟩=>?_) he hpl;subst e;obtain⟨u1,rfl,v1⟩:=IW r1;cases v1;obtain⟨its1,rv1,⟨o,n,g0,g1,g2,g3⟩,_⟩:=I1.list q1;obtain⟨oc,od,odat,osl⟩:=o;cases g1;cases g2;cases g3;refine callType_new PySem.F.called_enumerate (by decide) (PySem.F.typeCall_enumerate_1 _) (PySem.F.newCall_enumerate_1 _) (λobj=>PySem.F.args_object_init_2 obj _) PySem.F.entry_enumerate_new (meets_enumerate_newL t its1.toArray n none osl) ⟨g0,?_⟩;generalize hh5:((s1.heap.push {cls:= .type "list_iterator",data:= .fields #[.ref t,.int 0 0]}).push {cls:= .type "enumerate",data:= .fields #[.none,.bool false,.ref s1.heap.objs.size,rawInt 0,.none,.none]})=h5;have y1:(s1.heap.push {cls:= .type "list_iterator",data:= .fields #[.ref t,.int 0 0]}).objs.size=s1.heap.objs.size+1:=AJ ..;have k5:∀c o,s1.heap.get? c=some o→h5.get? c=some o:=λc o e=>by rw[←hh5];exact Ad _ (Ad _ e)
 have e5:IsEnum h5 (s1.heap.objs.size+1) s1.heap.objs.size 0 .none:=by have:=Ai (s1.heap.push {cls:= .type "list_iterator",data:= .fields #[.ref t,.int 0 0]}) (o:={cls:= .type "enumerate",data:= .fields #[.none,.bool false,.ref s1.heap.objs.size,rawInt 0,.none,.none]}) rfl;rw[y1,hh5] at this;exact this
 have e1:h5.IsListIter s1.heap.objs.size t 0:=by rw[←hh5];exact⟨_,Ad _ (Ai _ rfl),rfl,rfl⟩
 have I2:Inv X pins σ H1 {s1 with heap:=h5}:=I1.kept (t':=s1.toks) k5
 have fp:∀c,s1.heap.objs.size≤c→Ht X pins H1 c:=λc hc=>I1.fpOk hc (I1.hok.fresh hc);show _∧_;rw[y1];refine⟨⟨_,e5,rfl⟩,wpAny_pyIter_enum e5 ?_⟩;refine⟨_,_,_,_,H1,rfl,I2,VV t _ _ (Cc (BH _)),⟨⟨_,e5⟩,e1⟩,λc hc=>fp c ?_,q⟩;simp only[Ax,AD,or_false] at hc;rcases hc with rfl | rfl
 · exact C9 _
 · exact Ae _
theorem Ug{K:Af}{a p:Addr}{xs:List V}{g:TG}{tc:TT}{te:TE}{Q:VK}{js:HU}(Pv:Nat→St→List V→Hp→Prop)(h0:Pv 0 (ID js σ) [] (GY H p (.lst [])))
 (hl:∀i σ ys H,i≤xs.length→Pv i σ ys H→SqL K H a xs∧H p=some (.lst ys)∧ys.length<As)
 (hs:∀(i:Nat)x q σ ys H(N:St→List V→Hp→Prop),xs[i]?=some x→H q=none→Pv i σ ys H→(∀σ' ys' H',Pv (i+1) σ' ys' H'→N σ' ys' H')→Kv p g tc te ys (.ref q) σ (GY H q (.tup [.int i,x])) N)
 (hd:∀σ ys H,Pv xs.length σ ys H→Q (.ref p) H):J1 (MC K a) p js g tc te σ H Q:=
 KL (n:=xs.length) (J:=MC K a) (js:=js) (σ:=σ) (H:=H) (p:=p) (Q:=Q) (g:=g) (tc:=tc) (te:=te) Pv h0 (λi σ ys H hi pv=>(hl i σ ys H hi pv).2)
  (λi σ ys H hi pv=>⟨xs,xs[i],(hl i σ ys H (Bd hi) pv).1,by simp[hi]⟩) (λσ ys H pv=>⟨xs,(hl _ σ ys H (Ae _) pv).1,Ae _⟩)
  (λi x σ ys H H' N hi y pv hN=>by
   obtain⟨q,e,hq,y⟩:=y;subst e;have hx:xs[i]?=some xs[i]:=by simp[hi]
   rw[y xs xs[i] (hl i σ ys _ (Bd hi) pv).1 hx];exact hs i _ q σ ys _ N hx hq pv hN) hd
section
variable{te:TE}{p2 p3 p4:Pos}
def Op(K:Af)(te:TE):TE:=λσ H Q=>te σ H λx H1=>∃a xs,x= .ref a∧SqL K H1 a xs∧∀p,H1 p=none→Q (.ref p) (GY H1 p (.lst xs.reverse))
theorem Vals.rev:∀{xs:List V}{us:List Value},Vals xs us→Vals xs.reverse us.reverse
 | _,_,.nil=> .nil
 | _,_,.cons r t=>by rw[List.reverse_cons,List.reverse_cons];exact(Vals.rev t).append (.cons r .nil)
theorem SQ(he:PE X e te):PE X (.Subscript e (.Slice none none (some (.UnaryOp .USub (.Constant (.int 1) n p3) p4)) p2) pos) (Op X.K te):=by
 intro pins s σ H Q I h;refine Subscript_ (He (he pins s σ H _ I h) λv s1 ⟨x,H1,I1,r1,a,xs,hx,hq,q1⟩=>?_);subst hx;cases r1;refine wpAny_Slice ?_;rw[evalPart_none,evalPart_some];refine Ac (Ac ?_);have hst:PE X (.UnaryOp .USub (.Constant (.int 1) n p3) p4) _:=SE Ut G_;refine He (hst pins s1 σ H1 (λv H2=>v= .int (-1)∧H2=H1) I1 ⟨1,rfl,rfl,rfl⟩) λvs s2 ⟨y,H2,I2,r2,e2,e3⟩=>?_;subst e2 e3;obtain⟨t,rfl⟩:=r2;have I4:Inv X pins σ H2 {s2 with heap:=s2.heap.push {cls:= .type "slice",data:= .fields #[.none,.none,.int (-1) t]}}:=I2.kept (t':=s2.toks) λb ob q=>Ad _ q
 obtain⟨its,r,ht,hz⟩:=I4.list hq;have hlen:=r.length;have hg:wpAny (model X.prog X.w) X.A (getItem (.ref a) (.ref s2.heap.objs.size)) (EP X pins σ Q) X.xe {s2 with heap:=s2.heap.push {cls:= .type "slice",data:= .fields #[.none,.none,.int (-1) t]}}:=by refine EK ht.isList (Heap.IsSliceOf.new ..) .none .none (.int (-1) t) (by decide) ?_ (by rw[Ak]<;>omega);rw[PySem.W.krv_pick];refine⟨.ref _,_,I4.laid (t':=s2.toks) (o:= .lst xs.reverse) (λb ob q=>Ad _ q) (Ae _) ?_,rfl,q1 _ (I4.hok.fresh (Ae _))⟩;exact⟨by rw[DV];exact hz,_,0,Vals.rev r,Ai _ rfl⟩
 show wpAny (model X.prog X.w) X.A (subscriptTail e (.Slice none none (some (.UnaryOp .USub (.Constant (.int 1) n p3) p4)) p2) (.ref a) (.ref s2.heap.objs.size)) (EP X pins σ Q) X.xe {s2 with heap:=s2.heap.push {cls:= .type "slice",data:= .fields #[.none,.none,.int (-1) t]}}
 exact tail_any (ops:=_) ht.isList.typeIs E6.lookup hg (by with_unfolding_all rfl)
end
def Om(ns:List Int):Nat:=(ns.foldl step_dedup []).length
section
variable{te:TE}{p2 p3 p4:Pos}
end
end L2
namespace WB
def Web(W:List Int):Prop:=W.length≤23∧∀(i:Nat)(x:Int),W[i]?=some x→0≤x∧x≤(i:Int)
def Post(W:List Int)(p:Int):Prop:=0≤p∧p≤(W.length:Int)
end WB
namespace L2
def Pl(i j:Int):Prop:=i.natAbs<2^1000∧j.natAbs<2^1000
theorem KP:HK X (binaryOp .Mult) (rI Pl λi j=> .int (i*j)):=L0 λi j _ _ _ _ _ hc q=> mul_int q (IntMulOk.of_bits (AF (intBits_le hc.1) (by decide)) (AF (intBits_le hc.2) (by decide)))
theorem RV(K:Af)(h:X.K=K):I0 X (.builtin "len") (λxs H Q=>∃p ys,xs=[.ref p]∧(SqL K H p ys∨SqT K H p ys)∧Q (.int ys.length) H):=by subst h;exact HY
section
variable{Q:VK}
end
def HV(H:Hp)(a:Addr)(W:List Int):Prop:=H a=some (.lst (W.map V.int))∧WB.Web W
def Qt:Sp:=λvs H Q _=>∃(a:Addr)(W:List Int),vs=[.ref a]∧HV H a W∧∀H',Same H H'→Q (.bl true) H'
def QB:Sp:=λvs H Q _=>∃(a:Addr)(W:List Int),vs=[.ref a]∧HV H a W∧∀H',Same H H'→Q .non H'
def QC:Sp:=λvs H Q _=>∃(a:Addr)(W:List Int)(p:Int),vs=[.ref a,.int p]∧HV H a W∧WB.Post W p∧Q (.bl true) H
theorem nb{i:Int}(h0:0≤i)(h1:i<2^400):i.natAbs<2^1000:=by
 have:i.natAbs<2^400:=by omega
 exact Ay this (by decide)
def LN(K:Af):Sp:=λvs H Q _=>∃(a:Addr)(ns:List Int),vs=[.ref a]∧SqL K H a (ns.map V.int)∧ns.length≤63∧∀H',Q (.bl true) H'
theorem mx(i j:Int):(if j>i then j else i)=max i j:=by rw[Int.max_def];split<;>split<;>omega
def Iz(H H':Hp):Prop:=∀a xs,H a=some (.tup xs)→H' a=some (.tup xs)
theorem Same.tups{H':Hp}(s:Same H H'):Iz H H':=λa xs h=>s _ _ h
theorem QK{p:Addr}{ys:List V}{o:HO}(h:H p=some (.lst ys)):Iz H (GY H p o):=λa xs e=>by rw[Hm (ME e h (by intro z;cases z))];exact e
theorem Jn{H0:Hp}{p:Addr}{o:HO}(s:Same H0 H)(n:H0 p=none):Same H0 (GY H p o):=λa u e=>by rw[Hm (IA e n)];exact s _ _ e
theorem Qy:∀{ts:List Str}{us:List Value},Vals (ts.map V.str) us→∃l:List (Str×Tok),strValues l=us∧l.map (·.1)=ts
 | [],_,h=>by cases h;exact⟨[],rfl,rfl⟩
 | x::ts,_,h=>by
  rw[Av] at h;cases h with
  | cons r h=> obtain⟨t,rfl⟩:=r;obtain⟨l,h1,h2⟩:=Qy h;exact⟨(x,t)::l,by rw[←h1];rfl,by rw[←h2];rfl⟩
theorem NS:∀{ts:List Str}{us:List Value},Vals (ts.map V.str) us→StrsAre us ts
 | [],_,h=>by cases h;exact .nil
 | x::ts,_,h=>by
  rw[Av] at h;cases h with
  | cons r h=> obtain⟨t,rfl⟩:=r;exact .cons _ _ (NS h)
theorem Oi:∀{us:List Value}{ts:List Str},StrsAre us ts→Vals (ts.map V.str) us
 | _,_,.nil=> .nil
 | _,_,.cons n t h=> .cons ⟨t,rfl⟩ (Oi h)
def SH(K:Af):V→List V→Hp→VK→Prop:=λx vs H Q=>∃(y:Str)(a:Addr)(ts:List Str),x= .str y∧vs=[.ref a]∧SqL K H a (ts.map V.str)∧JoinOk y ts=true∧Q (.str (Txt.join y ts)) H
theorem Uj:OW X "str.join" (SH X.K):=by intro pins s σ H x vs v us Q I rx rv h;obtain⟨y,a,ts,rfl,rfl,hq,hok,q⟩:=h;obtain⟨t,rfl⟩:=rx;obtain⟨u,rfl,ru⟩:=rv.one;cases ru;obtain⟨its,r,ht,hz⟩:=I.list hq;obtain⟨l,rfl,rfl⟩:=Qy r;unfold JoinOk at hok;rw[D2] at hok;refine call_meets F.slot_str_join (typeIs_str _ _ _) F.entry_str_join (F.args_str_join_2 _ _) (meets_str_join_list y t a l hok) ⟨ht.isList,post_join l ⟨joinFit_length hok,λt' k=>?_⟩⟩;exact⟨.str _,H,I.kept (t':=k) λb o e=>e,⟨t',rfl⟩,q⟩
def SY(K:Af):List V→Hp→VK→Prop:=λxs H Q=>∃(a:Addr)(ns:List Str),xs=[.ref a]∧SqL K H a (ns.map V.str)∧ns.length<64∧
 ∀(p:Addr)(ms:List Str),ms.Perm ns→sortedS ms=true→H p=none→Q (.ref p) (GY H p (.lst (ms.map V.str)))
theorem NJ:I0 X (.builtin "sorted") (SY X.K):=by
 intro pins s σ H xs us Q I r h;obtain⟨a,ns,rfl,hq,h64,q⟩:=h;obtain⟨u,rfl,rx⟩:=IW r;cases rx;obtain⟨its,rv,ht,hz⟩:=I.list hq;have hl:=rv.length;rw[Ab] at hl;refine sorted_strs ht.isList (NS rv) (by omega) λout ns' a1 a2 a3=>?_;obtain⟨e,he⟩:=sortedAll_at s.heap its out;have hn:H (s.heap.objs.size+1)=none:=I.hok.fresh (C9 _);have hlen:ns'.length=ns.length:=a2.length_eq;refine⟨.ref (s.heap.objs.size+1),GY H (s.heap.objs.size+1) (.lst (ns'.map V.str)),I.laid (t':=s.toks) (λb o e=>sortedAll_old e) (C9 _) ?_,rfl,q _ ns' a2 a3 hn⟩;have hz':ns.length≤As:=by rw[Ab] at hz;exact hz
 exact⟨by rw[Ab];omega,out.toList,e,Oi a1,by simpa [seqObj] using he⟩
theorem SN(t:A8)(n:Nat):(t.orStandIn n).led=t.led:=by unfold SetTable.orStandIn;split<;>rfl
theorem UV(t:A8)(n:Nat)(h:t.plain=false):(t.orStandIn n).plain=false:=by
 unfold SetTable.orStandIn
 split
 · exact h
 · rfl
theorem Uf(t:A8)(es:Array (Int×Value))(h:Int)(x:Value):(layNew t es h x).2.1.led=t.led:=by
 unfold layNew
 split
 · exact(SN _ _).trans rfl
 · rfl
theorem Vy(t:A8)(es:Array (Int×Value))(h:Int)(x:Value):t.plain=false→(layNew t es h x).2.1.plain=false:=by
 intro hp;unfold layNew
 split
 · exact UV _ _ hp
 · rfl
theorem Qk{mask finger moves:Nat}{led plain:Bool}{hs:Array Int}{t:A8}{o:Array Nat}(h:SetTable.laid mask finger moves led plain hs=some (t,o)):t.led=led∧t.plain=plain:=by
 unfold SetTable.laid at h;cases h1:SetTable.layClean mask hs with
 | none=>rw[h1] at h;cases h
 | some ow=> rw[h1] at h;simp only[Option.bind_eq_bind,Option.bind_some,Option.pure_def,Option.some.injEq,Prod.mk.injEq] at h;rw[←h.1];exact⟨rfl,rfl⟩
theorem Vm(t:A8)(es:Array (Int×Value))(n:Nat):(relayAll t es n).2.1.led=t.led:=by
 unfold relayAll
 split
 · rename_i t' o h;dsimp only
   split
   · exact(Qk h).1
   · rfl
 · rfl
theorem Xh(t:A8)(es:Array (Int×Value))(n:Nat)(hp:t.plain=false):(relayAll t es n).2.1.plain=false:=by
 unfold relayAll
 split
 · rename_i t' o h;dsimp only
   split
   · rw[←hp];exact(Qk h).2
   · rfl
 · rfl
def Hn(w:World):Bool:=w.params.followText "set-order"
structure TxSet(prog:Bb)(w:World)(h:Heap)(a:Addr)(ks:List Str):Prop where
 at':∃(es:Array (Int×Value))(ep:Nat)(t:A8),h.get? a=some {cls:= .type "set",dict:=none,data:= .set es ep t}∧ElemsOf (strKind prog w) es.toList∧
  StrsAre (es.toList.map (·.2)) ks∧t.fits es.size=true∧t.led=!Hn w∧(es.size=0∨t.plain=false)
 nodup:ks.Nodup
 few:ks.length<Dt
theorem Lm:∀{vs:List Value}{ks:List Str},StrsAre vs ks→vs.length=ks.length
 | _,_,.nil=>rfl
 | _,_,.cons _ _ h=>by rw[A5,A5,Lm h]
theorem RD:∀{vs us:List Value}{ks js:List Str},StrsAre vs ks→StrsAre us js→StrsAre (vs++us) (ks++js)
 | _,_,_,_,.nil,h=>h
 | _,_,_,_,.cons _ _ h',h=> .cons _ _ (RD h' h)
theorem Oh{vs:List Value}(p:us.Perm vs):∀{ks:List Str},StrsAre vs ks→∃js,StrsAre us js∧js.Perm ks:=by
 induction p with
 | nil=>intro ks h;exact⟨ks,h,.refl _⟩
 | cons x p ih=>
  intro ks h;cases h with
  | cons y t h=> obtain⟨js,h1,h2⟩:=ih h;exact⟨y::js,.cons y t h1,h2.cons _⟩
 | swap x y l=>
  intro ks h;cases h with
  | cons y t h=>
   cases h with
   | cons y2 t2 h=>exact⟨y2::y::_,.cons _ _ (.cons _ _ h),.swap _ _ _⟩
 | trans p1 p2 ih1 ih2=> intro ks h;obtain⟨js,h1,h2⟩:=ih2 h;obtain⟨is,h3,h4⟩:=ih1 h1;exact⟨is,h3,h4.trans h2⟩
theorem NH:∀{vs:List Value}{ks:List Str},StrsAre vs ks→∀k,k∈ks↔∃t,Value.str k t∈vs
 | _,_,.nil,k=>by simp
 | _,_,.cons y t h,k=>by
  rw[Ax,NH h k];constructor
  · rintro(rfl | ⟨u,hu⟩)
    · exact⟨t,.head _⟩
    · exact⟨u,.tail _ hu⟩
  · rintro⟨u,hu⟩;cases hu with
    | head=>exact .inl rfl
    | tail _ hu=>exact .inr ⟨u,hu⟩
theorem LZ(k:Str)(t:Tok):(strKind prog w).is k (.str k t)=true:=by show DC k (.str k t)=true;simp[DC]
theorem Md(h:Heap)(a:Addr)(es es':Array (Int×Value))(ep:Nat)(t t':A8)(ho:h.get? a=some {cls:= .type "set",dict:=none,data:= .set es ep t}):
 (h.update a (Obj.putSet es' t')).get? a=some {cls:= .type "set",dict:=none,data:= .set es' (ep+1) t'}:=by
 have:=Ci (Obj.putSet es' t') ho (by rw[putSet_of es' t' (o:={cls:= .type "set",dict:=none,data:= .set es ep t}) rfl];rfl);rw[putSet_of es' t' (o:={cls:= .type "set",dict:=none,data:= .set es ep t}) rfl] at this;exact this
theorem UA{ks:List Str}{k:Str}{tk:Tok}{Q:Bool→Shared→Prop}(hS:TxSet prog w s.heap a ks)(hroom:ks.length+1<Dt)
 (h:∀h' ks',BS a s.heap h'→TxSet prog w h' a ks'→ks'.length≤ks.length+1→(∀x,x∈ks'↔x∈ks∨x=k)→∀b,Q b {s with heap:=h'}):
 wpAny (model prog w) A (setAddHashed a (.str k tk) ((strKind prog w).hash k)) Q E s:=by
 obtain⟨⟨es,ep,t,ho,hel,hks,hf,hled,hpl⟩,hnd,hfew⟩:=hS;have hsz:es.size=ks.length:=by rw[←Lm hks,Ab,Aj]
 have hb:es.size<Dt:=by rw[hsz];exact hfew
 have hkey:(strKind prog w).is k (.str k tk)=true:=LZ k tk;unfold setAddHashed setAddHashedIn;refine AE (Aa (AW ho rfl hf ?_));dsimp only;rw[byScan_of (knd:=strKind prog w) rfl hb hel];simp only[↓reduceIte];unfold setAddByScan;refine Aa ?_;refine Aa (BX ?_);refine Aa (wpAny_setScan_of (knd:=strKind prog w) hkey ho rfl hf hel ?_);have isk:∀e∈es.toList,(strKind prog w).is k e.2=true→k∈ks:=λe he q=>by obtain⟨t',q'⟩:=DP q;exact(NH hks k).mpr ⟨t',by rw[←q'];exact Bm he⟩
 cases hr:List.findIdx? (λe=>(strKind prog w).is k e.2) es.toList with
 | some j=> dsimp only;obtain⟨hj,hpj,_⟩:=List.findIdx?_eq_some_iff_getElem.mp hr;have hk:k∈ks:=isk _ (List.getElem_mem hj) hpj;refine Ac (Ac ?_);exact h s.heap ks (Heap.SameBut.refl a s.heap) ⟨⟨es,ep,t,ho,hel,hks,hf,hled,hpl⟩,hnd,hfew⟩ (C9 _) (λx=>⟨.inl,λq=>q.elim id λe=>e ▸ hk⟩) _
 | none=>
  dsimp only;have hk:k ∉ ks:=λhm=>by obtain⟨t',ht⟩:=(NH hks k).mp hm;obtain⟨e,he,q⟩:=AU.mp ht;have:=List.findIdx?_eq_none_iff.mp hr e he;rw[q,LZ] at this;cases this
  have hgw:∀(b:Bool){s₁:Shared}{Q':Unit→Shared→Prop},Q' () s₁→wpAny (model prog w) A (match b with | true=>rule "set.scan.the-table-gave-way" | false=>pure ()) Q' E s₁:=
   λb s₁ Q' hq=>by cases b<;>first | exact Ac hq | exact BX hq
  have hperm:=layNew_perm t es ((strKind prog w).hash k) (.str k tk);have hfits:=layNew_fits t es ((strKind prog w).hash k) (.str k tk);have hl1:=Uf t es ((strKind prog w).hash k) (.str k tk);have hp1:=Vy t es ((strKind prog w).hash k) (.str k tk);generalize hL:layNew t es ((strKind prog w).hash k) (.str k tk)=L at hperm hfits hl1 hp1 ⊢;obtain⟨es1,t1,wasDummy,gave⟩:=L;dsimp only at hperm hfits hl1 hp1 ⊢;rw[D3] at hperm;have hel1:ElemsOf (strKind prog w) es1.toList:=(hel.push hkey rfl).perm hperm;have h0:StrsAre ((es.toList++[((strKind prog w).hash k,Value.str k tk)]).map (·.2)) (ks++[k]):=by rw[Au];exact RD hks (.cons k tk .nil)
  obtain⟨k1,hk1,hkp1⟩:=Oh (hperm.map (·.2)) h0;have hsz1:es1.size=ks.length+1:=by rw[←Aj,hperm.length_eq,AG,Aj,hsz];rfl
  have nd0:(ks++[k]).Nodup:=by rw[EA];exact⟨hnd,by simp,λx hx y hy=>by rw[Aw] at hy;subst hy;exact λe=>hk (e ▸ hx)⟩
  have fin:∀(h':Heap)(es2:Array (Int×Value))(ep2:Nat)(t2:A8),BS a s.heap h'→h'.get? a=some {cls:= .type "set",dict:=none,data:= .set es2 ep2 t2}→es2.toList.Perm es1.toList→t2.fits es2.size=true→
   t2.led=t.led→t2.plain=false→∀b,Q b {s with heap:=h'}:=λh' es2 ep2 t2 sb ho2 p2 f2 l2 pl2 b=>by
   obtain⟨k2,hk2,hkp2⟩:=Oh (p2.map (·.2)) hk1;have hp:k2.Perm (ks++[k]):=hkp2.trans hkp1;have hlen:k2.length=ks.length+1:=by rw[hp.length_eq,AG];rfl
   refine h h' k2 sb ⟨⟨es2,ep2,t2,ho2,hel1.perm p2,hk2,f2,l2.trans hled,.inr pl2⟩,hp.nodup_iff.mpr nd0,by omega⟩ (by omega) (λx=>?_) b;rw[hp.mem_iff,AM,Aw]
  refine Aa (hgw _ ?_);have tail:∀(t2:A8),t2.fits es1.size=true→t2.led=t.led→t2.plain=false→∀{R:Option Bool→Shared→Prop},(∀h',(∀b,Q b {s with heap:=h'})→R (some true) {s with heap:=h'})→
   wpAny (model prog w) A (do
    storeSet a es1 t2
    if(!wasDummy && t2.tooFull)=true then do
        (match(relayAll t2 es1 (BN es1.size)).2.2 with | true=>rule "set.scan.the-table-gave-way" | false=>pure ())
        storeSet a (relayAll t2 es1 (BN es1.size)).1 (relayAll t2 es1 (BN es1.size)).2.1
        pure (some true)
     else pure (some true)) R E s:=by
   intro t2 f2 l2 pl2 R hR;refine Aa (D4 ho rfl ?_ (fits_of_scanBound (by omega)));have ho1:=Md s.heap a es es1 ep t t2 ho;have sb1:=AN s.heap a (Obj.putSet es1 t2)
   split
   · have hp:=relayAll_perm t2 es1 (BN es1.size);have hfr:=relayAll_fits t2 es1 (BN es1.size);have hl2:=Vm t2 es1 (BN es1.size);have hp2:=Xh t2 es1 (BN es1.size) pl2;generalize hRl:relayAll t2 es1 (BN es1.size)=Rl at hp hfr hl2 hp2 ⊢;obtain⟨es2,t3,gave2⟩:=Rl;dsimp only at hp hfr hl2 hp2 ⊢;have hs2:es2.size=es1.size:=by rw[←Aj,hp.length_eq,Aj]
     refine Aa (hgw _ ?_);refine Aa (D4 ho1 rfl ?_ (fits_of_scanBound (by omega)));exact Ac (hR _ (fin _ es2 _ t3 (sb1.trans (AN _ a _)) (Md _ a es1 es2 (ep+1) t2 t3 ho1) hp hfr (hl2.trans l2) hp2))
   · exact Ac (hR _ (fin _ es1 _ t2 sb1 ho1 (.refl _) f2 l2 pl2))
  split
  · refine Aa ?_;rw[hashByValue_scannable 8 (x:= .str k tk) rfl];refine Ac ?_;exact tail {t1 with plain:=false} (SetTable.fits_plain_off hfits) hl1 rfl λh' q=>Ac (q _)
  · rename_i hnp;refine Aa (Ac ?_);simp only[↓reduceIte];exact tail t1 hfits hl1 (by simpa using hnp) λh' q=>Ac (q _)
theorem TxSet.kept{h':Heap}{ks:List Str}(T:TxSet prog w h a ks)(k:∀o,h.get? a=some o→h'.get? a=some o):TxSet prog w h' a ks:=by obtain⟨⟨es,ep,t,ho,r⟩,b,c⟩:=T;exact⟨⟨es,ep,t,k _ ho,r⟩,b,c⟩
theorem Qx:∀{vs:List Value}{ts:List Str},StrsAre vs ts→∀(i:Nat)(v:Value),vs[i]?=some v→∃x t,v= .str x t∧ts[i]?=some x
 | _,_,.nil,i,v,h=>by simp at h
 | _,_,.cons y t hr,0,v,h=>by simp at h;exact⟨y,t,h.symm,rfl⟩
 | _,_,.cons y t hr,i+1,v,h=>by rw[Dw] at h;obtain⟨x,t',e,e2⟩:=Qx hr i v h;exact⟨x,t',e,by rw[Dw];exact e2⟩
section
variable{R:Result→Shared→Prop}{I:Addr}{fp wr:List Addr}{G:Array GenState→Array GenState→Prop}{P:Nat→Value→Prop}{St:Nat→Shared→Prop}
theorem VU(ts:List Str)(W:WalksS prog w A.in1 I fp wr G ts.length P St)(S:Addr)(hSf:S ∉ fp)
 (hval:∀i v,P i v→∃x t,v= .str x t∧ts[i]?=some x) (hb:ts.length+1<Dt):
 ∀(k i:Nat)(s:Shared)(ks:List Str),ts.length - i=k→i≤ts.length→St i s→TxSet prog w s.heap S ks→ks.length≤i→(∀x,x∈ks↔x∈ts.take i)→
  (∀s' ks',Moved (S::wr) G s s'→TxSet prog w s'.heap S ks'→ks'.length≤ts.length→(∀x,x∈ks'↔x∈ts)→R (.ok (.ret .none)) s')→
  codeAny (model prog w) A (.builtin "set.update.loop" ⟨[.ref S,.ref I],[]⟩) R s:=by
 have hSw:S ∉ wr:=λh=>hSf (W.sub _ h);have hsub:∀b∈wr,b∈S::wr:=λb hb=>Ao _ hb;intro k
 induction k with
 | zero=>
  intro i s ks hk hi hst hS hl hm0 hR;have hin:i=ts.length:=by omega
  subst hin;refine A_ BW ?_;rw[AO Bj _];show wpAny _ A.in1 (pyNext (.ref I)>>=_) _ _ s;refine Aa (W.done s _ _ hst λs' hm=>?_);show wpAny _ A.in1 (ret Value.none) _ _ s';exact Ac (hR s' ks (hm.mono hsub) (hS.kept λo e=>hm.heap S _ hSw e) hl (λx=>by rw[hm0,Bt]))
 | succ k ih=>
  intro i s ks hk hi hst hS hl hm0 hR;have hlt:i<ts.length:=by omega
  refine A_ BW ?_;rw[AO Bj _];show wpAny _ A.in1 (pyNext (.ref I)>>=_) _ _ s;refine Aa (W.item i s _ _ hlt hst λv s' hP hst' hm=>?_);obtain⟨x,t,rfl,hx⟩:=hval i v hP;have hS':TxSet prog w s'.heap S ks:=hS.kept λo e=>hm.heap S _ hSw e;show wpAny _ A.in1 (holding [Value.str x t] (setAdd S (.str x t))>>=_) _ _ s';refine Aa (AE ?_);unfold setAdd;refine AE ?_;refine Aa ((strKind prog w).pyHash (k:=x) (LZ x t) ?_);refine UA (s:={s' with toks:=s'.toks+1}) hS' (by omega) λh' ks' hsb hS2 hl2 hm2 b=>?_
  refine Ac ⟨BI Bj _,ih (i+1) _ ks' (by omega) hlt (W.frame _ s' _ _ hst' (C9 _) λb hb o e=>?_) hS2 (by omega) (λy=>?_) λs'' k2 hm'' hS''=>?_⟩
  · rw[hsb.2 b (λh:b=S=>hSf (by rw[←h];exact hb))];exact e
  · rw[hm2,hm0,BY,hx];simp
  · refine hR s'' k2 (Moved.trans W.gtrans ((hm.mono hsub).then_heap (C9 _) λb o hb e=>?_) hm'') hS'';rw[hsb.2 b (λh:b=S=>hb (by rw[h];exact Ar))];exact e
end
theorem RK(a:Value){Q₁:Value→Shared→Prop}
 (h:Q₁ (.ref s.heap.objs.size) {s with heap:=s.heap.push {cls:= .type "set",dict:=none,data:= .set #[] 0 (.fresh 0 0 (!Hn w))}}):
 codeAny (model prog w) A (.call (.builtin "set.__new__") ⟨[.type "set",a],[]⟩) (wants Q₁ E) s:=by
 refine Dl ?_;show wpAny _ A.in1 (do checkBuiltinCall "set.__new__" ⟨[.type "set",a],[]⟩;again (.builtin "set.__new__" ⟨[.type "set",a],[]⟩)) _ _ s
 refine Aa (Ec (PySem.F.newCall_set_1 a) (Ac ⟨BI Ft _,A_ PySem.F.entry_set_new ?_⟩));rw[AO Ft _];unfold Builtin.«set.__new__» Builtin.Frozenset.newClass;have hsub:=sub_set_self;obtain⟨hp,g,d,tk,os⟩:=s;dsimp only
 wp_walk
 refine Dc (Ac ?_);dsimp only;simp only[newObj];refine Aa (wpAny_alloc (Ac ?_));exact Ac h
theorem VO(e:h.get? a=some {cls:= .type "set",dict:=none,data:= .set #[] 0 (.fresh 0 0 (!Hn w))}):TxSet prog w h a []:=
 ⟨⟨#[],0,_,e,λe he=>by simp at he,.nil,rfl,rfl,.inl rfl⟩,Fu,by decide⟩
set_option maxHeartbeats 3200000 in
theorem X0{l:Addr}{items:Array Value}{ts:List Str}{Q:Value→Shared→Prop}
 (hh:A.handled=none) (hl:s.heap.IsList l items) (hi:StrsAre items.toList ts) (hb:ts.length+1<Dt)
 (h:∀(h':Heap)(tk:Nat)(ks:List Str),TxSet prog w h' s.heap.objs.size ks→ks.length≤ts.length→(∀x,x∈ks↔x∈ts)→
  (∀b o,b<s.heap.objs.size→s.heap.get? b=some o→h'.get? b=some o)→Q (.ref s.heap.objs.size) {s with heap:=h',toks:=tk}):
 wpAny (model prog w) A (call (.type "set") [.ref l]) Q E s:=by
 have hsz:items.size=ts.length:=by rw[←Aj];exact Lm hi
 obtain⟨c,tl,hmro⟩:=AL.mro;have hmade:=AL.made;have hsub:=AL.sub;refine EC (Dl ?_);show wpAny _ _ (callAny (.type "set") _) _ _ _;refine Ac ⟨Code.quiet_builtin _ (by decide+kernel),A_ ET ?_⟩;rw[Around.under_plain (weight_type_call_type "set" [.ref l] []) rfl];have h1:=AL.notType;have h2:=AL.canCreate;have hct:=Fh (.ref l)
 repeat (any_goals (first | assumption | wp_step))
 refine Cd (RK (.ref l) (E:=E) (Q₁:=λobj s₁=>obj= .ref s.heap.objs.size∧s₁={s with heap:=s.heap.push {cls:= .type "set",dict:=none,data:= .set #[] 0 (.fresh 0 0 (!Hn w))}}) ⟨rfl,rfl⟩) λr s₁ hr=>?_
 cases r with
 | error e=>exact hr
 | ok fl=>
  cases fl with
  | ret obj=>
   obtain⟨rfl,rfl⟩:=hr;have hS:(s.heap.push {cls:= .type "set",dict:=none,data:= .set #[] 0 (.fresh 0 0 (!Hn w))}).get? s.heap.objs.size=some {cls:= .type "set",dict:=none,data:= .set #[] 0 (.fresh 0 0 (!Hn w))}:=Ai _ rfl;have hT:Ew {s with heap:=s.heap.push {cls:= .type "set",dict:=none,data:= .set #[] 0 (.fresh 0 0 (!Hn w))}} (.ref s.heap.objs.size) "set":=⟨_,hS,rfl⟩;have hli:=AL.init.lookup;have hbi:=AL.init.bind (.ref s.heap.objs.size)
   repeat (any_goals (first | assumption | wp_step))
   refine Cd (Dd (R:=wants (λr s₂=>r= .none∧∃h' tk ks,s₂={s with heap:=h',toks:=tk}∧TxSet prog w h' s.heap.objs.size ks∧ks.length≤ts.length∧(∀x,x∈ks↔x∈ts)∧
    (∀b o,b<s.heap.objs.size→s.heap.get? b=some o→h'.get? b=some o)) E) AL.init.plain Fi (check_set_init_1 hT ?_)) λr₂ s₂ hr₂=>?_
   · obtain⟨ol,hol,hcl,nl,hdl⟩:=hl;obtain⟨ocls,odict,odata,oslots⟩:=ol;simp only at hcl hdl;subst hcl;subst hdl;have hol':(s.heap.push {cls:= .type "set",dict:=none,data:= .set #[] 0 (.fresh 0 0 (!Hn w))}).get? l=some {cls:= .type "list",dict:=odict,data:= .seq items nl,slots:=oslots}:=Ad _ hol;have hsls:=F9;have hslf:=Ex;have hne:(Value.type "list"==Value.type "dict")=false:=by decide
     have hl1:(s.heap.push {cls:= .type "set",dict:=none,data:= .set #[] 0 (.fresh 0 0 (!Hn w))}).IsList l items:=⟨_,hol',rfl,nl,rfl⟩;unfold Builtin.«set.__init__» noKeywords Ea;generalize hPI:pyIter=PI
     wp_walk
     subst hPI;refine CO hl1 ?_;refine Aa (Fv ?_);have hlS:l<s.heap.objs.size:=Ag hol;have hh3:A.in1.in1.in1.handled=none:=by simp[hh]
     have hneI:l≠(s.heap.push {cls:= .type "set",dict:=none,data:= .set #[] 0 (.fresh 0 0 (!Hn w))}).objs.size:=by rw[AJ];exact Al (CS hlS)
     have hSf:s.heap.objs.size ∉ [(s.heap.push {cls:= .type "set",dict:=none,data:= .set #[] 0 (.fresh 0 0 (!Hn w))}).objs.size,l]:=by rw[AJ];simp only[Ax,Aw,AD,or_false,not_or];exact⟨Al (BH _),Cc hlS⟩
     have hval:∀(i:Nat)(v:Value),items[i]?=some v→∃x t,v= .str x t∧ts[i]?=some x:=λi v hv=> Qx hi i v (by rw[AI];exact hv);have W:=(Walks.list (prog:=prog) (w:=w) hh3 (s.heap.push {cls:= .type "set",dict:=none,data:= .set #[] 0 (.fresh 0 0 (!Hn w))}).objs.size l hneI items).toS;rw[hsz] at W;refine VU ts W s.heap.objs.size hSf hval hb (ts.length - 0) 0 _ [] (by omega) (Br _)
      ⟨⟨_,Ai _ rfl,rfl,rfl⟩,(hl1.push _)⟩ (VO (Ad _ hS)) (Ae _) (λx=>by simp) ?hR
     case hR=>
      intro s' ks hm hS' hlk hmk;obtain⟨h',g',d',tk',os'⟩:=s';have eg:g'=s.gens:=hm.gens;have ed:d'=s.drawn:=hm.drawn;have eo:os'=s.os:=hm.os;subst eg;subst ed;subst eo;show wpAny _ _ _ _ _ _;refine Ac ?_;show wpAny _ _ (ret Value.none) _ _ _;refine Ac ⟨rfl,h',tk',ks,rfl,hS',hlk,hmk,λb o hb e=>?_⟩;have hb1:b≠s.heap.objs.size:=Al hb;have hb2:b≠(s.heap.push {cls:= .type "set",dict:=none,data:= .set #[] 0 (.fresh 0 0 (!Hn w))}).objs.size:=by rw[AJ];exact Al (CS hb)
      exact hm.heap b o (by simp only[Ax,Aw,AD,or_false,not_or];exact⟨hb1,hb2⟩) (Ad _ (Ad _ e))
   · cases r₂ with
     | error e=>exact hr₂
     | ok fl₂=>
      cases fl₂ with
      | ret r=>
       obtain⟨rfl,h',tk,ks,rfl,hS',hlk,hmk,hk'⟩:=hr₂
       repeat (any_goals (first | assumption | wp_step))
       exact h _ _ ks hS' hlk hmk hk'
      | _=>exact hr₂.elim
  | _=>exact hr.elim
theorem WD{M:Model}{A:BB}{E:Value→Shared→Prop}{src:Source}{Q:Nat→Shared→Prop}(hn:0<n)(h:∀i d',i<n→Q i {s with drawn:=d'}):
 wpAny M A (choose src n) Q E s:=λΓ p hΓ=>by
 show Sem.wp M Γ (.choose src n .pure) _ _ p s;rw[Sem.wp_choose];exact⟨by omega,h _ _ (CM _ hn)⟩
theorem Nz{α:Type}:∀{l:List α}{i:Nat}{x:α},l[i]?=some x→(x::l.eraseIdx i).Perm l
 | [],i,x,h=>by simp at h
 | y::l,0,x,h=>by simp at h;subst h;exact .refl _
 | y::l,i+1,x,h=>by rw[Dw] at h;rw[List.eraseIdx_cons_succ];exact(List.Perm.swap _ _ _).trans ((Nz h).cons _)
theorem QO{M:Model}{A:BB}{E:Value→Shared→Prop}{α:Type}:∀(n:Nat)(xs:List α)(s:Shared){Q:List α→Shared→Prop},xs.length≤n→(∀ys d',ys.Perm xs→Q ys {s with drawn:=d'})→
 wpAny M A (drawOrder n xs) Q E s
 | 0,xs,s,Q,hn,h=>by have:xs=[]:=CH.mp (Nat.le_zero.mp hn);subst this;exact Ac (h [] s.drawn (.refl _))
 | n+1,[],s,Q,hn,h=>Ac (h [] s.drawn (.refl _))
 | n+1,x::xs,s,Q,hn,h=>by
  show wpAny M A (choose .order (x::xs).length>>=_) Q E s;refine Aa (WD (by simp) λi d1 hi=>?_);have hx:(x::xs)[i]?=some (x::xs)[i]:=AB hi;rw[hx];show wpAny M A (drawOrder n ((x::xs).eraseIdx i)>>=_) Q E _;have hl:((x::xs).eraseIdx i).length≤n:=by rw[De,if_pos hi];simp at hn ⊢;omega
  refine Aa (QO n _ _ hl λys d2 hp=>Ac ?_);exact h _ d2 ((hp.cons _).trans (Nz hx))
theorem P_{α:Type}(next:Nat→Nat):∀(n k:Nat)(left:List α)(out:Array α),left.length≤n→((pickOrder.go next n k left out).toList).Perm (out.toList++left)
 | 0,k,left,out,h=>by have:left=[]:=CH.mp (Nat.le_zero.mp h);subst this;simp[pickOrder.go]
 | n+1,k,left,out,h=>by
  unfold pickOrder.go
  split
  · rename_i x hx;have hlt:next k%left.length<left.length:=(Am.mp hx).1
    refine(P_ next n (k+1) _ _ ?_).trans ?_
    · rw[De,if_pos hlt];omega
    · rw[D3,D0];exact List.Perm.append_left _ (Nz hx)
  · rename_i hx;cases left with
    | nil=>simp
    | cons y l=>
     have:next k%(y::l).length<(y::l).length:=CM _ (by simp)
     rw[AB this] at hx;cases hx
theorem Rb{α:Type}(next:Nat→Nat)(xs:Array α):((pickOrder next xs).toList).Perm xs.toList:=by
 have:=P_ next xs.size 0 xs.toList #[] (by simp)
 simpa [pickOrder] using this
theorem WT(a:Addr):setDrawn a=(do
 let(es,_,t) ←setState a
 let byText ←setsByText
 return !byText && (!t.plain && decide (es.size>1))):=rfl
theorem Mo(a:Addr)(slot given epochThen:Nat):setNext a slot given epochThen=(do
 let(es,epoch,t) ←setState a
 if ←setsByText then
  if epoch !=epochThen then unsupported "set_iterator.__next__:elements-changed"
  return ((←setWalk a)[given]?).map λe=>(e.2,slot)
 if(!t.plain && decide (es.size>1)) then unsupported "set_iterator.__next__:the-table-is-plain-no-more"
 (do if !t.led && !es.isEmpty then unsupported "set:maker-not-led":Sem Unit)
 let i:=AK t.place slot
 return match es[i]?,t.place[i]? with
  | some (_,x),some j=>some (x,j+1)
  | _,_=>none):=rfl
namespace FS
theorem entry_set_iter:entryFor table "set.__iter__"=some Builtin.«frozenset.__iter__»:=entryFor_alias (id':="frozenset.__iter__") (by kernel_rfl) rfl (by decide+kernel) (by kernel_rfl)
theorem slot_si_next:Slot "set_iterator" "__next__" "set_iterator.__next__":=
 .of (owner:="set_iterator") (n:="__next__") (by rw[typeLookup_type,builtinLookup_eq_fast];kernel_rfl) (by decide+kernel) (by decide+kernel) (by decide+kernel)
  (by first | exact .inl (by decide+kernel) | exact .inr (by decide+kernel)) (by rw[isSubtype_type];kernel_rfl)
theorem entry_si_next:entryFor table "set_iterator.__next__"=some Builtin.«set_iterator.__next__»:=EN (by kernel_rfl)
theorem args_si_next(a:Value):argsOk "set_iterator.__next__" ⟨[a],[]⟩:=by unfold argsOk;kernel_rfl
theorem slot_si_iter:Slot "set_iterator" "__iter__" "set_iterator.__iter__":=
 .of (owner:="set_iterator") (n:="__iter__") (by rw[typeLookup_type,builtinLookup_eq_fast];kernel_rfl) (by decide+kernel) (by decide+kernel) (by decide+kernel)
  (by first | exact .inl (by decide+kernel) | exact .inr (by decide+kernel)) (by rw[isSubtype_type];kernel_rfl)
theorem entry_si_iter:entryFor table "set_iterator.__iter__"=some Builtin.«dict_keyiterator.__iter__»:=
 entryFor_alias (id':="dict_keyiterator.__iter__") (by kernel_rfl) rfl (by decide+kernel) (by kernel_rfl)
theorem args_si_iter(a:Value):argsOk "set_iterator.__iter__" ⟨[a],[]⟩:=by unfold argsOk;kernel_rfl
end FS
abbrev Lj(h:Heap)(I a:Addr)(first:Value)(i n ep:Nat):Prop:=
 h.get? I=some {cls:= .type "set_iterator",dict:=none,data:= .fields #[first,.int i 0,.ref a,.int n 0,.int ep 0]}
inductive SOrd(w:World)(a:Addr)(es:Array (Int×Value))(ep:Nat)(t:A8):(Nat→Value)→List Value→List (Addr×Obj)→Prop
 | drawn (T:Addr) (places:List Nat) (h0:Hn w=false) (hp:places.Perm (AX es.size)) (h2:1<es.size):
  SOrd w a es ep t (λ_=> .ref T) (places.filterMap λp=>(es[p]?).map (·.2)) [(T,{cls:= .type "tuple",data:= .seq (places.map λ(i:Nat)=>rawInt i).toArray})]
 | text (h0:Hn w=true):SOrd w a es ep t (λ_=>rawInt 0) ((pickOrder (w.params.setOrder a ep) es).toList.map (·.2)) []
 | few (h0:Hn w=false) (h2:es.size≤1):SOrd w a es ep t (λi=>rawInt (if i=0 then 0 else t.place.getD 0 0+1)) (es.toList.map (·.2)) []
theorem UQ(es:Array (Int×Value)):((AX es.size).filterMap λp=>(es[p]?).map (·.2))=es.toList.map (·.2):=by have:=filterMap_getElem?_range es;rw[←this,Ei]
theorem SOrd.perm{es:Array (Int×Value)}{ep:Nat}{t:A8}{f:Nat→Value}{vs:List Value}{ob:List (Addr×Obj)}(h:SOrd w a es ep t f vs ob):vs.Perm (es.toList.map (·.2)):=by
 cases h with
 | drawn T places h0 hp h2=>rw[←UQ];exact hp.filterMap _
 | text h0=>exact(Rb _ _).map _
 | few h0 h2=>exact .refl _
theorem K4{Q:Bool→Shared→Prop}(h:Q (Hn w) s):wpAny (model prog w) A setsByText Q E s:=by unfold setsByText;exact Aa (Dc (Ac h))
theorem Vx{es:Array (Int×Value)}{ep:Nat}{t:A8}{Q:Value→Shared→Prop}(ho:s.heap.get? a=some {cls:= .type "set",dict:=none,data:= .set es ep t})
 (hf:t.fits es.size=true) (hp:es.size=0∨t.plain=false) (hz:es.size≤As)
 (hQ:∀h' d' I f vs ob,SOrd w a es ep t f vs ob→s.heap.objs.size≤I→Lj h' I a (f 0) 0 es.size ep→(∀p∈ob,h'.get? p.1=some p.2∧s.heap.objs.size≤p.1∧p.1≠I)→(∀b o,s.heap.get? b=some o→h'.get? b=some o)→
  I<h'.objs.size→(∀p∈ob,p.1<h'.objs.size)→Q (.ref I) {s with heap:=h',drawn:=d'}):
 wpAny (model prog w) A (pyIter (.ref a)) Q E s:=by
 have hT:s.TypeIs (.ref a) "set":=⟨_,ho,rfl⟩;refine wpAny_pyIter_slot hT Fw (AR Fw hT FS.entry_set_iter ?_ (PySem.F.args_set_iter_1 _));unfold Builtin.«frozenset.__iter__» Builtin.Frozenset.slot0 Builtin.Frozenset.sizeOf;refine Aa (Aa (m:=slotArgs _ _ _) (Ac (Ac ?_)));refine Aa (Aa (DW ho rfl hf (Ac ?_)));dsimp only;rw[WT];refine Aa (Aa (AW ho rfl hf (Aa (K4 (Ac ?_)))));by_cases hd:(!Hn w && (!t.plain && decide (es.size>1)))=true
 · rw[if_pos hd];have hd':Hn w=false∧1<es.size:=by
    simp only[AV,D2,decide_eq_true_eq] at hd;exact⟨hd.1,hd.2.2⟩
   refine Aa (QO _ _ _ (by simp) λys d' hy=>?_);refine Aa (wpAny_newTuple ?_ (by rw[Ab,hy.length_eq,Ca];exact hz));have ho2:(s.heap.push {cls:= .type "tuple",data:= .seq (ys.map λ(i:Nat)=>rawInt i).toArray}).get? a=some {cls:= .type "set",dict:=none,data:= .set es ep t}:=Ad _ ho;refine Aa (wpAny_setEpoch_of (s:={s with drawn:=d',heap:=s.heap.push {cls:= .type "tuple",data:= .seq (ys.map λ(i:Nat)=>rawInt i).toArray}}) ho2 rfl hf ?_)
   refine Aa (Bf (Ac ⟨_,rfl,"set_iterator",_,⟨_,Ai _ rfl,rfl⟩,FS.slot_si_next.lookup,?_⟩));refine hQ _ d' _ _ _ _ (.drawn s.heap.objs.size ys hd'.1 hy hd'.2) ?_ (Ai _ rfl) (λp hp=>?_) (λb o e=>Ad _ (Ad _ e)) ?_ (λp hp=>?_)
   · rw[AJ];exact C9 _
   · rw[Aw] at hp;subst hp;exact⟨Ad _ (Ai _ rfl),Ae _,by rw[AJ];exact Al (BH _)⟩
   · simp only[AJ];omega
   · rw[Aw] at hp;subst hp;show s.heap.objs.size<_;simp only[AJ];omega
 · rw[if_neg hd];refine Aa (Ac ?_);refine Aa (wpAny_setEpoch_of ho rfl hf ?_);refine Aa (Bf (Ac ⟨_,rfl,"set_iterator",_,⟨_,Ai _ rfl,rfl⟩,FS.slot_si_next.lookup,?_⟩));cases hb:Hn w with
   | true=> exact hQ _ s.drawn _ _ _ _ (.text hb) (Ae _) (Ai _ rfl) (λp hp=>nomatch hp) (λb o e=>Ad _ e) (by rw[AJ];exact BH _) (λp hp=>nomatch hp)
   | false=>
    refine hQ _ s.drawn _ _ _ _ (.few hb ?_) (Ae _) (Ai _ rfl) (λp hp=>nomatch hp) (λb o e=>Ad _ e) (by rw[AJ];exact BH _) (λp hp=>nomatch hp);rcases hp with h | h
    · omega
    · simp[hb,h] at hd;exact hd
def MA(w:World)(I a:Addr)(es:Array (Int×Value))(ep:Nat)(t:A8)(f:Nat→Value)(ob:List (Addr×Obj))(i:Nat)(h:Heap):Prop:=
 Lj h I a (f i) i es.size ep∧h.get? a=some {cls:= .type "set",dict:=none,data:= .set es ep t}∧∀p∈ob,h.get? p.1=some p.2
theorem Rm(p:Nat):AK #[p] 0=0∧AK #[p] (p+1)=1:=by
 constructor
 · simp[AK,D5]
 · simp[AK,D5]
theorem KU{I:Addr}{first x:Value}{ep k:Nat}(hi:Lj h I a first i n ep)(f:Array Value→Array Value):
 (h.update I (DD f)).get? I=some {cls:= .type "set_iterator",dict:=none,data:= .fields (f #[first,.int i 0,.ref a,.int n 0,.int ep 0])}:=by
 have:=Ci (DD f) hi rfl;exact this
set_option maxHeartbeats 1000000 in
theorem Vc{I a:Addr}{es:Array (Int×Value)}{ep:Nat}{t:A8}{f:Nat→Value}{vs:List Value}{ob:List (Addr×Obj)}{i:Nat}{v:Value}{Q:Option Value→Shared→Prop}
 (hO:SOrd w a es ep t f vs ob) (hf:t.fits es.size=true) (hl:t.led=!Hn w) (hne:a≠I) (hob:∀p∈ob,p.1≠I) (hS:MA w I a es ep t f ob i s.heap) (hv:vs[i]?=some v)
 (hQ:∀h',MA w I a es ep t f ob (i+1) h'→BS I s.heap h'→Q (some v) {s with heap:=h'}):
 wpAny (model prog w) A (pyNext (.ref I)) Q E s:=by
 obtain⟨hi,ha,hbs⟩:=hS;have hT:s.TypeIs (.ref I) "set_iterator":=⟨_,hi,rfl⟩;unfold pyNext;refine Aa (Eu (Bo (name:=Cw "__next__") hT FS.slot_si_next
  (AR FS.slot_si_next hT FS.entry_si_next ?_ (FS.args_si_next _))))
 unfold Builtin.«set_iterator.__next__»;refine Aa (m:=slotArgs _ _ _) (Ac ?_);dsimp only;refine Aa (wpAny_fieldsOf hi rfl ?_);dsimp only;refine Aa (DW ha rfl hf ?_);rw[if_neg (by simp)];have hil:i<vs.length:=(Am.mp hv).1;have fin:∀(first:Value)(h':Heap),BS I s.heap h'→Lj h' I a (f (i+1)) (i+1) es.size ep→Q (some v) {s with heap:=h'}:=λfirst h' sb hi'=> hQ h' ⟨hi',by rw[sb.2 a hne];exact ha,λp hp=>by rw[sb.2 p.1 (hob p hp)];exact hbs p hp⟩ sb
 cases hO with
 | drawn T places h0 hp h2=>
  dsimp only;have hTt:=hbs _ (Aw.mpr rfl);refine Aa (AT hTt rfl ?_);have hpl:places.length=es.size:=by rw[hp.length_eq,Ca]
  have hall:∀p∈places,p<es.size:=λp hm=>by simpa using hp.mem_iff.mp hm
  have hfm:∀(l:List Nat),(∀p∈l,p<es.size)→(l.filterMap λp=>(es[p]?).map (·.2))=l.map λp=>(es.getD p (0,.none)).2:=by
   intro l
   induction l with
   | nil=>intro _;rfl
   | cons q l ih=> intro hq;have hq0:q<es.size:=hq q (by simp);have h1:es[q]?=some es[q]:=AY hq0;rw[Dh,h1,Av,←ih λp hm=>hq p (by simp[hm])];simp[Array.getD,hq0]
  rw[hfm places hall,Ah] at hv;cases hpi:places[i]? with
  | none=>rw[hpi] at hv;cases hv
  | some pl=>
   rw[hpi] at hv;have hlt:pl<es.size:=hall pl (Aq hpi);have hvv:v=es[pl].2:=by have:(es.getD pl (0,.none)).2=v:=A7 hv;rw[←this];simp[Array.getD,hlt]
   have hpi':(places.map λ(i:Nat)=>rawInt i).toArray[i]?=some (.int pl 0):=by rw[Fx,Ah,hpi];rfl
   show wpAny _ _ (match(places.map λ(i:Nat)=>rawInt i).toArray[(i:Int).toNat]? with | some (.int place _)=>_ | some _=>_ | none=>_) _ _ _
   rw[Ba,hpi'];dsimp only;unfold setNextDrawn;refine Aa (Aa (AW ha rfl hf ?_));dsimp only;rw[if_neg (by simp)];rw[Ba,AY hlt];dsimp only;refine Ac ?_;refine Aa (BM hi rfl (by simp) ?_);refine Ac ⟨_,rfl,Ac ?_⟩;rw[←hvv];exact fin v _ (AN ..) (KU (x:=v) (k:=0) hi _)
 | text h0=>
  show wpAny _ _ (setNext a 0 (i:Int).toNat (ep:Int).toNat>>=_) _ _ _;rw[Mo,Ba,Ba];refine Aa (Aa (AW ha rfl hf (Aa (K4 ?_))));rw[if_pos h0];dsimp only;rw[if_neg (by simp)];unfold setWalk;refine Aa (Aa (AW ha rfl hf (Aa (K4 ?_))));rw[if_pos h0];refine Aa (Dc (Ac (Ac ?_)));rw[Ah,AI] at hv;cases hpk:(pickOrder (w.params.setOrder a ep) es)[i]? with
  | none=>rw[hpk] at hv;cases hv
  | some e=>
   rw[hpk] at hv;show wpAny _ _ (match((pickOrder (w.params.setOrder a ep) es)[i]?).map λe=>(e.2,0) with | some (x,next)=>_ | none=>_) _ _ _
   rw[hpk];have hvv:e.2=v:=A7 hv;dsimp only[Option.map];refine Aa (BM hi rfl (by simp) ?_);have hi1:=KU (x:=v) (k:=0) hi (·.setIfInBounds 0 (rawInt (0:Nat)));refine Aa (BM (s:={s with heap:=s.heap.update I (DD (·.setIfInBounds 0 (rawInt (0:Nat))))}) hi1 rfl (by simp) ?_)
   refine Ac ⟨_,rfl,Ac ?_⟩;rw[hvv];refine fin v _ ((AN ..).trans (AN ..)) ?_;exact KU (x:=v) (k:=0) (i:=i) (first:=rawInt 0) (n:=es.size) (ep:=ep) (a:=a) (by exact hi1) _
 | few h0 h2=>
  have hi0:i=0:=by rw[Ab,Aj] at hil;omega
  subst hi0;have hsz:es.size=1:=by rw[Ab,Aj] at hil;omega
  show wpAny _ _ (setNext a 0 (0:Int).toNat (ep:Int).toNat>>=_) _ _ _;rw[Mo,Ba];refine Aa (Aa (AW ha rfl hf (Aa (K4 ?_))));rw[if_neg (by rw[h0];simp)];dsimp only;rw[if_neg (by simp[hsz])];rw[hl,h0];refine Aa (m:=ite _ _ _) ?_;rw[if_neg (by simp)];refine Ac ?_;obtain⟨p,hpp⟩:∃p,t.place=#[p]:=by
   have h1:t.place.size=1:=by simp only[Ey,AV,beq_iff_eq] at hf;rw[hf.1,hsz]
   generalize t.place=tp at h1;obtain⟨pl⟩:=tp;cases pl with
   | nil=>simp at h1
   | cons p r=>cases r with
    | nil=>exact⟨p,rfl⟩
    | cons q r=>simp at h1
  obtain⟨⟨eh,ev⟩,hes⟩:∃e,es=#[e]:=by
   obtain⟨el⟩:=es;cases el with
   | nil=>simp at hsz
   | cons p r=>cases r with
    | nil=>exact⟨p,rfl⟩
    | cons q r=>simp at hsz
  subst hes;have hvv:ev=v:=by simpa using hv
  subst hvv;rw[hpp,(Rm p).1];refine Ac ?_;show wpAny _ _ (setField (.ref I) 0 (rawInt ((p+1:Nat):Int))>>=_) _ _ _;refine Aa (BM hi rfl (by simp) ?_);have hi1:=KU (x:=ev) (k:=0) hi (·.setIfInBounds 0 (rawInt ((p+1:Nat):Int)));refine Aa (BM (s:={s with heap:=s.heap.update I (DD (·.setIfInBounds 0 (rawInt ((p+1:Nat):Int))))}) hi1 rfl (by simp) ?_)
  refine Ac ⟨_,rfl,Ac ?_⟩;refine fin ev _ ((AN ..).trans (AN ..)) ?_;have:=KU (x:=ev) (k:=0) (i:=0) (first:=rawInt ((p+1:Nat):Int)) (n:=1) (ep:=ep) (a:=a) (by exact hi1) (·.setIfInBounds 1 (rawInt ((0:Nat)+1:Int)))
  rw[hpp];exact this
theorem Nk{h1:Heap}{I:Addr}{P:Fin→Shared→Prop}{Q:Option Value→Shared→Prop}(hh:A.handled=none)(sb:BS I s.heap h1)(hQ:∀h',Heap.ExtBut I s.heap h'→Q none {s with heap:=h'}):
 wpAny (model prog w) A.in1 (newExc (.type "StopIteration") []>>=λx=>raiseNew x) P
  (λe s'=>wpAny (model prog w) A (do if ←isInstance e (.type "StopIteration") then pure none else throw e) Q E s') {s with heap:=h1}:=by
 refine Aa ?_;simp only[newExc,newTuple];refine Aa (Bf ?_ (by size_fits));refine Aa (m:=firstArgMember _ _) (Ec (a:=Value.none) (by first | rfl | (simp only[firstArgMember];rfl)) ?_)
 refine Bf ?_ (by size_fits);simp only[raiseNew];refine Aa (wpAny_handled ?_);rw[show A.in1.handled=none from hh];refine Aa (Ac (wpAny_throw ?_));refine Aa (Cu (T:="StopIteration") (b:=true) ⟨_,Ai _ rfl,rfl⟩ isSubtype_stop ?_);exact Ac (hQ _ ((sb.extBut.push _).push _))
set_option maxHeartbeats 1000000 in
theorem UP{I a:Addr}{es:Array (Int×Value)}{ep:Nat}{t:A8}{f:Nat→Value}{vs:List Value}{ob:List (Addr×Obj)}{Q:Option Value→Shared→Prop}(hh:A.handled=none)
 (hO:SOrd w a es ep t f vs ob) (hf:t.fits es.size=true) (hl:t.led=!Hn w) (hne:a≠I) (hob:∀p∈ob,p.1≠I) (hS:MA w I a es ep t f ob es.size s.heap)
 (hQ:∀h',Heap.ExtBut I s.heap h'→Q none {s with heap:=h'}):
 wpAny (model prog w) A (pyNext (.ref I)) Q E s:=by
 obtain⟨hi,ha,hbs⟩:=hS;have hT:s.TypeIs (.ref I) "set_iterator":=⟨_,hi,rfl⟩;unfold pyNext;refine Aa (Eu (Bo (name:=Cw "__next__") hT FS.slot_si_next
  (AR FS.slot_si_next hT FS.entry_si_next ?_ (FS.args_si_next _))))
 unfold Builtin.«set_iterator.__next__»;refine Aa (m:=slotArgs _ _ _) (Ac ?_);dsimp only;refine Aa (wpAny_fieldsOf hi rfl ?_);dsimp only;refine Aa (DW ha rfl hf ?_);rw[if_neg (by simp)];cases hO with
 | drawn T places h0 hp h2=>
  dsimp only;have hTt:=hbs _ (Aw.mpr rfl);refine Aa (AT hTt rfl ?_);have hpl:places.length=es.size:=by rw[hp.length_eq,Ca]
  have hpi':(places.map λ(i:Nat)=>rawInt i).toArray[es.size]?=none:=by rw[Fx,Ah,CY (by omega)];rfl
  show wpAny _ _ (match(places.map λ(i:Nat)=>rawInt i).toArray[(es.size:Int).toNat]? with | some (.int place _)=>_ | some _=>_ | none=>_) _ _ _
  rw[Ba,hpi'];dsimp only;refine Aa (BM hi rfl (by simp) ?_);have hi1:=KU (x:= .none) (k:=0) hi (·.setIfInBounds 0 (rawInt 0));refine Aa (BM (s:={s with heap:=s.heap.update I (DD (·.setIfInBounds 0 (rawInt 0)))}) hi1 rfl (by simp) ?_)
  exact Nk (s:=s) (I:=I) hh ((AN ..).trans (AN ..)) hQ
 | text h0=>
  show wpAny _ _ (setNext a 0 (es.size:Int).toNat (ep:Int).toNat>>=_) _ _ _;rw[Mo,Ba,Ba];refine Aa (Aa (AW ha rfl hf (Aa (K4 ?_))));rw[if_pos h0];dsimp only;rw[if_neg (by simp)];unfold setWalk;refine Aa (Aa (AW ha rfl hf (Aa (K4 ?_))));rw[if_pos h0];refine Aa (Dc (Ac (Ac ?_)));have hpk:(pickOrder (w.params.setOrder a ep) es)[es.size]?=none:=by have h1:=(Rb (w.params.setOrder a ep) es).length_eq;rw[Aj,Aj] at h1;exact DA (by omega)
  show wpAny _ _ (match((pickOrder (w.params.setOrder a ep) es)[es.size]?).map λe=>(e.2,0) with | some (x,next)=>_ | none=>_) _ _ _
  rw[hpk];dsimp only[Option.map];refine Aa (BM hi rfl (by simp) ?_);exact Nk (s:=s) (I:=I) hh (AN ..) hQ
 | few h0 h2=>
  show wpAny _ _ (setNext a (if es.size=0 then(0:Int) else(t.place.getD 0 0:Int)+1).toNat (es.size:Int).toNat (ep:Int).toNat>>=_) _ _ _
  rw[Mo,Ba];refine Aa (Aa (AW ha rfl hf (Aa (K4 ?_))));rw[if_neg (by rw[h0];simp)];dsimp only;rw[if_neg (by simp;intro _;omega)];rw[hl,h0];refine Aa (m:=ite _ _ _) ?_;rw[if_neg (by simp)];refine Ac ?_;have hps:t.place.size=es.size:=by simp only[Ey,AV,beq_iff_eq] at hf;exact hf.1
  have hnone:es[AK t.place (if es.size=0 then(0:Int) else(t.place.getD 0 0:Int)+1).toNat]?=none:=by
   generalize t.place=tp at hps;obtain⟨pl⟩:=tp;cases pl with
   | nil=>
    have:es.size=0:=by simpa using hps.symm
    exact DA (by omega)
   | cons p r=>
    cases r with
    | nil=>
     have h1:es.size=1:=by simpa using hps.symm
     rw[if_neg (by omega)];have:((([p].toArray).getD 0 0:Nat):Int)+1=((p+1:Nat):Int):=rfl;rw[this,Ba,(Rm p).2];exact DA (by omega)
    | cons q r=>
     have:es.size=r.length+2:=by simpa using hps.symm
     omega
  rw[hnone];refine Ac ?_;show wpAny _ _ (setField (.ref I) 2 .none>>=_) _ _ _;refine Aa (BM hi rfl (by simp) ?_);exact Nk (s:=s) (I:=I) hh (AN ..) hQ
theorem Wo{I:Addr}{first:Value}{ep:Nat}{Q:Value→Shared→Prop}(hi:Lj s.heap I a first i n ep)(h:Q (.ref I) s):wpAny (model prog w) A (pyIter (.ref I)) Q E s:=by have hT:s.TypeIs (.ref I) "set_iterator":=⟨_,hi,rfl⟩;refine wpAny_pyIter_slot hT FS.slot_si_iter (AR FS.slot_si_iter hT FS.entry_si_iter ?_ (FS.args_si_iter _));show wpAny _ _ (ret (.ref I)) _ _ s;exact Ac ⟨_,rfl,"set_iterator",_,hT,FS.slot_si_next.lookup,h⟩
theorem VR{prog:Bb}{w:World}{I a:Addr}{es:Array (Int×Value)}{ep:Nat}{t:A8}{f:Nat→Value}{vs:List Value}{ob:List (Addr×Obj)}(hh:A.handled=none)
 (hO:SOrd w a es ep t f vs ob) (hf:t.fits es.size=true) (hl:t.led=!Hn w) (hne:a≠I) (hob:∀p∈ob,p.1≠I):
 Walks prog w A I (I::a::ob.map (·.1)) [I] es.size (λi v=>vs[i]?=some v) (MA w I a es ep t f ob) where
 sub:=λb hb=>by simp at hb;simp[hb]
 frame:=λi h h' st hk=>⟨hk I (by simp) _ st.1,hk a (by simp) _ st.2.1,λp hp=>hk p.1 (by simp;exact .inr (.inr ⟨p.2,hp⟩)) _ (st.2.2 p hp)⟩
 item:=λi s Q E hi st hQ=>by
  have hlen:vs.length=es.size:=by rw[hO.perm.length_eq,Ab,Aj]
  refine Vc hO hf hl hne hob st (v:=vs[i]'(by omega)) (AB (by omega)) λh' st' sb=>?_;exact hQ _ h' s.toks (AB (by omega)) st' λb o hb e=>sb.extBut b o (λh=>hb (by simp[h])) e
 done:=λs Q E st hQ=>UP hh hO hf hl hne hob st λh' he'=>hQ h' s.toks λb o hb e=>he' b o (λh=>hb (by simp[h])) e
 self:=λ_ _ _ _ st hQ=>Wo st.1 hQ
namespace FS
theorem set_len:typeLookup (.type "set") "__len__"=pure (some (.builtin "set.__len__")):=by rw[typeLookup_type,builtinLookup_eq_fast];kernel_rfl
theorem split_set_len:splitId "set.__len__"=some ("set","__len__"):=by decide+kernel
end FS
theorem Vt{Q:Bool→Shared→Prop}(hT:s.TypeIs (.ref a) "set")(h:Q false s):wpAny (model prog w) A (Ej (.ref a)) Q E s:=by
 unfold Ej;refine Aa (BF hT FS.set_len ?_);dsimp only;generalize OO:("set.__len__":String)=id0;rw[show splitId id0=some ("set","__len__") from by subst OO;exact FS.split_set_len]
 subst OO;dsimp only;refine Aa (Cu (b:=true) hT sub_set_self ?_);simp only[BJ,A3,if_false];refine Aa (Ce hT (Ac h))
set_option maxHeartbeats 1000000 in
theorem WZ{ks:List Str}{Q:List Value→Shared→Prop}(hh:A.handled=none)(T:TxSet prog w s.heap a ks)
 (hQ:∀h' d' tk vs js,StrsAre vs js→js.Perm ks→s.heap.objs.size<h'.objs.size→(∀b o,s.heap.get? b=some o→h'.get? b=some o)→Q vs {s with heap:=h',drawn:=d',toks:=tk}):
 wpAny (model prog w) A (collect (.ref a)) Q E s:=by
 obtain⟨⟨es,ep,t,ho,hel,hks,hf,hled,hpl⟩,hnd,hfew⟩:=T;have hsz:es.size=ks.length:=by rw[←Lm hks,Ab,Aj]
 have haS:a<s.heap.objs.size:=Ag ho;unfold collect;refine Aa (Fv (A_ PySem.F.entry_proto_collect ?_));rw[AO PySem.F.plain_proto_collect _];show wpAny _ A.in1 (newList []>>=λl=>again (.builtin "list.__iadd__" ⟨[l,.ref a],[]⟩)) _ _ s;refine Aa (Bf ?_);refine Ac ⟨BI EU _,A_ PySem.F.entry_list_iadd ?_⟩;rw[AO EU _];generalize hh1:s.heap.push {cls:= .type "list",data:= .seq ([]:List Value).toArray}=h1;have hk1:∀b o,s.heap.get? b=some o→h1.get? b=some o:=λb o e=>by rw[←hh1];exact Ad _ e
 have hS1:h1.get? s.heap.objs.size=some {cls:= .type "list",data:= .seq ([]:List Value).toArray}:=by rw[←hh1];exact Ai _ rfl
 have hz1:s.heap.objs.size<h1.objs.size:=Ag hS1;show wpAny _ A.in1 (Ek (.ref s.heap.objs.size) (.ref a) (.ref s.heap.objs.size)) _ _ {s with heap:=h1}
 unfold Ek;have hT1:Ew {s with heap:=h1} (.ref a) "set":=⟨_,hk1 _ _ ho,rfl⟩
 refine Aa (Ce hT1 ?_);have e1:CB (.ref s.heap.objs.size) (.ref a)=false:=by unfold CB;exact beq_eq_false_iff_ne.mpr (Ch (Al haS))
 rw[if_neg (by rw[e1];decide)];refine Aa (Vx (s:={s with heap:=h1}) (hk1 _ _ ho) hf hpl (by rw[hsz];exact fits_of_scanBound hfew) λh2 d2 I f vs ob hO hI hi hob hk2 hI2 hob2=>?_)
 refine Aa (AE (Vt (s:={s with heap:=h2,drawn:=d2}) ⟨_,hk2 _ _ (hk1 _ _ ho),rfl⟩ ?_))
 rw[if_pos (by decide)];refine Aa (BX ?_);have hS2:h2.get? s.heap.objs.size=some {cls:= .type "list",data:= .seq ([]:List Value).toArray}:=hk2 _ _ hS1;refine Aa ?_;show wpAny _ A.in1 (updateSeq s.heap.objs.size (·.push .none)>>=λ_=>updateSeq s.heap.objs.size (·.pop)) _ _ {s with heap:=h2,drawn:=d2}
 refine Aa (EZ hS2 rfl ?_);have hS3:=Ci (C6 (·.push Value.none)) hS2 rfl;refine EZ hS3 rfl ?_;have hS4:=Ci (C6 (·.pop)) hS3 rfl;have oth:∀b o,b≠s.heap.objs.size→h2.get? b=some o→((h2.update s.heap.objs.size (C6 (·.push Value.none))).update s.heap.objs.size (C6 (·.pop))).get? b=some o:=
  λb o hb e=>(CN _ _ (Ch hb)).trans ((CN _ _ (Ch hb)).trans e)
 have hIne:I≠s.heap.objs.size:=Ch (Al (Ay hz1 hI));have hane:a≠I:=Al (Ay haS (AF (Bd hz1) hI));have hobne:∀p∈ob,p.1≠s.heap.objs.size:=λp hp=>Ch (Al (Ay hz1 (hob p hp).2.1));have W:=(VR (prog:=prog) (A:=A.in1) (by simpa using hh) hO hf hled hane (λp hp=>(hob p hp).2.2)).toS;have hlen:vs.length=es.size:=by rw[hO.perm.length_eq,Ab,Aj]
 obtain⟨js,hjs,hjp⟩:=Oh hO.perm hks;refine Ac ⟨BI PySem.F.plain_extend_loop _,codeAny_extend_loopS W (by rw[hsz];exact fits_of_scanBound hfew) s.heap.objs.size ?_ _ es.size 0 _ _ _ rfl (Br _)
  ⟨oth _ _ hIne hi,oth _ _ (Al haS) (hk2 _ _ (hk1 _ _ ho)),λp hp=>oth _ _ (hobne p hp) (hob p hp).1⟩ hS4 (ItemsOf.nil _) λs' acc' c' hm hS' hacc=>?_⟩
 · intro hmem;rw[Ax,Ax,List.mem_map] at hmem;rcases hmem with h | h | ⟨p,hp,h⟩
   · exact hIne h.symm
   · exact Al haS h.symm
   · exact hobne p hp h
 · show wpAny _ A (load s.heap.objs.size>>=_) _ _ s';refine Aa (wpAny_load hS' ?_);have hav:acc'.toList=vs:=by
    apply List.ext_getElem?;intro j;by_cases hj:j<es.size
    · have hj':j<acc'.size:=by rw[hacc.1];exact hj
      have h1:acc'.toList[j]?=some acc'[j]:=by rw[AI];exact AY hj'
      rw[h1];exact(hacc.2 j _ (AY hj')).symm
    · rw[CY (by rw[Aj,hacc.1];omega),CY (by omega)]
   obtain⟨h',g',d',tk',os'⟩:=s';have eg:g'=s.gens:=hm.gens;have ed:d'=d2:=hm.drawn;have eo:os'=s.os:=hm.os;subst eg;subst ed;subst eo;refine Ac ?_;rw[hav];refine hQ h' d' tk' vs js hjs hjp (Ag hS') λb o e=>?_;have hb:b<s.heap.objs.size:=Ag e;refine hm.heap b o ?_ (oth b o (Al hb) (hk2 _ _ (hk1 _ _ e)));have h0:h1.objs.size≤I:=hI;simp only[Ax,AD,or_false,not_or];exact⟨Al hb,Al (Ay hb (AF (Bd hz1) hI))⟩
theorem WU{ks:List Str}{Q:Value→Shared→Prop}(hh:A.handled=none)(T:TxSet prog w s.heap a ks)(h64:ks.length<64)
 (h:∀(p:Addr)(h':Heap)(d':Drawn)(tk:Nat)(out:Array Value)(ms:List Str)(e:Nat),StrsAre out.toList ms→ms.Perm ks→sortedS ms=true→s.heap.objs.size≤p→h'.get? p=some (seqObj "list" out e)→
  (∀b o,s.heap.get? b=some o→h'.get? b=some o)→Q (.ref p) {s with heap:=h',drawn:=d',toks:=tk}):
 wpAny (model prog w) A (call (.builtin "sorted") [.ref a]) Q E s:=by
 refine Calls.call_function_entry kind_sorted plain_sorted entry_sorted (args_sorted1 _) ?_;unfold Builtin.«sorted»;refine Aa (m:=checkCount "sorted" 1 1 _) (Ac ?_);refine Aa (WZ (by simpa using hh) T λh1 d1 tk1 vs js hv hp hz hk=>?_);have hvl:vs.length=ks.length:=by rw[Lm hv,hp.length_eq]
 refine Aa (wpAny_newList ?_ (by rw[sizeLine_eq];omega));have hoL:(h1.push (seqObj "list" vs.toArray 0)).get? h1.objs.size=some (seqObj "list" vs.toArray 0):=Ai _ rfl;show wpAny _ _ (holding _ _>>=_) _ _ {s with heap:=h1.push (seqObj "list" vs.toArray 0),drawn:=d1,toks:=tk1}
 refine Aa (AE (AR slot_list_sort ⟨_,hoL,rfl⟩ entry_list_sort (list_sort_treeK strKind_oneLt hoL hv.keysOf (λv₁ v₂ rest e=>keyKind_strs (by rw[←e];exact hv)) (by omega) λst' a1 a2=>⟨_,rfl,?_⟩) (args_list_sort _)));obtain⟨ms,m1,m2,m3⟩:=sorted_out_str hv a1 a2;obtain⟨e,he⟩:=sortedHeap_at (out:=(arrOf st').map (·.2)) hoL;refine Ac ⟨_,rfl,h h1.objs.size _ d1 tk1 _ ms e m1 (m2.trans hp) m3 (Bd hz) he λb o eb=>?_⟩
 · have hb:b<h1.objs.size:=Ag (hk b o eb);rw[sortedHeap_old (Al hb) (by rw[size_push'];exact CS hb)];exact Ad _ (hk b o eb)
section
variable{te:TE}{p2 p3 p4:Pos}
def U9(K:Af)(te:TE):TE:=λσ H Q=>te σ H λx H1=>∃(a:Addr)(ts:List Str),[x]=[V.ref a]∧SqL K H1 a (ts.map V.str)∧ts.length<64∧
 ∀(p:Addr)(ms:List Str),ms.Nodup→(∀x,x∈ms↔x∈ts)→ms.length≤ts.length→sortedS ms=true→H1 p=none→Q (.ref p) (GY H1 p (.lst (ms.map V.str)))
theorem VD(hc:X.calm=true)(he:PE X e te)(hg:Gl X "sorted")(hm:X.mg "sorted"=none)(hg2:Gl X "set")(hm2:X.mg "set"=none)
 (h1:Az [e] X.env=(false,eval e X.env)::Az [] X.env:=by rfl)
 (h2:Az [.Call (.Name "set" p2) [e] [] p3] X.env=(false,eval (.Call (.Name "set" p2) [e] [] p3) X.env)::Az [] X.env:=by rfl)
 (h3:(backTo p3 (Az [] X.env)).any (·.1)=false:=by rfl) (h4:(backTo pos (Az [] X.env)).any (·.1)=false:=by rfl):
 PE X (.Call (.Name "sorted" p4) [.Call (.Name "set" p2) [e] [] p3] [] pos) (U9 X.K te):=by
 intro pins s σ H Q I h;refine Bi (IY I hg hm Mp ?_ (by decide) (by decide));refine Co ?_ h2 h4;rw[h2];show wpAny _ _ (spliced ((false,eval (.Call (.Name "set" p2) [e] [] p3) X.env)::backTo pos (Az [] X.env))) _ _ s;refine CJ ?_;refine Bi (IY I hg2 hm2 Po ?_ (by decide) (by decide));refine Bh (He (GW he GX h1 p3 pins s σ H (λvs H1=>∃(a:Addr)(ts:List Str),vs=[.ref a]∧SqL X.K H1 a (ts.map V.str)∧ts.length<64∧
  ∀(p:Addr)(ms:List Str),ms.Nodup→(∀x,x∈ms↔x∈ts)→ms.length≤ts.length→sortedS ms=true→H1 p=none→Q (.ref p) (GY H1 p (.lst (ms.map V.str)))) I ?_) λus s1 ⟨vs,H1,I1,r1,a,ts,hv,hq,hn,q⟩=>?_) h1 h3
 · exact h
 subst hv;obtain⟨u1,rfl,v1⟩:=IW r1;cases v1;obtain⟨its,rv,ht,hz⟩:=I1.list hq;refine X0 (I1.ok.hd hc) ht.isList (ts:=ts) (by simpa using NS rv) (by unfold Dt;omega) λh' tk ks hT hl hmem kp=>?_;have I2:Inv X pins σ H1 {s1 with heap:=h',toks:=tk}:=I1.kept λb o e=>kp b o (Ag e) e
 refine CQ ?_;refine WU (s:={s1 with heap:=h',toks:=tk}) (I1.ok.hd hc) hT (by omega) λp h2 d2 tk2 out ms ee a1 a2 a3 a4 a5 a6=>?_
 have hn1:H1 p=none:=I2.hok.fresh a4;have I3:Inv X pins σ H1 {s1 with heap:=h',drawn:=d2,toks:=tk}:=⟨I2.ok,I2.os,I2.bare,I2.base,I2.loc,I2.cell,I2.free,I2.freeC,I2.pin,I2.hok,I2.len⟩
 refine⟨.ref p,GY H1 p (.lst (ms.map V.str)),I3.laid (t':=tk2) a6 a4 ?_,rfl,q p ms (a2.nodup_iff.mpr hT.nodup) (λx=>(a2.mem_iff).trans (hmem x)) (by rw[a2.length_eq];exact hl) a3 hn1⟩;have hlen:ms.length≤ts.length:=by rw[a2.length_eq];exact hl
 exact⟨by rw[Ab,sizeLine_eq];omega,out.toList,ee,Oi a1,by simpa [seqObj] using a5⟩
end
theorem Xo:typeLookup (.type "tuple") "keys"=pure none:=by rw[typeLookup_type,builtinLookup_eq_fast];kernel_rfl
set_option maxHeartbeats 4000000 in
theorem WW{prog:Bb}{w:World}{A:BB}{E:Value→Shared→Prop}{a:Addr}{its:Array Value}{n:Nat}{sl:Array (Option Value)}{h:Heap}{g d t os}{Q:Option Value→Shared→Prop}
 (hh:A.handled=none) (hx:h.get? a=some {cls:= .type "tuple",dict:=none,data:= .seq its n,slots:=sl})
 (q:∀h' tk,(∀b o,h.get? b=some o→h'.get? b=some o)→Q none ⟨h',g,d,tk,os⟩):wpAny (model prog w) A (getAttr? (.ref a) "keys") Q E ⟨h,g,d,t,os⟩:=by
 have y0:∀tk',(⟨h,g,d,tk',os⟩:Shared).TypeIs (.ref a) "tuple":=λ_=>⟨_,hx,rfl⟩;have y1:=sub_AttributeError;have y2:=F.slot_tuple_getattribute.lookup;have y3:=F.slot_tuple_getattribute.bind (.ref a);have y4:=am_tuple_getattr_none;unfold getAttr? getAttrBy? getAttrBy
 repeat (any_goals (first
  | assumption
  | exact y0 _
  | ((with_reducible show wpAny _ _ (call (Value.builtin "tuple.__getattribute__") _ _) _ _ _)
     refine call_meets F.slot_tuple_getattribute (y0 _) am_entry_tuple_getattribute (F.args_tuple_getattribute_2 _ _) (meets_getattribute_miss_tuple a its n sl "keys" _ Xo (by decide+kernel)) ⟨hx,hh,λh' tk' e hx'=>?_⟩)
  | wp_step))
 obtain⟨t',u',he⟩:=hx'.there;show wpAny _ _ (getattributeRaised _ _ _ _ _ _ _) _ _ _;unfold getattributeRaised
 repeat (any_goals (first | assumption | wp_step))
 exact q _ _ hx'.keeps
theorem NA:mroOf (.type "dict")=pure [.type "dict",.type "object"]:=by rw[mroOf_type];kernel_rfl
theorem Wv:typeLookup (.type "dict") "__new__"=pure (some (.builtin "dict.__new__")):=by rw[typeLookup_type,builtinLookup_eq_fast];kernel_rfl
theorem VT:isSubtype (.type "dict") (.type "dict")=pure true:=by rw[isSubtype_type];kernel_rfl
theorem WY:TypeCalled "dict" "dict.__new__" "dict.__init__":=
 ⟨by decide+kernel,by decide+kernel,⟨_,_,NA⟩,madeBy_type NA Wv (by decide+kernel),by decide+kernel,by rw[isSubtype_type];kernel_rfl,PySem.F.slot_dict_init⟩
theorem WV(a:Value):checkTypeCall "dict" ⟨[a],[]⟩=pure ():=by kernel_rfl
theorem Wy(a:Value):checkBuiltinCall "dict.__new__" ⟨[.type "dict",a],[]⟩=pure ():=by kernel_rfl
theorem Xc:entryFor table "dict.__new__"=some Builtin.«dict.__new__»:=EN (by kernel_rfl)
theorem RM:plainId "dict.__new__"=true:=by decide+kernel
theorem RX:entryFor table "dict.update.loop"=some Builtin.«dict.update.loop»:=EN (by kernel_rfl)
theorem My:plainId "dict.update.loop"=true:=by decide+kernel
theorem V1(a:Value){Q₁:Value→Shared→Prop}(h:Q₁ (.ref s.heap.objs.size) {s with heap:=s.heap.push {cls:= .type "dict",data:= .dict #[]}}):
 codeAny (model prog w) A (.call (.builtin "dict.__new__") ⟨[.type "dict",a],[]⟩) (wants Q₁ E) s:=by
 refine Dl ?_;show wpAny _ A.in1 (checkBuiltinCall "dict.__new__" ⟨[.type "dict",a],[]⟩>>=λ_=>again (.builtin "dict.__new__" ⟨[.type "dict",a],[]⟩)) _ _ s;refine Aa (Ec (Wy a) (Ac ⟨BI RM _,A_ Xc ?_⟩));rw[AO RM _];have y1:=VT;have y2:=NA;obtain⟨hp,g,d,tk,os⟩:=s
 wp_walk
 exact h
structure Pr(P:Bb)(w:World)where
 k:Hs
 key:Value
 v:Value
 p:Addr
 is:(IP P w).is k key=true
theorem Ph{d it t:Addr}{vs:Array Value}{R:Result→Shared→Prop}(hh:A.handled=none)(dt:d≠t)(di:d≠it)(ti:t≠it):∀(rest:List (Pr prog w))(i:Nat)(kvs:List (Hs×Value))(s:Shared),
 s.heap.IsTupleIter it t i→s.heap.IsTuple t vs→vs.toList.drop i=rest.map (λr=> .ref r.p)→(∀r∈rest,s.heap.IsTuple r.p #[r.key,r.v]∧r.p≠d∧r.p≠it)→s.heap.DictOf (IP prog w) d kvs→kvs.length+rest.length≤As→
 (∀h' tk,h'.DictOf (IP prog w) d (rest.foldl (λacc r=>stored acc r.k r.v) kvs)→(∀b o,b≠d→b≠it→s.heap.get? b=some o→h'.get? b=some o)→R (.ok (.ret .none)) {s with heap:=h',toks:=tk})→
 codeAny (model prog w) A (.builtin "dict.update.loop" ⟨[.ref d,.ref it,rawInt i,.none],[]⟩) R s
 | [],i,kvs,s,h1,h2,h3,h4,h5,h6,q=>by
  refine A_ RX ?_;rw[AO My _];show wpAny _ _ (pyNext (.ref it)>>=_) _ _ _;have hv:vs[i]?=none:=by have:vs.toList.length≤i:=List.drop_eq_nil_iff.mp h3;rw[Array.getElem?_eq_none_iff];simpa using this
  refine Aa (Fd (A:=A.in1) hh h1 h2 hv λh' eb=>?_);show wpAny _ _ (Builtin.Dict.addKeywords d []>>=λ_=>ret .none) _ _ _;refine Aa (Ac (Ac ?_));exact q h' _ (h5.extBut eb di) (λb o hb hb2 e=>eb b o hb2 e)
 | r::rest,i,kvs,s,h1,h2,h3,h4,h5,h6,q=>by
  refine A_ RX ?_;rw[AO My _];show wpAny _ _ (pyNext (.ref it)>>=_) _ _ _;have hl:i<vs.toList.length:=by
   rcases Nat.lt_or_ge i vs.toList.length with z | z
   · exact z
   · rw[Fj z] at h3;cases h3
  have hv:vs[i]?=some (.ref r.p):=by
   rw[Dm hl,Av] at h3;injection h3 with e1 e2
   rw[←e1];simp at hl ⊢
  have h3':vs.toList.drop (i+1)=rest.map (λr=> .ref r.p):=by rw[Dm hl,Av] at h3;injection h3
  obtain⟨hp,pd,pi⟩:=h4 r (Ar ..);refine Aa (EQ h1 h2 hv λh' st' sb=>?_);have hp':h'.IsTuple r.p #[r.key,r.v]:=hp.extBut sb.extBut pi;show wpAny _ _ (holding [.ref r.p] _>>=_) _ _ _;refine Aa (AE (Aa (wpAny_tryCatch ?_)));obtain⟨ob,e1,e2,nn,e3⟩:=hp';unfold Builtin.Dict.pairItems;refine Aa (Ce (s:={s with heap:=h'}) ⟨ob,e1,e2⟩ ?_);rw[if_pos (by decide)];refine Aa (AT (s:={s with heap:=h'}) e1 e3 (Ac ?_));show wpAny _ _ (holding [r.key,r.v] (dictSet d r.key r.v)) _ _ _;refine AE (wpAny_dictSet_pairs (s:={s with heap:=h'}) (knd:=IP prog w) r.is (h5.extBut sb.extBut di) (λh2' hd2 sb2=>?_) (by rw[A5] at h6;omega));refine Ac ⟨BI My _,?_⟩;have ks:(stored kvs r.k r.v).length≤kvs.length+1:=by
   unfold stored
   split
   · rw[Ab];omega
   · rw[AG,Fp];omega
  have:=Ph (R:=R) hh dt di ti rest (i+1) (stored kvs r.k r.v) {s with heap:=h2',toks:=s.toks+1} (st'.extBut sb2.extBut di.symm) ((h2.extBut sb.extBut ti).extBut sb2.extBut dt.symm) h3'
   (λr' hr'=>by obtain⟨a1,a2,a3⟩:=h4 r' (Ao _ hr');exact⟨(a1.extBut sb.extBut a3).extBut sb2.extBut a2,a2,a3⟩) hd2 (by rw[A5] at h6;omega)
   (λh3 tk a1 a2=>q h3 tk a1 (λb o hb hb2 e=>a2 b o hb hb2 (sb2.extBut b o hb (sb.extBut b o hb2 e))))
  exact this
def SW:List V→Hp→VK→Prop:=λxs H Q=>∃(a:Addr)(prs:List (Addr×Hs×V)),xs=[.ref a]∧H a=some (.tup (prs.map λp=>V.ref p.1))∧(∀p∈prs,H p.1=some (.tup [kV p.2.1,p.2.2]))∧
 ∀d,H d=none→Q (.ref d) (GY H d (.dK (prs.foldl (λacc p=>Hw acc p.2.1 p.2.2) [])))
theorem O_(ok:HOk P w H h):∀prs:List (Addr×Hs×V),(∀p∈prs,H p.1=some (.tup [kV p.2.1,p.2.2]))→
 ∃rs:List (Pr P w),rs.map (λr=>r.p)=prs.map (·.1)∧(∀r∈rs,h.IsTuple r.p #[r.key,r.v])∧∀(kvs:List (Hs×V))(vs:List (Hs×Value)),KV kvs vs→KV (prs.foldl (λacc p=>Hw acc p.2.1 p.2.2) kvs) (rs.foldl (λacc r=>stored acc r.k r.v) vs)
 | [],_=>⟨[],rfl,λr hr=>by simp at hr,λkvs vs r=>r⟩
 | p::prs,hp=>by
  obtain⟨rs,e1,e2,e3⟩:=O_ ok prs (λq hq=>hp q (Ao _ hq));obtain⟨_,its,r,tp⟩:=(show ObjOk P w H h p.1 (.tup [kV p.2.1,p.2.2]) from ok p.1 _ (hp p (Ar ..)));obtain⟨u1,u2,rfl,r1,r2⟩:=KJ r;refine⟨⟨p.2.1,u1,u2,p.1,Le r1⟩::rs,by rw[Av,Av,e1],λq hq=>?_,λkvs vs rv=>?_⟩
  · rcases Ax.mp hq with rfl | hq
    · exact tp.tup
    · exact e2 q hq
  · rw[DN,DN];exact e3 _ _ (rv.put p.2.1 r2)
theorem Wa(hc:X.calm=true):I0 X (.type "dict") SW:=by
 intro pins s σ H xs us Q I r h;obtain⟨a,prs,rfl,ha,hp,q⟩:=h;obtain⟨u,rfl,rx⟩:=IW r;cases rx;obtain⟨zl,its,rv,o,e1,e2,e3,n,e4⟩:=(show ObjOk X.prog X.w H s.heap a (.tup (prs.map λp=>V.ref p.1)) from I.hok a _ ha);obtain⟨oc,od,odat,osl⟩:=o;cases e2;cases e3;cases e4;have hh:=I.ok.hd hc;have sz:s.heap.objs.size≠a:=Cc (Ag e1);refine callType_codes (Q₁:=λobj s₁=>obj= .ref s.heap.objs.size∧s₁={s with heap:=s.heap.push {cls:= .type "dict",data:= .dict #[]}}) WY (WV _) PySem.F.entry_dict_init (V1 _ ⟨rfl,rfl⟩) λobj s₁ h₁=>?_
 obtain⟨rfl,rfl⟩:=h₁;have I1:=I.laid (a:=s.heap.objs.size) (o:= .dK []) (h':=s.heap.push {cls:= .type "dict",data:= .dict #[]}) (t':=s.toks) (λ_ _ q=>Ad _ q) (Ae _) (QV s.heap I.big);have hD:(s.heap.push {cls:= .type "dict",data:= .dict #[]}).get? s.heap.objs.size=some {cls:= .type "dict",data:= .dict #[]}:=Ai _ rfl;refine⟨⟨_,hD,rfl⟩,PySem.F.args_dict_init_2 _ _,?_⟩;have hT:Ew {s with heap:=s.heap.push {cls:= .type "dict",data:= .dict #[]}} (.ref s.heap.objs.size) "dict":=⟨_,hD,rfl⟩;have hA:(s.heap.push {cls:= .type "dict",data:= .dict #[]}).get? a=some {cls:= .type "tuple",dict:=none,data:= .seq its.toArray n,slots:=osl}:=Ad _ e1;unfold Builtin.«dict.__init__» Builtin.Dict.selfAndRest;refine Aa (Aa (wpAny_notOrdered_dict hT (Ac ?_)));show wpAny _ _ (EV "dict.__init__" s.heap.objs.size (.ref a) [] .none) _ _ _;unfold EV;refine Aa (Ce (s:={s with heap:=s.heap.push {cls:= .type "dict",data:= .dict #[]}}) ⟨_,hA,rfl⟩ ?_);rw[if_pos (by decide)];obtain⟨rs,r1,r2,r3⟩:=O_ I.hok prs hp;have hits:its=rs.map (λr=>Value.ref r.p):=by
  have e:∀(l:List (Addr×Hs×V))(m:List Value),Vals (l.map λp=>V.ref p.1) m→m=(l.map (·.1)).map Value.ref:=by
   intro l
   induction l with
   | nil=>intro m q;cases q;rfl
   | cons p l ih=>
    intro m q;cases q with
    | cons q1 q2=>cases q1;rw[ih _ q2];rfl
  rw[e prs its rv,←r1,BK];rfl
 have hlen:rs.length=prs.length:=by have:=congrArg C8 r1;simpa using this
 rw[Ab] at zl;have hsys:=I.big;obtain⟨hp0,g,dr,tk0,os⟩:=s;refine Aa (WW (A:=X.A.in1.in1) hh hA λh' tk kp=>?_);simp only[Option.isNone_none,if_true];have kp0:∀b o,hp0.get? b=some o→h'.get? b=some o:=λb o e=>kp b o (Ad _ e);have I2:Inv X pins σ (GY H hp0.objs.size (.dK [])) ⟨h',g,dr,tk,os⟩:=I1.kept (t':=tk) kp;have hA':h'.IsTuple a its.toArray:=⟨_,kp _ _ hA,rfl,_,rfl⟩;have dlt:hp0.objs.size<h'.objs.size:=Ag (kp _ _ hD);have alt:a<h'.objs.size:=Ag (kp _ _ hA);refine Aa (BX (Aa (Dq (s:=⟨h',g,dr,tk,os⟩) hA' (Ac ⟨BI My _,?_⟩))));obtain⟨zd,hd,vs0,rk0,dd⟩:=Jy I2.hok (show(GY H hp0.objs.size (.dK [])) hp0.objs.size=some (.dK []) from Hb);cases rk0;refine Ph (A:=X.A.in1) hh sz (Al dlt) (Al alt) rs 0 [] _ ⟨_,Ai _ rfl,rfl,rfl⟩ (E9 hA' _) ?_ ?_ (dd.push _) ?_ ?_
 · rw[Eb,←hits]
 · intro r hr;have t0:=r2 r hr;have plt:r.p<hp0.objs.size:=by
    obtain⟨o,e,_⟩:=t0;exact Ag e
   exact⟨E9 (t0.at λo e=>kp0 _ o e) _,Al plt,Al (BU plt dlt)⟩
 · rw[hlen];simpa using zl
 · intro h2 tk2 hd2 k2;have k3:∀b u,b≠hp0.objs.size→h'.get? b=some u→h2.get? b=some u:=λb u hb e=>k2 b u hb (Al (Ag e)) (Ad _ e);have he:∃q,h2.get? hp0.objs.size=some q:=let⟨q,_,_,hq,_⟩:=hd2;⟨q,hq⟩;have hz:(prs.foldl (λacc p=>Hw acc p.2.1 p.2.2) []).length≤As:=by
    have len:∀(l:List (Addr×Hs×V))(acc:List (Hs×V)),(l.foldl (λacc p=>Hw acc p.2.1 p.2.2) acc).length≤acc.length+l.length:=by
     intro l
     induction l with
     | nil=>intro acc;exact Ae _
     | cons p l ih=> intro acc;rw[DN,A5];have h1:=ih (Hw acc p.2.1 p.2.2);have h2:=NT acc p.2.1 p.2.2;omega
    have:=len prs [];simp at this;omega
   have I3:=I2.write (x:=hp0.objs.size) (e:=hp0.objs.size) (o:= .dK (prs.foldl (λacc p=>Hw acc p.2.1 p.2.2) [])) (t':=tk2) (by rw[Hb];exact True.intro) (.inl rfl) k3 he (Pq hz hd (r3 [] [] .nil) hd2);rw[TR] at I3;exact⟨rfl,.ref hp0.objs.size,_,I3,rfl,q _ (I.hok.fresh (Ae _))⟩
namespace FS
end FS
section
variable{κ:Type}[DecidableEq κ]{knd:PySem.KeyKind prog w κ}
end
open PySem.W PyProof.Rows
namespace KS
variable{lt:Nat→Nat→Bool}{N:Nat}
end KS
end L2
set_option maxHeartbeats 1000000
namespace L2
open PySem PySem.Spec PyProof.Rows PySem.W
def IJ:V→Bool
 | .non=>true
 | .int _=>true
 | _=>false
def OJ:V→V→Bool
 | .int i,.int j=>decide (i≤j)
 | _,_=>true
def Je(H:Hp):V→Bool
 | .ref a=>match H a with
  | some (.tup [x,y])=>IJ x && IJ y && OJ x y
  | _=>false
 | _=>false
def SpanAt(H:Hp)(v:V)(lo hi:Option Int):Prop:=∃a,v= .ref a∧H a=some (.tup [eV lo,eV hi])
def JO:Option Int→Option Int→Bool
 | some i,some j=>decide (i≤j)
 | _,_=>true
theorem Vv{v:V}{lo hi:Option Int}(h:SpanAt H v lo hi):Je H v=JO lo hi:=by obtain⟨a,rfl,e⟩:=h;unfold Je;simp only[e];cases lo<;>cases hi<;>simp[eV,IJ,OJ,JO]
theorem P7(o:Option Int):∃t,TyOf K H (eV o) (.type t):=by
 cases o with
 | none=>exact⟨_,.non⟩
 | some i=>exact⟨_,.int i⟩
def Qv(K:Af):Sp:=λvs H Q _=>∃(v:V)(t:String),vs=[v]∧TyOf K H v (.type t)∧Q (.bl (t=="int")) H
def Pe(K:Af):Sp:=λvs H Q _=>∃(v:V)(t:String),vs=[v]∧TyOf K H v (.type t)∧Q (.bl (IJ v)) H
def Pm(K:Af)(H:Hp)(v:V):Prop:=∀a x y,v= .ref a→H a=some (.tup [x,y])→∃t1 t2,TyOf K H x (.type t1)∧TyOf K H y (.type t2)
def QD(K:Af):Sp:=λvs H Q _=>∃(v:V)(t:String),vs=[v]∧TyOf K H v (.type t)∧Pm K H v∧Q (.bl (Je H v)) H
theorem SpanAt.ty{v:V}{lo hi:Option Int}(h:SpanAt H v lo hi):TyOf K H v (.type "tuple")∧Pm K H v:=by obtain⟨a,rfl,q⟩:=h;refine⟨.tup q,λa' x y e q'=>?_⟩;cases e;rw[q] at q';injection q' with q';injection q' with q';injection q' with e1 e2;injection e2 with e2 _;subst e1 e2;obtain⟨t1,h1⟩:=P7 (K:=K) (H:=H) lo;obtain⟨t2,h2⟩:=P7 (K:=K) (H:=H) hi;exact⟨t1,t2,h1,h2⟩
def Sb:Option Int→Option Int→Option Int
 | none,o=>o
 | some l,none=>some l
 | some l,some o=>some (if l<o then o else l)
def Sc:Option Int→Option Int→Option Int
 | none,o=>o
 | some h,none=>some h
 | some h,some o=>some (if o<h then o else h)
def LH:Option Int→Option Int→Bool
 | some l,some h=>decide (h<l)
 | _,_=>false
def Kl:Option Int→Int→Bool
 | none,_=>true
 | some l,k=>decide (l≤k)
def Km:Option Int→Int→Bool
 | none,_=>true
 | some h,k=>decide (k≤h)
def Iw(lo hi:Option Int)(k:Int):Bool:=Kl lo k && Km hi k
def Lr:Sp:=λvs H Q _=>∃(v:V)(lo hi:Option Int)(k:Int),vs=[v,.int k]∧SpanAt H v lo hi∧Q (.bl (Iw lo hi k)) H
abbrev XY:Int:=1000000000000000
theorem M8:(10:Int)^(15:Int).toNat=XY:=by decide
theorem Iv{j:Int}(h0:0≤j)(h1:j≤1000):MG 10 j:=⟨h0,h1,by decide⟩
def L1:Option Int→List Int
 | none=>[]
 | some e=>[e - 1,e,e+1]
def OB:List Int:=[0,10^(17:Int).toNat,0 - 10^(17:Int).toNat]
def SF(ss:List (Option Int×Option Int)):List Int:=OB++ss.flatMap λs=>L1 s.1++L1 s.2
def spPoints(K:Af):Sp:=λvs H Q _=>∃(a:Addr)(ss:List (Addr×Option Int×Option Int)),vs=[.ref a]∧SqL K H a (ss.map λs=>V.ref s.1)∧(∀s∈ss,H s.1=some (.tup [eV s.2.1,eV s.2.2]))∧ss.length≤8∧
 ∀r H',Same H H'→H' r=some (.lst ((SF (ss.map (·.2))).map V.int))→Q (.ref r) H'
def dE:Option Int→PD
 | none=> .non
 | some i=> .int i
theorem P5(o:Option Int):GZ K H (dE o) (eV o):=by
 cases o with
 | none=>show GZ K H .non .non;rw[GZ]
 | some i=>show GZ K H (.int i) (.int i);rw[GZ]
def Kh(c:Nat):Bool:=decide (97≤c) && decide (c≤122)
structure FieldOk(x:Str):Prop where
 one:1≤x.length
 eight:x.length≤8
 all:∀c∈x.cps.toList,Kh c=true
theorem Sq:("a":Str).cps.toList=[97]:=by decide+kernel
theorem Sr:("z":Str).cps.toList=[122]:=by decide+kernel
theorem OP{c:Nat}(h:Kh c=true):(!decide ((⟨#[c]⟩:Str).cps.toList<("a":Str).cps.toList))=true:=by
 rw[Sq];have h1:97≤c:=of_decide_eq_true ((AV _ _).mp h).1;have:¬([c]:List Nat)<[97]:=by
  intro z;cases z with
  | rel z=>exact absurd z (by omega)
  | cons z=>cases z
 show(!decide (([c]:List Nat)<[97]))=true;rw[decide_eq_false this];rfl
theorem OI{c:Nat}(h:Kh c=true):(!decide (("z":Str).cps.toList<(⟨#[c]⟩:Str).cps.toList))=true:=by
 rw[Sr];have h1:c≤122:=of_decide_eq_true ((AV _ _).mp h).2;have:¬([122]:List Nat)<[c]:=by
  intro z;cases z with
  | rel z=>exact absurd z (by omega)
  | cons z=>cases z
 show(!decide (([122]:List Nat)<[c]))=true;rw[decide_eq_false this];rfl
def LX:Sp:=λvs H Q _=>∃x:Str,vs=[.str x]∧FieldOk x∧∀H',Same H H'→Q (.bl true) H'
def Sn(H:Hp)(p:Addr)(f:Str)(lo hi:Option Int):Prop:=H p=some (.tup [.str f,eV lo,eV hi])
def Sm(H:Hp)(p:Addr)(f:Str)(n:Int):Prop:=H p=some (.tup [.str f,.int n])
def RT:Sp:=λvs H Q _=>∃(p:Addr)(f:Str)(lo hi:Option Int),vs=[.ref p]∧Sn H p f lo hi∧FieldOk f∧JO lo hi=true∧∀H',Same H H'→Q (.bl true) H'
def RB:Sp:=λvs H Q _=>∃(p:Addr)(f:Str)(n:Int),vs=[.ref p]∧Sm H p f n∧FieldOk f∧∀H',Same H H'→Q (.bl true) H'
def Iq(f g:Str):Prop:=f.cps.toList<g.cps.toList
def QA:Sp:=λvs H Q _=>∃(a:Addr)(ps:List (Addr×Str×List V)),vs=[.ref a]∧H a=some (.tup (ps.map λp=>V.ref p.1))∧ps.length≤100∧(∀p∈ps,H p.1=some (.tup (V.str p.2.1::p.2.2)))∧
 (∀(i:Nat)p q,ps[i]?=some p→ps[i+1]?=some q→Iq p.2.1 q.2.1)∧∀H',Same H H'→Q (.bl true) H'
abbrev WP:=Str×Option Int×Option Int
def WishAt(H:Hp)(a:Addr)(w:List WP):Prop:=∃ps:List (Addr×WP),ps.map (·.2)=w∧H a=some (.tup (ps.map λp=>V.ref p.1))∧∀p∈ps,H p.1=some (.tup [.str p.2.1,eV p.2.2.1,eV p.2.2.2])
theorem WishAt.keep{H':Hp}{w:List WP}(h:WishAt H a w)(s:Iz H H'):WishAt H' a w:=by obtain⟨ps,e,h1,h2⟩:=h;exact⟨ps,e,s _ _ h1,λp hp=>s _ _ (h2 p hp)⟩
theorem WishAt.same{H':Hp}{w:List WP}(h:WishAt H a w)(s:Same H H'):WishAt H' a w:=h.keep s.tups
structure WOk(w:List WP):Prop where
 len:w.length≤100
 ok:∀p∈w,FieldOk p.1∧JO p.2.1 p.2.2=true
 asc:(w.map (·.1)).Pairwise Iq
def LS(w:List WP)(f:Str):Option (Option Int×Option Int):=(w.find? (λp=>decide (p.1=f))).map (·.2)
theorem MN{f g:Str}(h:Iq f g):f≠g:=λe=>by subst e;exact List.lt_irrefl _ h
def QE:Sp:=λvs H Q _=>∃(a:Addr)(w:List WP),vs=[.ref a]∧WishAt H a w∧WOk w∧∀H',Same H H'→Q (.bl true) H'
def SB:Option Int→Option Int→Int
 | some l,_=>l
 | none,some h=>h
 | none,none=>0
abbrev PP:=Str×Int
def PieceAt(H:Hp)(a:Addr)(w:List PP):Prop:=∃ps:List (Addr×PP),ps.map (·.2)=w∧H a=some (.tup (ps.map λp=>V.ref p.1))∧∀p∈ps,H p.1=some (.tup [.str p.2.1,.int p.2.2])
theorem Tk{K:Af}{a p:Addr}{xs:List V}{g:TG}{tc:TT}{tk tv:TE}{Q:VK}{js:HU}(Pv:Nat→St→List (Hs×V)→Hp→Prop)(h0:Pv 0 (ID js σ) [] (GY H p (.dK [])))
 (hl:∀i σ kvs H,i≤xs.length→Pv i σ kvs H→SqT K H a xs∧H p=some (.dK kvs)∧kvs.length<As)
 (hs:∀(i:Nat)x σ kvs H(N:St→List (Hs×V)→Hp→Prop),xs[i]?=some x→Pv i σ kvs H→(∀σ' kvs' H',Pv (i+1) σ' kvs' H'→N σ' kvs' H')→g x σ H λσ2 H2=>tc σ2 H2 λb H3=> if b=true then tk σ2 H3 λk H4=>tv σ2 H4 λy H5=>∃ky,k=kV ky∧H5 p=some (.dK kvs)∧N σ2 (Hw kvs ky y) (GY H5 p (.dK (Hw kvs ky y))) else N σ2 kvs H3)
 (hd:∀σ kvs H,Pv xs.length σ kvs H→Q (.ref p) H):MH (Kp K a) p js g tc tk tv σ H Q:=by
 refine⟨λi m σ kvs H=>m=xs.length - i∧i≤xs.length∧Pv i σ kvs H,⟨xs.length,by simp,Br _,h0⟩,?_⟩;rintro i m σ kvs H ⟨rfl,hi,pv⟩;obtain⟨q0,q1,q2⟩:=hl i σ kvs H hi pv;refine⟨q1,?_⟩;by_cases lt:i<xs.length
 · refine .inr ⟨⟨xs,xs[i],q0,by simp[lt]⟩,q2,λx H' y=>?_⟩;obtain⟨e,y⟩:=y;subst e;exact hs i x σ kvs H' (λσ2 kvs2 H2=>∃m',m'<xs.length - i∧m'=xs.length - (i+1)∧i+1≤xs.length∧Pv (i+1) σ2 kvs2 H2) (y xs q0) pv λσ' ys' H' p'=>⟨xs.length - (i+1),by omega,rfl,lt,p'⟩
 · have e:i=xs.length:=by omega
   subst e;exact .inl ⟨⟨xs,q0,Ae _⟩,hd σ kvs H pv⟩
theorem TL{y:Str}(h:x.cps.toList=y.cps.toList):x=y:=by obtain⟨a⟩:=x;obtain⟨b⟩:=y;congr;exact Array.toList_inj.mp h
theorem Ui{y:Str}(h:¬Iq x y)(n:x≠y):Iq y x:=by
 unfold Iq at*;rcases Std.lt_trichotomy (α:=List Nat) x.cps.toList y.cps.toList with h1 | h1 | h1
 · exact absurd h1 h
 · exact absurd (TL h1) n
 · exact h1
theorem QZ{y z:Str}(h:Iq x y)(h2:Iq y z):Iq x z:=List.lt_trans h h2
theorem Re:∀(r:List Str)(p:Str),risingS p r=true→(p::r).Nodup→(p::r).Pairwise Iq
 | [],p,_,_=>List.pairwise_singleton _ _
 | x::r,p,h,n=>by
  unfold risingS at h;rw[AV,D2,ltCps_eq,decide_eq_false_iff_not] at h;rw[List.nodup_cons] at n;have px:Iq p x:=Ui (x:=x) (y:=p) h.1 (λe=>n.1 (by rw[←e];exact Ar));have ih:=Re r x h.2 n.2;rw[List.pairwise_cons];refine⟨λy hy=>?_,ih⟩;rcases Ax.mp hy with rfl | hy
  · exact px
  · exact QZ px ((List.pairwise_cons.mp ih).1 y hy)
theorem Mt{ms:List Str}(h:sortedS ms=true)(n:ms.Nodup):ms.Pairwise Iq:=by
 cases ms with
 | nil=>exact .nil
 | cons x r=>exact Re r x h n
theorem PieceAt.keep{H':Hp}{w:List PP}(h:PieceAt H a w)(s:Iz H H'):PieceAt H' a w:=by obtain⟨ps,e,h1,h2⟩:=h;exact⟨ps,e,s _ _ h1,λp hp=>s _ _ (h2 p hp)⟩
theorem PieceAt.same{H':Hp}{w:List PP}(h:PieceAt H a w)(s:Same H H'):PieceAt H' a w:=h.keep s.tups
structure POk(p:List PP):Prop where
 len:p.length≤100
 ok:∀x∈p,FieldOk x.1
 asc:(p.map (·.1)).Pairwise Iq
def IL(p:List PP)(f:Str):Option Int:=(p.find? (λx=>decide (x.1=f))).map (·.2)
theorem V6{w:List PP}{f:Str}(h:∀p∈w,p.1≠f):IL w f=none:=by unfold IL;rw[List.find?_eq_none.mpr λp hp z=>h p hp (of_decide_eq_true z)];rfl
theorem Rz(w:List PP)(p:PP)(f:Str)(hn:IL w p.1=none):IL (w++[p]) f=if f=p.1 then some p.2 else IL w f:=by
 unfold IL at*;rw[List.find?_append];by_cases h:f=p.1
 · subst h;rw[if_pos rfl];cases e:w.find? (λq=>decide (q.1=p.1)) with
   | some q=>rw[e] at hn;cases hn
   | none=>simp
 · rw[if_neg h];cases e:w.find? (λq=>decide (q.1=f)) with
   | some q=>rfl
   | none=>simp;exact λz=>h z.symm
theorem POk.fresh{w:List PP}(h:POk w){p:PP}(hp:w[i]?=some p):IL (w.take i) p.1=none:=by
 refine V6 λq hq e=>?_;obtain⟨j,hj⟩:=C7 hq;rw[List.getElem?_take] at hj
 split at hj
 · rename_i lt;have hi:i<w.length:=(Am.mp hp).1;have:=BP.mp h.asc j i (by rw[Ab];omega) (by rw[Ab];exact hi) lt;rw[DE,DE] at this;have e1:w[j]'(by omega)=q:=(Am.mp hj).2;have e2:w[i]=p:=(Am.mp hp).2;rw[e1,e2] at this;exact MN this e
 · cases hj
def Kc(p:List PP)(x:WP):Bool:=match IL p x.1 with
 | none=>false
 | some n=>Iw x.2.1 x.2.2 n
theorem RE{p:List PP}{x:WP}(h:IL p x.1=none):Kc p x=false:=by unfold Kc;rw[h]
theorem NI{p:List PP}{x:WP}{n:Int}(h:IL p x.1=some n):Kc p x=Iw x.2.1 x.2.2 n:=by unfold Kc;rw[h]
def IH(w:List WP)(p:List PP):Bool:=w.all (Kc p)
theorem RU{w:List WP}{p:List PP}{x:WP}(hx:x∈w)(h:Kc p x=false):IH w p=false:=by unfold IH;rw[List.all_eq_false];exact⟨x,hx,by rw[h];exact An⟩
def Ri:Sp:=λvs H Q _=>∃(a:Addr)(w:List PP),vs=[.ref a]∧PieceAt H a w∧POk w∧∀H',Same H H'→Q (.bl true) H'
def RP:Sp:=λvs H Q _=>∃(a:Addr)(w:List PP),vs=[.ref a]∧PieceAt H a w∧POk w∧∀H',Same H H'→Q .non H'
def LY:Sp:=λvs H Q _=>∃(a b:Addr)(w:List WP)(p:List PP),vs=[.ref a,.ref b]∧WishAt H a w∧PieceAt H b p∧POk p∧∀H',Same H H'→Q (.bl (IH w p)) H'
theorem az:("abcdefghijklmnopqrstuvwxyz":Str).cps.toList=(AX 26).map (· +97):=by decide+kernel
theorem Pg{r:Int}(h0:0≤r)(h1:r<26):∃c,Ie ("abcdefghijklmnopqrstuvwxyz":Str).cps.toList r=some c∧Kh c=true:=by
 rw[az];obtain⟨k,rfl⟩:∃k:Nat,r=k:=⟨r.toNat,by omega⟩;have hk:k<26:=by omega
 refine⟨k+97,?_,?_⟩
 · refine J5 ?_;rw[Ah,FJ hk];rfl
 · unfold Kh;rw[AV];exact⟨decide_eq_true (by omega),decide_eq_true (by omega)⟩
theorem Ry:∀(cs:List Nat),(Txt.join ("":Str) (cs.map λc=>(⟨#[c]⟩:Str))).cps.toList=cs
 | []=>rfl
 | [c]=>rfl
 | c::d::r=>by
  have ih:=Ry (d::r);have e:∀(ts:List Str),Txt.join ("":Str) ts=Str.join ("":Str) ts:=λts=>StrLaws.glued_eq_join _ _;rw[e] at ih ⊢;show((⟨#[c]⟩:Str)++("":Str)++Str.join ("":Str) ((d::r).map λc=>(⟨#[c]⟩:Str))).cps.toList=_;have:((⟨#[c]⟩:Str)++("":Str)++Str.join ("":Str) ((d::r).map λc=>(⟨#[c]⟩:Str))).cps.toList=c::(Str.join ("":Str) ((d::r).map λc=>(⟨#[c]⟩:Str))).cps.toList:=by show(#[c]++#[]++_:Array Nat).toList=_;simp
  rw[this,ih]
theorem Ue(cs:List Nat)(h:cs.length≤1000):JoinOk ("":Str) (cs.map λc=>(⟨#[c]⟩:Str))=true:=by
 unfold JoinOk;rw[D2];refine StrLaws.joinFits (B:=1) (λy hy=>?_) ?_
 · obtain⟨c,_,rfl⟩:=AU.mp hy;exact Ae 1
 · rw[Ab];show cs.length*1+cs.length*0≤_;omega
theorem V4{cs:List Nat}(h1:1≤cs.length)(h8:cs.length≤8)(ok:∀c∈cs,Kh c=true):FieldOk (Txt.join ("":Str) (cs.map λc=>(⟨#[c]⟩:Str))):=by
 have e:=Ry cs;have hl:(Txt.join ("":Str) (cs.map λc=>(⟨#[c]⟩:Str))).length=cs.length:=by show Array.size _=_;rw[←Aj,e]
 exact⟨by rw[hl];exact h1,by rw[hl];exact h8,by rw[e];exact ok⟩
theorem SameB.off{g p:Addr}{H':Hp}{o:HO}(s:SameB b g H H')(hp:H p=none):SameB b g H (GY H' p o):=λa x h n1 n2=>by
 have:a≠p:=λe=>by rw[e,hp] at h;cases h
 rw[Hm this];exact s a x h n1 n2
open PySem PySem.Spec PyProof.Rows PySem.W
theorem R7{α:Type}{f:α→Addr}:∀{ps:List α}{us:List Value},Vals (ps.map λp=>V.ref (f p)) us→us=ps.map λp=>Value.ref (f p)
 | [],_,h=>by cases h;rfl
 | p::ps,_,h=>by
  rw[Av] at h;cases h with
  | cons r h=> obtain rfl:_=Value.ref (f p):=r;rw[R7 h];rfl
open PySem.AutoSeq1 (wpAny_loadPart')
open PySem.MeetsSeq PySem.MeetsSeq2 PySem.MeetsSeq3 PySem.SeqRoads2
open PySem PySem.Spec PyProof.Rows PySem.W
section
variable{o:HO}
end
open PySem PySem.Spec PyProof.Rows PySem.W
def M7(ps:List (Addr×PD))(d:PD):Value→Bool
 | .ref a=>(ps.find? λp=>decide (p.1=a)).any λp=>Hk p.2 d
 | _=>false
section
variable{o:Obj}{kvs:List (Hs×V)}
end
section
variable{tg:Expr}
end
section
variable{p:Addr}{g:TG}{tc:TT}{te:TE}{Q:VK}{o:Obj}{kvs:List (Hs×V)}{fs:List Str}
end
end L2
set_option maxHeartbeats 2000000
namespace L2
open PySem PySem.Spec PyProof.Rows PySem.W
section
variable{κ:Type}[DecidableEq κ]{knd:PySem.KeyKind prog w κ}
end
theorem QQ(hc:X.calm=true):I0 X (.builtin "any") (λxs H Q=>∃(a:Addr)(bs:List Bool),xs=[.ref a]∧SqL X.K H a (bs.map V.bl)∧Q (.bl (bs.any id)) H):=by
 intro pins s σ H xs us Q I r h;obtain⟨a,bs,rfl,hq,q⟩:=h;obtain⟨u,rfl,ru⟩:=IW r;cases ru;obtain⟨its,rv,p,hzz⟩:=I.list hq;have ll:=rv.length;rw[Ab] at ll;refine call_any_walk (CO p.isList ?_);obtain⟨o,ho,_⟩:=id p.isList;have lt:=Ag ho;refine⟨s.heap.objs.size,_,_,_,_,_,λi=>bs.getD i false,rfl,Walks.list (A:=X.A.in1) (I.ok.hd hc) s.heap.objs.size a (Al lt) its.toArray,⟨⟨_,Ai _ rfl,rfl,rfl⟩,p.isList.at λo' e=>Ad _ e⟩,?_,λg t' k=>?_⟩
 · intro i v s' Q' E' hv q';have hi:its[i]?=some v:=by simpa using hv
   have hl:i<its.length:=(Am.mp hi).1;have e:(bs.map V.bl)[i]?=some (.bl (bs.getD i false)):=by rw[Ah,AB (by omega),Es,AB (by omega)];rfl
   obtain⟨u,h1,h2⟩:=Vals.get rv e;rw[hi] at h1;cases h1;cases h2;exact Be q'
 · refine⟨.bl (bs.any id),H,I.kept (λb o' e=>k b o' ?_ (Ad _ e)),?_,q⟩
   · intro z;exact absurd (Aw.mp z) (Al (Ag e))
   · show Value.bool _=Value.bool _;congr 1;rw[Ak,←ll];clear rv ll hq q p ho lt hzz
     induction bs with
     | nil=>rfl
     | cons b r ih=> rw[A5,D8,Cq,Du,Cq,←ih];rfl
theorem UY{tg:Expr}(K:Af)(h:X.K=K){l:Expr}{tl:TE}(hl:PE X l tl)(hc:X.calm=true:=by rfl):PI X tg l (Pj K tl):=by subst h;exact II hl
theorem UJ(o:Option Int):Ir (dE o)=0:=by cases o<;>rfl
def Ji(ps:List (Addr×PP)):List (Addr×Hs×V):=ps.map λp=>(p.1,(Sum.inr p.2.1:Hs),V.int p.2.2)
theorem Wd(ps:List (Addr×PP))(pok:POk (ps.map (·.2)))(f:Str):∀(n:Nat),n≤ps.length→Hv ((Ji (ps.take n)).foldl (λacc p=>Hw acc p.2.1 p.2.2) []) (.inr f:Hs)=(IL ((ps.map (·.2)).take n) f).map V.int:=by
 intro n
 induction n with
 | zero=>intro _;rfl
 | succ n ih=>
  intro hn;have e1:ps[n]?=some ps[n]:=by simp
  have ew:(ps.map (·.2))[n]?=some ps[n].2:=by rw[Ah,e1];rfl
  have fr:=pok.fresh ew;rw[JL e1,JL ew,Rz _ _ _ fr];unfold Ji at ih ⊢;rw[Au,List.foldl_append];show Hv (Hw _ (Sum.inr ps[n].2.1:Hs) (V.int ps[n].2.2)) (.inr f)=_;rw[QM];by_cases hf:f=ps[n].2.1
  · rw[if_pos hf,if_pos (by rw[hf])];rfl
  · rw[if_neg hf,if_neg (λz=>hf (by injection z))];exact ih (by omega)
theorem Ws(ps:List (Addr×PP))(pok:POk (ps.map (·.2)))(f:Str):Hv ((Ji ps).foldl (λacc p=>Hw acc p.2.1 p.2.2) []) (.inr f:Hs)=(IL (ps.map (·.2)) f).map V.int:=by have:=Wd ps pok f ps.length (Ae _);rw[Bt,AZ (by simp)] at this;exact this
theorem Wi{ms fs:List Str}(p:ms.Perm fs)(n:ms.Nodup)(s:sortedS ms=true)(a:fs.Pairwise Iq):ms=fs:=
 List.Perm.eq_of_pairwise (le:=Iq) (λx y _ _ h1 h2=>absurd (QZ h1 h2) (λz=>MN z rfl)) (Mt s n) a p
abbrev JY:=Option Int×Option Int
def OG:Option JY→Option JY→Option JY
 | none,o=>o
 | some s,none=>some s
 | some s,some t=>some (Sb s.1 t.1,Sc s.2 t.2)
structure IsMet(w1 w2 m:List WP):Prop where
 len:m.length≤w1.length+w2.length
 asc:(m.map (·.1)).Pairwise Iq
 sp:∀f,LS m f=OG (LS w1 f) (LS w2 f)
def Te(w1:List WP)(p:WP):Bool:=match LS w1 p.1 with
 | none=>false
 | some s=>LH (Sb s.1 p.2.1) (Sc s.2 p.2.2)
def Tf(w1 w2:List WP):Bool:=w2.any (Te w1)
def Jh(p:WP):PD:= .tup [.str p.1,dE p.2.1,dE p.2.2]
def dW(w:List WP):PD:= .tup (w.map Jh)
theorem PF:∀ps:List (Addr×WP),(∀p∈ps,H p.1=some (.tup [.str p.2.1,eV p.2.2.1,eV p.2.2.2]))→Reps K H ((ps.map (·.2)).map Jh) (ps.map λp=>V.ref p.1)
 | [],_=>by show Reps K H [] [];rw[Reps]
 | p::ps,h=>by show Reps K H (Jh p.2::_) (V.ref p.1::_);rw[Reps];refine⟨_,_,rfl,?_,PF ps λq hq=>h q (Ao _ hq)⟩;unfold Jh;rw[GZ];refine⟨p.1,_,rfl,SqT.of (h p Ar),?_⟩;rw[Reps];refine⟨_,_,rfl,by rw[GZ],?_⟩;rw[Reps];refine⟨_,_,rfl,P5 _,?_⟩;rw[Reps];exact⟨_,_,rfl,P5 _,by rw[Reps]⟩
theorem Pc{w:List WP}(h:WishAt H a w):GZ K H (dW w) (.ref a):=by obtain⟨ps,rfl,h1,h2⟩:=h;unfold dW;rw[GZ];exact⟨a,_,rfl,SqT.of h1,PF ps h2⟩
theorem UI(p:WP):Ir (Jh p)=1:=by unfold Jh;simp[Ir,IQ,UJ]
theorem QU:∀w:List WP,IQ (w.map Jh)≤1
 | []=>by show IQ []≤1;rw[IQ];omega
 | p::w=>by rw[Av,IQ,UI];have:=QU w;omega
theorem TY(w:List WP):Ir (dW w)≤2:=by unfold dW;rw[Ir];have:=QU w;omega
theorem Qa(a b:Option Int):Hk (dE a) (dE b)=decide (a=b):=by cases a<;>cases b<;>simp only[dE,Hk]<;>rw[BO]<;>simp
theorem Uo(p q:WP):Hk (Jh p) (Jh q)=decide (p=q):=by obtain⟨f,a,b⟩:=p;obtain⟨g,c,d⟩:=q;unfold Jh;rw[Hk,Ib,Ib,Ib,Ib,Qa,Qa,Hk,BO];simp
theorem Qb:∀w w':List WP,Ib (w.map Jh) (w'.map Jh)=decide (w=w')
 | [],[]=>by rw[DL,Ib];rfl
 | [],y::r=>by rw[DL,Av,Ib];rfl;all_goals simp
 | x::r,[]=>by rw[DL,Av,Ib];rfl;all_goals simp
 | x::r,y::r'=>by rw[Av,Av,Ib,Uo,Qb r r',BO];simp
theorem SV(w w':List WP):Hk (dW w) (dW w')=decide (w=w'):=by unfold dW;rw[Hk,Qb]
def Sd(a b:Int):Bool:=decide (a<b)
def OH{α β:Type}[DecidableEq α](l:α→α→Bool)(m:β→β→Bool)(x y:α×β):Bool:=if x.1=y.1 then m x.2 y.2 else l x.1 y.1
def XW:Option Int→Int×Int
 | none=>(0,0)
 | some l=>(1,l)
def XX:Option Int→Int×Int
 | none=>(1,0)
 | some h=>(0,h)
def d2(p:Int×Int):PD:= .tup [.int p.1,.int p.2]
abbrev XZ:=Str×(Int×Int)×(Int×Int)
def ky(p:WP):XZ:=(p.1,XW p.2.1,XX p.2.2)
def KY:Int×Int→Int×Int→Bool:=OH Sd Sd
end L2
set_option maxHeartbeats 1000000
namespace L2
open PySem PySem.Spec PyProof.Rows PySem.W
def SG:R2:=λx y H Q=>∃a b xs ys,x= .ref a∧y= .ref b∧H a=some (.tup xs)∧H b=some (.tup ys)∧xs.length+ys.length≤As∧∀p H',Same H H'→H' p=some (.tup (xs++ys))→Q (.ref p) H'
theorem Nd:HK X (binaryOp .Add) SG:=by
 intro pins s σ H x y v u Q I rx ry h;obtain⟨a,b,xs,ys,rfl,rfl,ha,hb,hz,q⟩:=h;cases rx;cases ry;obtain⟨its,r1,p1,_⟩:=I.tuple (SqT.of ha);obtain⟨its2,r2,p2,_⟩:=I.tuple (SqT.of hb);by_cases hx:xs=[]
 · subst hx;cases r1;obtain⟨⟨cls,dd,data,sl⟩,ho,hc,n,hd⟩:=id p1;obtain⟨⟨cls2,dd2,data2,sl2⟩,ho2,hc2,n2,hd2⟩:=id p2;simp only at hc hd hc2 hd2;subst hc hd hc2 hd2;exact concat_meets ⟨_,ho,rfl⟩ ⟨_,ho2,rfl⟩ noFill_tuple_add seq_tuple_add D7 Dv (Dr _ _)
    (tuple_addW0 a b _ _ n n2 dd dd2 sl sl2 rfl) ⟨ho,ho2,⟨.ref b,H,I,rfl,q b H (Same.refl _) hb⟩⟩
 · refine HT.cat_tup p1 p2 (λz=>hx (r1.nil_iff.mp z)) (λz=>⟨.ref a,H,I,rfl,q a H (Same.refl _) (by rw[r2.nil_iff.mp z,CK];exact ha)⟩) (λz=>?_) (by rw[←r1.length,←r2.length];exact hz);have hn:=I.hok.fresh (Ae _);refine⟨.ref s.heap.objs.size,_,I.laid (t':=s.toks) (o:= .tup (xs++ys)) (λb ob q=>Ad _ q) (Ae _) ?_,rfl,q _ _ (Hh hn _) Hb⟩;exact⟨by rw[AG];exact hz,_,r1.append r2,IsTupP.new _ _⟩
def O2:V→Option Int→Option Int→Hp→VK→Prop:=λx lo hi H Q=>∃a xs,x= .ref a∧H a=some (.tup xs)∧∀p H',Same H H'→H' p=some (.tup (HJ xs lo hi))→Q (.ref p) H'
theorem Wb{lo hi:Option Int}(h:HT.sIx xs.length 0 lo=0∧HT.sIx xs.length xs.length hi=xs.length):HJ xs lo hi=xs:=by unfold HJ;rw[h.1,h.2,Eb,Nat.sub_zero];exact AZ (Ae _)
theorem LW:K_ X O2:=by intro pins s σ H x v vl vu lo hi sl Q I rx hs pl pu h;obtain⟨a,xs,rfl,ha,q⟩:=h;exact Qr pins s σ H (.ref a) v vl vu lo hi sl Q I rx hs pl pu ⟨a,xs,rfl,SqT.of ha,λhw=>q a H (Same.refl _) (by rw[Wb hw];exact ha),λ_ p hp=>q p _ (Hh hp _) Hb⟩
theorem N4{k:Int}(e:k=(n:Int)):HJ xs none (some k)=xs.take n:=by
 subst e;unfold HJ;rw[HT.sIx_none,HT.sIx_nat,Eb,Nat.sub_zero];by_cases h:n≤xs.length
 · rw[Nat.min_eq_left h]
 · rw[Nat.min_eq_right (by omega),AZ (Ae _),AZ (by omega)]
theorem Rs{k:Int}(e:k=(n:Int)):HJ xs (some k) none=xs.drop n:=by
 subst e;unfold HJ;rw[HT.sIx_none,HT.sIx_nat];by_cases h:n≤xs.length
 · rw[Nat.min_eq_left h];exact AZ (by simp)
 · rw[Nat.min_eq_right (by omega),Nat.sub_self,List.take_zero,Fj (by omega)]
open PySem PySem.Spec PyProof.Rows PySem.W
section
variable{o:HO}
end
open PySem PySem.Spec PyProof.Rows PySem.W
section
variable{base:Heap}{l:List Env}{H':Hp}{s0 s':Shared}{C t:Addr}{B h':Heap}
end
section
variable{H':Hp}{s':Shared}{C:Addr}
end
def del(H:Hp)(a:Addr):Hp:=λb=>if b=a then none else H b
section
variable{e C:Addr}
end
section
variable{g:Array GenState}{d:Drawn}{t:Nat}{os:OsState}{nm q:Str}{C N:Addr}{bs bm bmB:List Value}{hdct:Bool}{sn:List Str}{sub:List Value}
variable{ab:Bool}{col:Option Bool}{dd:Option Addr}{k0 k1 k2 k3 k5:Option Value}{B newId initId:String}{rest:List Value}
end
section
variable{g:Array GenState}{d:Drawn}{t:Nat}{os:OsState}{nm q:Str}{C N:Addr}{bs bm bmB:List Value}{hdct:Bool}{sn:List Str}{sub:List Value}
variable{ab:Bool}{col:Option Bool}{dd:Option Addr}{k0 k1 k2 k3 k5:Option Value}{B newId initId:String}{rest:List Value}
end
section
variable{mg:Str→Option Value}{base:Heap}{N:List Str}{qual:Str}{f:Addr}{cd:Value}{outer:List Env}{E:XK}
end
section
variable{mg:Str→Option Value}{base:Heap}{N:List Str}{qual:Str}{f:Addr}{cd:Value}{outer:List Env}{E:XK}
end
section
variable{E:XK}{C fI:Addr}{fd:Bv}{k:Nat}{e1:Expr}{t:TA}{np cpos:Pos}
end
section
variable{o:HO}
end
section
variable{pins':List (Addr×Obj)}{RR:St→Value→Hp→Prop}
end
section
variable{base:Heap}{l:List Env}{H':Hp}{s0 s':Shared}{C t:Addr}{B:Heap}
end
section
variable{M:Model}{g:Array GenState}{d:Drawn}{t:Nat}{os:OsState}{nm q nm0 q0:Str}{C N C0 N0 e:Addr}{bs bm bs0 bm0:List Value}{hdct hdct0:Bool}{sn sn0:List Str}{sub sub0:List Value}
variable{ab ab0:Bool}{col col0:Option Bool}{dd dd0:Option Addr}{k0 k1 k2 k3 k5 j0 j1 j2 j3 j5:Option Value}{newId newId0:String}{oe:Obj}
end
section
variable{C0:Addr}{n:Str}{body suite:List Stmt}{b₀:Stmt}{np hpos:Pos}{tb:(St→Value→Hp→Prop)→TS}{ts:TS}
end
open PySem.W (Looks looks_findIn looks_mroIn looks_typeIn)
section
variable{g:Array GenState}{d:Drawn}{t:Nat}{os:OsState}{C:Addr}
end
def JX:V→Value
 | .ref D=> .ref D
 | .ty n=> .type n
 | _=> .none
def MQ:V→Bool
 | .ref _=>true
 | .ty _=>true
 | _=>false
theorem UF{c:V}(h:MQ c=true)(r:RelV c u):u=JX c:=by
 cases c with
 | ref D=>exact r
 | ty n=>exact r
 | _=>cases h
theorem Rr:∀{cs:List V}{us:List Value},cs.all MQ=true→Vals cs us→us=cs.map JX
 | [],_,_,.nil=>rfl
 | c::cs,_,h,.cons r rs=>by rw[C2,AV] at h;rw[UF h.1 r,Rr h.2 rs];rfl
end L2
namespace WB
end WB
namespace WB
end WB
namespace L2
section
variable{te:TE}{p2 p3 p4:Pos}
def VN(te:TE):TE:=λσ H Q=>te σ H λx H1=>∃j:Nat,[x]=[V.int j]∧j≤10000∧∀l,H1 l=none→Q (.ref l) (GY H1 l (.lst (((AX j).map (λ(i:Nat)=>(i:Int))).map V.int)))
theorem WK(hc:X.calm=true)(he:PE X e te)(hg:Gl X "list")(hm:X.mg "list"=none)(hg2:Gl X "range")(hm2:X.mg "range"=none)
 (h1:Az [e] X.env=(false,eval e X.env)::Az [] X.env:=by rfl)
 (h2:Az [.Call (.Name "range" p2) [e] [] p3] X.env=(false,eval (.Call (.Name "range" p2) [e] [] p3) X.env)::Az [] X.env:=by rfl)
 (h3:(backTo p3 (Az [] X.env)).any (·.1)=false:=by rfl) (h4:(backTo pos (Az [] X.env)).any (·.1)=false:=by rfl):
 PE X (.Call (.Name "list" p4) [.Call (.Name "range" p2) [e] [] p3] [] pos) (VN te):=by
 intro pins s σ H Q I h;refine Bi (IY I hg hm Jc ?_ (by decide) (by decide));refine Bh ?_ h2 h4;rw[h2];show wpAny _ _ (spliced ((false,eval (.Call (.Name "range" p2) [e] [] p3) X.env)::backTo pos (Az [] X.env))) _ _ s;refine CJ ?_;refine Bi (IY I hg2 hm2 boot_range ?_ (by decide) (by decide));refine Bh (He (GW he GX h1 p3 pins s σ H (λvs H1=>∃j:Nat,vs=[V.int j]∧j≤10000∧∀l,H1 l=none→Q (.ref l) (GY H1 l (.lst (((AX j).map (λ(i:Nat)=>(i:Int))).map V.int)))) I h) λus s1 ⟨vs,H1,I1,r1,j,hv,hj,q⟩=>?_) h1 h3;subst hv;obtain⟨u1,rfl,v1⟩:=IW r1;obtain⟨t,rfl⟩:=v1;refine call_range_1 ?_;refine CQ ?_;generalize hh:(s1.heap.push {cls:= .type "range",data:= .fields #[.int 0 s1.toks,.int (j:Int) t,.int 1 (s1.toks+1)]})=h2;have I2:Inv X pins σ H1 {s1 with heap:=h2,toks:=s1.toks+1+1}:=I1.kept λb o e=>by rw[←hh];exact Ad _ e
 have hr:IsRange h2 s1.heap.objs.size 0 j 1 s1.toks t (s1.toks+1):=by rw[←hh];exact IsRange.new ..
 have hsz:ER 0 j 1=((j:Nat):Int):=by rw[rangeSize_one];split<;>omega
 refine call_list_range (s:={s1 with heap:=h2,toks:=s1.toks+1+1}) (I2.ok.hd hc) hr (small_one (by decide) (by decide) (by omega) (by omega)) hsz (by omega) λh' tk acc' c' hk hS' hacc=>?_
 have hn:H1 h2.objs.size=none:=I2.hok.fresh (Ae _);refine⟨.ref h2.objs.size,GY H1 h2.objs.size (.lst (((AX j).map (λ(i:Nat)=>(i:Int))).map V.int)),I2.laid (t':=tk) hk (Ae _) ?_,rfl,q _ hn⟩;refine⟨by rw[Ab,Ab,Ca,sizeLine_eq];omega,acc'.toList,c',?_,by simpa using hS'⟩;have aux:∀(us:List Value)(k:Nat),(∀(i:Nat)(v:Value),us[i]?=some v→∃t,v= .int ((k+i:Nat):Int) t)→Vals (((List.range' k us.length).map (λ(i:Nat)=>(i:Int))).map V.int) us:=by
  intro us
  induction us with
  | nil=>intro k _;exact .nil
  | cons v us ih=> intro k hv;rw[A5,List.range'_succ,Av,Av];obtain⟨t,e⟩:=hv 0 v rfl;refine .cons ⟨t,by rw[e];rfl⟩ (ih (k+1) λi w hw=>?_);obtain⟨t,e⟩:=hv (i+1) w (by simpa using hw);exact⟨t,by rw[e];congr 1;omega⟩
 have:=aux acc'.toList 0 (λi v hv=>by obtain⟨t,e⟩:=hacc.2 i v (by simpa using hv);exact⟨t,by rw[e];congr 1;omega⟩);rw[Aj,hacc.1] at this;rw[List.range_eq_range'];exact this
end
end L2
namespace WB
end WB
namespace L2
inductive DX where
 | non
 | bl (b:Bool)
 | int (i:Int)
 | str (x:Str)
 | lst (ds:List DX)
 | tup (ds:List DX)
 | dic
mutual
def pd:DX→PyData
 | .non=> .none
 | .bl b=> .bool b
 | .int i=> .int i
 | .str x=> .str x
 | .lst ds=> .list (OC ds)
 | .tup ds=> .tuple (OC ds)
 | .dic=> .dict []
def OC:List DX→List PyData
 | []=>[]
 | d::ds=>pd d::OC ds
end
open PySem.AutoSeq1 (wpAny_loadPart')
open PySem.MeetsSeq PySem.MeetsSeq2 PySem.MeetsSeq3 PySem.SeqRoads2
def EqIn(P:Bb)(w:World)(A:BB)(s:Shared)(y x:Value):Prop:=∀(E:Value→Shared→Prop)(Q:Bool→Shared→Prop),Q true s→wpAny (model P w) A (eqBool y x) Q E s
theorem EqIn.of{y x:Value}(h:EE A s y x true):EqIn P w A s y x:=λE Q q=>h P w E Q q
theorem Wt(l b:Addr)(items items2:Array Value)(n n2:Nat)(dd dd2:Option Addr)(sl sl2:Array (Option Value))(hsz:items.size=items2.size)(k:Nat):
 ∀i:Nat,items.size - i=k→∀(A:BB)(R:Result→Shared→Prop)(s:Shared),s.heap.get? l=some {cls:= .type "list",dict:=dd,data:= .seq items n,slots:=sl}→s.heap.get? b=some {cls:= .type "list",dict:=dd2,data:= .seq items2 n2,slots:=sl2}→
  (∀j(h1:j<items.size)(h2:j<items2.size),EqIn P w A.in1 s items[j] items2[j])→R (.ok (.ret (.bool true))) s→
  wpAny (model P w) A.in1 (Builtin.«list.__eq__.loop» ⟨[.ref l,.ref b,rawInt i,rawInt 2],[]⟩) (λfin s'=>match fin with | .done f=>R (.ok f) s' | .again c'=>c'.quiet=true∧codeAny (model P w) A c' R s') (λe s'=>R (.error e) s') s:=by
 induction k with
 | zero=>
  intro i hk A R s hl hb he h;obtain⟨hp,g,d,tk,os⟩:=s
  wp_walk using AS hl,AS hb
  have o1:items[((i:Nat):Int).toNat]?=none:=by simp;omega
  have o2:items2[((i:Nat):Int).toNat]?=none:=by simp;omega
  rw[o1,o2]
  wp_walk using AS hl,AS hb
  show R (.ok (.ret (.bool (items.size==items2.size)))) _;rw[hsz];simpa using h
 | succ k ih=>
  intro i hk A R s hl hb he h;obtain⟨hp,g,d,tk,os⟩:=s
  wp_walk using AS hl,AS hb
  have lt1:i<items.size:=by omega
  have KY:i<items2.size:=by omega
  have o1:items[((i:Nat):Int).toNat]?=some items[i]:=by simp[lt1]
  have o2:items2[((i:Nat):Int).toNat]?=some items2[i]:=by simp[KY]
  have hc:((i:Int)+1)=((i+1:Nat):Int):=by push_cast;rfl
  rw[o1,o2];refine Aa (he i lt1 KY _ _ ?_)
  wp_walk
  rw[hc];exact⟨BI plain_eq_loop _,A_ entry_eq_loop (by rw[AO plain_eq_loop _];exact ih (i+1) (by omega) A R _ hl hb he h)⟩
theorem To(l b:Addr)(items items2:Array Value)(n n2:Nat)(dd dd2:Option Addr)(sl sl2:Array (Option Value))(hsz:items.size=items2.size)(A:BB)(R:Result→Shared→Prop)(s:Shared)
 (hl:s.heap.get? l=some {cls:= .type "list",dict:=dd,data:= .seq items n,slots:=sl}) (hb:s.heap.get? b=some {cls:= .type "list",dict:=dd2,data:= .seq items2 n2,slots:=sl2})
 (he:∀j(h1:j<items.size)(h2:j<items2.size),EqIn P w A.in1 s items[j] items2[j]) (h:R (.ok (.ret (.bool true))) s):
 wpAny (model P w) A.in1 (Builtin.«list.__eq__» ⟨[.ref l,.ref b],[]⟩) (λfin s'=>match fin with | .done f=>R (.ok f) s' | .again c'=>c'.quiet=true∧codeAny (model P w) A c' R s') (λe s'=>R (.error e) s') s:=by
 obtain⟨hp,g,d,tk,os⟩:=s;have f3:=Fk;have hne:¬(items.size !=items2.size)=true:=by simp[hsz]
 wp_walk using AS hl,AS hb
 exact⟨BI plain_eq_loop _,A_ entry_eq_loop (by rw[AO plain_eq_loop _];exact Wt l b items items2 n n2 dd dd2 sl sl2 hsz _ 0 rfl A R _ hl hb he h)⟩
theorem Qc{l:Addr}{items items2:Array Value}{E:Value→Shared→Prop}{Q:Value→Shared→Prop}(hl:s.heap.IsList l items)(hb:s.heap.IsList b items2)(hsz:items.size=items2.size)(hu:A.units<cLine)
 (he:∀j(h1:j<items.size)(h2:j<items2.size),EqIn P w A.in1 s items[j] items2[j]) (h:Q (.bool true) s):wpAny (model P w) A (richCompare .Eq (.ref l) (.ref b)) Q E s:=by
 obtain⟨⟨c1,dd,data,sl⟩,ho,hc,n,hd⟩:=id hl;obtain⟨⟨c2,dd2,data2,sl2⟩,ho2,hc2,n2,hd2⟩:=id hb;simp only at hc hd hc2 hd2;subst hc hd hc2 hd2;refine Cb (op:= .Eq) ⟨_,ho,rfl⟩ ⟨_,ho2,rfl⟩ F.slot_list_eq ?_ hu;refine EC (Dd F.slot_list_eq.plain F.entry_list_eq (F.slot_list_eq.check _ _ _ _ _ _ _ _ ⟨_,ho,rfl⟩ (F.args_list_eq_2 _ _) ?_));exact To l b items items2 n n2 dd dd2 sl sl2 hsz A (wants (λv s'=>v≠ .notImplemented∧Q v s') E) s ho ho2 he (show Value.bool true≠Value.notImplemented∧Q (.bool true) s from⟨(λx=>nomatch x),h⟩)
theorem Q5{l:Addr}{items items2:Array Value}{E:Value→Shared→Prop}{Q:Value→Shared→Prop}(hl:s.heap.IsTuple l items)(hb:s.heap.IsTuple b items2)(hsz:items.size=items2.size)(hu:A.units<cLine)
 (he:∀j(h1:j<items.size)(h2:j<items2.size),EqIn P w A.in1 s items[j] items2[j]) (h:Q (.bool true) s):wpAny (model P w) A (richCompare .Eq (.ref l) (.ref b)) Q E s:=by
 obtain⟨⟨c1,dd,data,sl⟩,ho,hc,n,hd⟩:=id hl;obtain⟨⟨c2,dd2,data2,sl2⟩,ho2,hc2,n2,hd2⟩:=id hb;simp only at hc hd hc2 hd2;subst hc hd hc2 hd2;refine Cb (op:= .Eq) ⟨_,ho,rfl⟩ ⟨_,ho2,rfl⟩ F.slot_tuple_eq (AR F.slot_tuple_eq ⟨_,ho,rfl⟩ F.entry_tuple_eq ?_ (F.args_tuple_eq_2 _ _)) hu;obtain⟨hp,g,d,tk,os⟩:=s;have f2:=AutoSeq1.sub_tuple_tuple;have hZ:(items.toList.zip items2.toList).length=items.size:=by simp[hsz]
 wp_walk using AS ho,AS ho2,BA _ (λrest b s'=>b.1=none∧s'=⟨hp,g,d,tk,os⟩∧∃i,rest=(items.toList.zip items2.toList).drop i) _
 case turn=>
  rintro⟨y,x⟩ rest b s' ⟨hb',rfl,i,hz⟩;have lt0:i<(items.toList.zip items2.toList).length:=by
   rcases Nat.lt_or_ge i (items.toList.zip items2.toList).length with h' | h'
   · exact h'
   · rw[List.drop_of_length_le h'] at hz;cases hz
  have h1:i<items.size:=hZ ▸ lt0;have h2:i<items2.size:=hsz ▸ h1;rw[Dm lt0] at hz;injection hz with hyx hrest
  have hy:y=items[i]:=by have:=congrArg Prod.fst hyx;simpa using this
  have hx:x=items2[i]:=by have:=congrArg Prod.snd hyx;simpa using this
  subst hy hx;refine Aa (he i h1 h2 _ _ ?_)
  wp_walk
  exact⟨rfl,rfl,i+1,hrest⟩
 case fin=>
  rintro⟨b1,b2⟩ s' ⟨hb',rfl,i,hz⟩;simp only at hb';subst hb'
  wp_walk
  refine⟨_,rfl,?_⟩;have e:CG .Eq items.size items2.size=Value.bool true:=by simp[CG,hsz]
  first | (rw[e];exact⟨(λx=>nomatch x),h⟩) | (simpa [CG,hsz] using h)
 case h=>exact⟨rfl,rfl,0,rfl⟩
open PySem PySem.Spec PyProof.Rows PySem.Calls
section
variable{κ:Type}[DecidableEq κ]{knd:KeyKind P w κ}
theorem Wp{nm:String}{ka kb:List (κ×Value)}{Q:Bool→Shared→Prop}(ha:(a==Cn)=false)(hb:(b==Cn)=false)
 (da:s.heap.DictOf knd a ka) (db:s.heap.DictOf knd b kb) (hlen:ka.length=kb.length) (hits:∀(i:Nat)(k:κ)(v:Value),ka[i]?=some (k,v)→∃y,valueAt kb k=some y∧EqIn P w A s v y) (h:Q true s):
 wpAny (model P w) A (Fl nm a b) Q E s:=by
 obtain⟨o1,m1,p1,g1,_,d1,q1,z1,_⟩:=da;obtain⟨o2,m2,p2,g2,_,d2,q2,z2,_⟩:=db;have n1:ka.length=m1.size:=by rw[←z1.length];exact Aj
 have n2:kb.length=m2.size:=by rw[←z2.length];exact Aj
 have look:∀k,findBy knd.is m2 k=valueAt kb k:=λk=>by rw[←z2.find k];clear n2 z2 q2 d2 g2;obtain⟨l⟩:=m2;simp[findBy]
 have same:m1.size=m2.size:=by omega
 unfold Fl Builtin.Dict.showsAll;rw[if_neg (by rw[ha];exact An),if_neg (by rw[hb];exact An)];refine Aa (Ac (Aa (Ac (Aa (D6 g1 d1 ?_)))));dsimp only;refine Aa (D6 g2 d2 ?_);rw[if_neg (by rw[same];simp)];refine Aa (wpAny_dictEpoch g1 d1 (Aa ?_));rw[Std.Legacy.Range.forIn_eq_forIn_range'];simp only[Std.Legacy.Range.size,Nat.sub_zero,Nat.add_sub_cancel,Nat.div_one];refine BA _ (λrest q s'=>s'=s∧q=(none,())∧∃i,rest=List.range' i (m1.size - i)∧i≤m1.size) _ ?_ ?_ _ _ ⟨rfl,rfl,0,by simp,Br _⟩
 · rintro x rest q s' ⟨rfl,rfl,i,hr,hi⟩;have lt0:i<m1.size:=by
    rcases Nat.lt_or_ge i m1.size with z | z
    · exact z
    · rw[Nat.sub_eq_zero_of_le z] at hr;simp at hr
   obtain⟨rfl,ht⟩:x=i∧rest=List.range' (i+1) (m1.size - (i+1)):=by
    have e:m1.size - i=(m1.size - (i+1))+1:=by omega
    rw[e,List.range'_succ] at hr;injection hr with z1 z2
    exact⟨z1,z2⟩
   refine Aa (D6 g1 d1 ?_);rw[AY lt0];have lt1:x<ka.length:=by omega
   obtain⟨k,v,kv⟩:∃k v,ka[x]=(k,v):=⟨_,_,rfl⟩;have kv':ka[x]?=some (k,v):=by rw[AB lt1,kv]
   obtain⟨hkey,hval⟩:=z1.get? (i:=x) (e:=m1[x]) (k:=k) (v:=v) (by rw[AI];exact AY lt0) kv';obtain⟨k',hk',hh⟩:=q1 m1[x] (Array.getElem_mem lt0);have ekk:k'=k:=knd.inj _ _ _ hk' hkey;rw[ekk] at hh;obtain⟨y,hy,he⟩:=hits x k v kv';show wpAny _ _ (holding [m1[x].key,m1[x].val] _>>=_) _ _ _;rw[hh];refine Aa (AE (Aa (wpAny_dictFind_of hkey g2 d2 q2 ?_)));cases hj:m2.findIdx? λe=>knd.is k e.key with
   | none=>
    have:valueAt kb k=none:=by rw[←look k,findBy_of_findIdx?,hj]
    rw[this] at hy;cases hy
   | some j=>
    obtain⟨jlt,_,_⟩:=Array.findIdx?_eq_some_iff_getElem.mp hj;have hv':valueAt kb k=some m2[j].val:=by rw[←look k,findBy_of_findIdx?,hj];simp[AY jlt]
    refine Aa (D6 g2 d2 ?_);rw[AY jlt];have ey:m2[j].val=y:=A7 (hv'.symm.trans hy);rw[←ey,←hval] at he;refine AE (he _ _ ?_);show wpAny _ _ (if(!true)=true then _ else _) _ _ _
    rw[if_neg (by decide)];refine Aa (wpAny_dictEpoch g1 d1 ?_);rw[if_neg (by simp)];exact Ac ⟨rfl,rfl,x+1,ht,lt0⟩
 · rintro q s' ⟨rfl,rfl,i,hr,hi⟩;exact Ac h
theorem LU{ka kb:List (κ×Value)}{Q:Value→Shared→Prop}(ha:(a==Cn)=false)(hb:(b==Cn)=false)
 (da:s.heap.DictOf knd a ka) (db:s.heap.DictOf knd b kb) (hu:A.units<cLine) (hlen:ka.length=kb.length) (hits:∀(i:Nat)(k:κ)(v:Value),ka[i]?=some (k,v)→∃y,valueAt kb k=some y∧EqIn P w A.in1 s v y) (h:Q (.bool true) s):
 wpAny (model P w) A (richCompare .Eq (.ref a) (.ref b)) Q E s:=by
 refine Cb (op:= .Eq) da.typeIs db.typeIs FB (AR FB da.typeIs PySem.F.entry_dict_eq ?_ (PySem.F.args_dict_eq_2 _ _)) hu;show wpAny _ _ (EG "__eq__" ⟨[.ref a,.ref b],[]⟩>>=_) _ _ s;unfold EG;refine Aa (Aa (wpAny_notOrdered_dict da.typeIs ?_));show wpAny _ _ (pure (Value.ref a,Value.ref b)) _ _ s;refine Ac (Aa (Cu (T:="dict") db.typeIs PySem.F.sub_dict_dict ?_));simp only[BJ,A3,if_false];refine Aa (Ac (Aa (Ac (Aa (Wp ha hb da db hlen hits ?_)))));exact Ac ⟨_,rfl,(λx=>nomatch x),by simpa using h⟩
end
inductive DY where
 | non
 | bl (b:Bool)
 | int (i:Int)
 | str (x:Str)
 | lst (ds:List DY)
 | tup (ds:List DY)
 | dic
 | da (d:DY)
mutual
def RepY(H:Hp):DY→V→Prop
 | .non,v=>v= .non
 | .bl b,v=>v= .bl b
 | .int i,v=>v= .int i
 | .str x,v=>v= .str x∧x.length≤900
 | .lst ds,v=>∃a xs,v= .ref a∧H a=some (.lst xs)∧ds.length≤900∧RepYs H ds xs
 | .tup ds,v=>∃a xs,v= .ref a∧H a=some (.tup xs)∧ds.length≤900∧RepYs H ds xs
 | .dic,v=>∃a,v= .ref a∧H a=some (.dK [])
 | .da d,v=>∃a u,v= .ref a∧H a=some (.dK [(.inr "a",u)])∧RepY H d u
def RepYs(H:Hp):List DY→List V→Prop
 | [],xs=>xs=[]
 | d::ds,xs=>∃x r,xs=x::r∧RepY H d x∧RepYs H ds r
end
mutual
theorem RepY.same{H':Hp}(s:Same H H'):∀(d:DY){v:V},RepY H d v→RepY H' d v
 | .non,v,h=>by rw[RepY] at*;exact h
 | .bl b,v,h=>by rw[RepY] at*;exact h
 | .int i,v,h=>by rw[RepY] at*;exact h
 | .str x,v,h=>by rw[RepY] at*;exact h
 | .lst ds,v,h=>by rw[RepY] at*;obtain⟨a,xs,e,h1,h0,h2⟩:=h;exact⟨a,xs,e,s _ _ h1,h0,RepYs.same s ds h2⟩
 | .tup ds,v,h=>by rw[RepY] at*;obtain⟨a,xs,e,h1,h0,h2⟩:=h;exact⟨a,xs,e,s _ _ h1,h0,RepYs.same s ds h2⟩
 | .dic,v,h=>by rw[RepY] at*;obtain⟨a,e,h1⟩:=h;exact⟨a,e,s _ _ h1⟩
 | .da d,v,h=>by rw[RepY] at*;obtain⟨a,u,e,h1,h2⟩:=h;exact⟨a,u,e,s _ _ h1,RepY.same s d h2⟩
theorem RepYs.same{H':Hp}(s:Same H H'):∀(ds:List DY){xs:List V},RepYs H ds xs→RepYs H' ds xs
 | [],xs,h=>by rw[RepYs] at*;exact h
 | d::ds,xs,h=>by rw[RepYs] at*;obtain⟨x,r,e,h1,h2⟩:=h;exact⟨x,r,e,RepY.same s d h1,RepYs.same s ds h2⟩
end
theorem RepYs.length:∀{ds:List DY}{xs:List V},RepYs H ds xs→xs.length=ds.length
 | [],xs,h=>by rw[RepYs] at h;rw[h];rfl
 | d::ds,xs,h=>by rw[RepYs] at h;obtain⟨x,r,rfl,_,h⟩:=h;rw[A5,A5,RepYs.length h]
theorem RepYs.get:∀{ds:List DY}{xs:List V}{i:Nat}{x:V},RepYs H ds xs→xs[i]?=some x→∃d,ds[i]?=some d∧RepY H d x
 | [],xs,i,x,h,e=>by rw[RepYs] at h;subst h;simp at e
 | d::ds,xs,0,x,h,e=>by rw[RepYs] at h;obtain⟨y,r,rfl,h1,h2⟩:=h;simp at e;subst e;exact⟨d,rfl,h1⟩
 | d::ds,xs,i+1,x,h,e=>by rw[RepYs] at h;obtain⟨y,r,rfl,h1,h2⟩:=h;simp at e;obtain⟨d',e1,e2⟩:=RepYs.get h2 e;exact⟨d',by simpa using e1,e2⟩
mutual
def HE:DY→Nat
 | .lst ds=>Io ds+1
 | .tup ds=>Io ds+1
 | .da d=>HE d+1
 | _=>0
def Io:List DY→Nat
 | []=>0
 | d::ds=>max (HE d) (Io ds)
end
theorem Mq{l:Addr}(h:∀(E:Value→Shared→Prop)(Q:Value→Shared→Prop),Q (.bool true) s→wpAny (model P w) A (richCompare .Eq (.ref l) (.ref b)) Q E s):EqIn P w A s (.ref l) (.ref b):=λE Q hq=>by
 by_cases e:l=b
 · subst e;exact Dk (.ref l) P w E Q hq
 · unfold eqBool;refine AE ?_;refine wpAny_ite_split (λhab=>absurd (by have:=eq_of_beq hab;injection this) e) (λ_=>?_);exact Aa (h E _ (Be hq))
mutual
theorem Nm(I:Inv X pins σ H s):∀(A:BB)(d:DY)(v v':V)(u u':Value),RepY H d v→RepY H d v'→RelV v u→RelV v' u'→A.units+HE d<cLine→EqIn X.prog X.w A s u u'
 | A,.non,v,v',u,u',h,h',r,r',z=>by rw[RepY] at h h';subst h h';exact EqIn.of (KO I A .non .non _ _ _ _ (by rw[GZ]) (by rw[GZ]) r r' (show A.units+0<cLine by omega))
 | A,.bl b,v,v',u,u',h,h',r,r',z=>by rw[RepY] at h h';subst h h';have:=KO I A (.bl b) (.bl b) _ _ _ _ (by rw[GZ]) (by rw[GZ]) r r' (show A.units+0<cLine by omega);rw[JK] at this;exact EqIn.of this
 | A,.int b,v,v',u,u',h,h',r,r',z=>by rw[RepY] at h h';subst h h';have:=KO I A (.int b) (.int b) _ _ _ _ (by rw[GZ]) (by rw[GZ]) r r' (show A.units+0<cLine by omega);rw[JK] at this;exact EqIn.of this
 | A,.str b,v,v',u,u',h,h',r,r',z=>by rw[RepY] at h h';obtain⟨rfl,_⟩:=h;obtain⟨rfl,_⟩:=h';have:=KO I A (.str b) (.str b) _ _ _ _ (by rw[GZ]) (by rw[GZ]) r r' (show A.units+0<cLine by omega);rw[JK] at this;exact EqIn.of this
 | A,.lst ds,v,v',u,u',h,h',r,r',z=>by rw[RepY] at h h';obtain⟨a,xs,rfl,h1,_,h2⟩:=h;obtain⟨a',xs',rfl,h1',_,h2'⟩:=h';cases(show u=Value.ref a from r);cases(show u'=Value.ref a' from r');obtain⟨_,its,n,rv,hg⟩:=(show ObjOk X.prog X.w H s.heap a (.lst xs) from I.hok a _ h1);obtain⟨_,its',n',rv',hg'⟩:=(show ObjOk X.prog X.w H s.heap a' (.lst xs') from I.hok a' _ h1');have l1:=h2.length;have l2:=h2'.length;have l3:=rv.length;have l4:=rv'.length;rw[HE] at z;refine Mq λE Q q=>Qc ⟨_,hg,rfl,_,rfl⟩ ⟨_,hg',rfl,_,rfl⟩ (by simp only[Ak];omega) (by omega) (λj k1 k2=>?_) q;have:=Lk I A.in1 ds xs xs' its its' h2 h2' rv rv' (by rw[Bn];omega) j (by simpa using k1) (by simpa using k2);simpa using this
 | A,.tup ds,v,v',u,u',h,h',r,r',z=>by rw[RepY] at h h';obtain⟨a,xs,rfl,h1,_,h2⟩:=h;obtain⟨a',xs',rfl,h1',_,h2'⟩:=h';cases(show u=Value.ref a from r);cases(show u'=Value.ref a' from r');obtain⟨_,its,rv,o,hg,hc,_,n,hd⟩:=(show ObjOk X.prog X.w H s.heap a (.tup xs) from I.hok a _ h1);obtain⟨_,its',rv',o',hg',hc',_,n',hd'⟩:=(show ObjOk X.prog X.w H s.heap a' (.tup xs') from I.hok a' _ h1');have l1:=h2.length;have l2:=h2'.length;have l3:=rv.length;have l4:=rv'.length;rw[HE] at z;refine Mq λE Q q=>Q5 ⟨_,hg,hc,_,hd⟩ ⟨_,hg',hc',_,hd'⟩ (by simp only[Ak];omega) (by omega) (λj k1 k2=>?_) q;have:=Lk I A.in1 ds xs xs' its its' h2 h2' rv rv' (by rw[Bn];omega) j (by simpa using k1) (by simpa using k2);simpa using this
 | A,.dic,v,v',u,u',h,h',r,r',z=>by rw[RepY] at h h';obtain⟨a,rfl,h1⟩:=h;obtain⟨a',rfl,h1'⟩:=h';cases(show u=Value.ref a from r);cases(show u'=Value.ref a' from r');obtain⟨_,hS,vs,rk,dd⟩:=Jy I.hok h1;obtain⟨_,hS',vs',rk',dd'⟩:=Jy I.hok h1';cases rk;cases rk';exact Mq λE Q q=>LU hS hS' dd dd' (by omega) rfl (λi k v e=>by simp at e) q
 | A,.da d,v,v',u,u',h,h',r,r',z=>by
  rw[RepY] at h h';obtain⟨a,y,rfl,h1,h2⟩:=h;obtain⟨a',y',rfl,h1',h2'⟩:=h';cases(show u=Value.ref a from r);cases(show u'=Value.ref a' from r');obtain⟨_,hS,vs,rk,dd⟩:=Jy I.hok h1;obtain⟨_,hS',vs',rk',dd'⟩:=Jy I.hok h1';rw[HE] at z;have l1:1=vs.length:=KV.length rk;have l2:1=vs'.length:=KV.length rk';refine Mq λE Q q=>LU hS hS' dd dd' (by omega) (by omega) (λi k w e=>?_) q;cases rk with
  | cons p1 p2=>
   cases p2;cases rk' with
   | cons p1' p2'=>
    cases p2';rename_i kw kw';obtain⟨k0,w0⟩:=kw;obtain⟨k0',w0'⟩:=kw';obtain⟨e1,r1⟩:=p1;obtain⟨e1',r1'⟩:=p1';dsimp only at e1 e1' r1 r1';subst e1 e1';cases i with
    | succ i=>simp at e
    | zero=> simp at e;obtain⟨rfl,rfl⟩:=e;refine⟨w0',by simp[valueAt],Nm I A.in1 d y y' w0 w0' h2 h2' r1 r1' (by rw[Bn];omega)⟩
theorem Lk(I:Inv X pins σ H s):∀(A:BB)(ds:List DY)(vs ws:List V)(us ys:List Value),RepYs H ds vs→RepYs H ds ws→Vals vs us→Vals ws ys→A.units+Io ds<cLine→
 ∀(j:Nat)(h1:j<us.length)(h2:j<ys.length),EqIn X.prog X.w A s us[j] ys[j]
 | A,[],vs,ws,us,ys,h,h',r,r',z=>by rw[RepYs] at h;subst h;cases r;intro j h1;simp at h1
 | A,d::ds,vs,ws,us,ys,h,h',r,r',z=>by
  rw[RepYs] at h h';obtain⟨x,q,rfl,g1,g2⟩:=h;obtain⟨x',q',rfl,g1',g2'⟩:=h';rw[Io] at z;cases r with
  | cons r1 r2=>
   cases r' with
   | cons r1' r2'=>
    intro j h1 h2;cases j with
    | zero=>exact Nm I A d x x' _ _ g1 g1' r1 r1' (by omega)
    | succ j=>exact Lk I A ds q q' _ _ g2 g2' r2 r2' (by omega) j (by simpa using h1) (by simpa using h2)
end
theorem U0(I:Inv X pins σ H s)(A:BB)(d:DY)(v v':V)(u u':Value)(h:RepY H d v)(h':RepY H d v')(r:RelV v u)(r':RelV v' u')(z:A.units+HE d<cLine){E:Value→Shared→Prop}{Q:Value→Shared→Prop}(q:Q (.bool true) s):
 wpAny (model X.prog X.w) A (richCompare .Eq u u') Q E s:=by
 cases d with
 | non=> rw[RepY] at h h';subst h h';exact Mg I A .non .non _ _ _ _ (by rw[GZ]) (by rw[GZ]) r r' (show A.units+0<cLine by omega) X.prog X.w _ _ q
 | bl b=> rw[RepY] at h h';subst h h';have:=Mg I A (.bl b) (.bl b) _ _ _ _ (by rw[GZ]) (by rw[GZ]) r r' (show A.units+0<cLine by omega);rw[JK] at this;exact this X.prog X.w _ _ q
 | int b=> rw[RepY] at h h';subst h h';have:=Mg I A (.int b) (.int b) _ _ _ _ (by rw[GZ]) (by rw[GZ]) r r' (show A.units+0<cLine by omega);rw[JK] at this;exact this X.prog X.w _ _ q
 | str b=> rw[RepY] at h h';obtain⟨rfl,_⟩:=h;obtain⟨rfl,_⟩:=h';have:=Mg I A (.str b) (.str b) _ _ _ _ (by rw[GZ]) (by rw[GZ]) r r' (show A.units+0<cLine by omega);rw[JK] at this;exact this X.prog X.w _ _ q
 | lst ds=> rw[RepY] at h h';obtain⟨a,xs,rfl,h1,_,h2⟩:=h;obtain⟨a',xs',rfl,h1',_,h2'⟩:=h';cases(show u=Value.ref a from r);cases(show u'=Value.ref a' from r');obtain⟨_,its,n,rv,hg⟩:=(show ObjOk X.prog X.w H s.heap a (.lst xs) from I.hok a _ h1);obtain⟨_,its',n',rv',hg'⟩:=(show ObjOk X.prog X.w H s.heap a' (.lst xs') from I.hok a' _ h1');have l1:=h2.length;have l2:=h2'.length;have l3:=rv.length;have l4:=rv'.length;rw[HE] at z;refine Qc ⟨_,hg,rfl,_,rfl⟩ ⟨_,hg',rfl,_,rfl⟩ (by simp only[Ak];omega) (by omega) (λj k1 k2=>?_) q;have:=Lk I A.in1 ds xs xs' its its' h2 h2' rv rv' (by rw[Bn];omega) j (by simpa using k1) (by simpa using k2);simpa using this
 | tup ds=> rw[RepY] at h h';obtain⟨a,xs,rfl,h1,_,h2⟩:=h;obtain⟨a',xs',rfl,h1',_,h2'⟩:=h';cases(show u=Value.ref a from r);cases(show u'=Value.ref a' from r');obtain⟨_,its,rv,o,hg,hc,_,n,hd⟩:=(show ObjOk X.prog X.w H s.heap a (.tup xs) from I.hok a _ h1);obtain⟨_,its',rv',o',hg',hc',_,n',hd'⟩:=(show ObjOk X.prog X.w H s.heap a' (.tup xs') from I.hok a' _ h1');have l1:=h2.length;have l2:=h2'.length;have l3:=rv.length;have l4:=rv'.length;rw[HE] at z;refine Q5 ⟨_,hg,hc,_,hd⟩ ⟨_,hg',hc',_,hd'⟩ (by simp only[Ak];omega) (by omega) (λj k1 k2=>?_) q;have:=Lk I A.in1 ds xs xs' its its' h2 h2' rv rv' (by rw[Bn];omega) j (by simpa using k1) (by simpa using k2);simpa using this
 | dic=> rw[RepY] at h h';obtain⟨a,rfl,h1⟩:=h;obtain⟨a',rfl,h1'⟩:=h';cases(show u=Value.ref a from r);cases(show u'=Value.ref a' from r');obtain⟨_,hS,vs,rk,dd⟩:=Jy I.hok h1;obtain⟨_,hS',vs',rk',dd'⟩:=Jy I.hok h1';cases rk;cases rk';exact LU hS hS' dd dd' (by omega) rfl (λi k v e=>by simp at e) q
 | da d=>
  rw[RepY] at h h';obtain⟨a,y,rfl,h1,h2⟩:=h;obtain⟨a',y',rfl,h1',h2'⟩:=h';cases(show u=Value.ref a from r);cases(show u'=Value.ref a' from r');obtain⟨_,hS,vs,rk,dd⟩:=Jy I.hok h1;obtain⟨_,hS',vs',rk',dd'⟩:=Jy I.hok h1';rw[HE] at z;have l1:1=vs.length:=KV.length rk;have l2:1=vs'.length:=KV.length rk';refine LU hS hS' dd dd' (by omega) (by omega) (λi k w e=>?_) q;cases rk with
  | cons p1 p2=>
   cases p2;cases rk' with
   | cons p1' p2'=>
    cases p2';rename_i kw kw';obtain⟨k0,w0⟩:=kw;obtain⟨k0',w0'⟩:=kw';obtain⟨e1,r1⟩:=p1;obtain⟨e1',r1'⟩:=p1';dsimp only at e1 e1' r1 r1';subst e1 e1';cases i with
    | succ i=>simp at e
    | zero=> simp at e;obtain⟨rfl,rfl⟩:=e;refine⟨w0',by simp[valueAt],Nm I A.in1 d y y' w0 w0' h2 h2' r1 r1' (by rw[Bn];omega)⟩
def O8:R2:=λx y H Q=>∃d,RepY H d x∧RepY H d y∧HE d<60∧Q (.bl true) H
theorem SL(hr:Jb X):HK X (Bq .Eq) O8:=by intro pins s σ H x y v u Q I rx ry h;obtain⟨d,h1,h2,h3,q⟩:=h;unfold Jb at hr;exact U0 I X.A d x y v u h1 h2 rx ry (by omega) ⟨.bl true,H,I,rfl,q⟩
theorem RF:I0 X (.builtin "isinstance") (λxs H Q=>∃x t tp cs b,xs=[x,.ref tp]∧TyOf X.K H x (.type t)∧H tp=some (.tup cs)∧cs.all MQ=true∧PySem.W.kitAny X.K (.type t) (cs.map JX)=some b∧Q (.bl b) H):=by
 intro pins s σ H xs us Q I r h;obtain⟨x,t,tp,cs,b,rfl,ty,ht,hc,e,q⟩:=h;obtain⟨u,w',rfl,ru,rw'⟩:=KJ r;cases(show w'=Value.ref tp from rw');obtain⟨_,its,rv,o,h1,h2,h3,n,h4⟩:=(show ObjOk X.prog X.w H s.heap tp (.tup cs) from I.hok tp _ ht);obtain⟨oc,od,oda,osl⟩:=o;dsimp only at h2 h3 h4;subst h2 h3 h4;have hi:its=cs.map JX:=Rr hc rv;subst hi;have fin:∀tk,EP X pins σ Q (.bool b) {s with toks:=tk}:=λtk=>⟨.bl b,H,I.tok tk,rfl,q⟩
 generalize ht':(Value.type t)=T at ty e;cases ty with
 | non=>cases(show u=Value.none from ru);exact BQ PySem.W.kitx_none I.kIn True.intro h1 e (λz=>nomatch z) fin
 | bl y=>cases(show u=Value.bool y from ru);exact BQ PySem.W.kitx_bool I.kIn True.intro h1 e (λz=>nomatch z) fin
 | int i=>obtain⟨t,q⟩:=(show ∃t,u=Value.int i t from ru);cases q;exact BQ PySem.W.kitx_int I.kIn True.intro h1 e (λz=>nomatch z) fin
 | str y=>obtain⟨t,q⟩:=(show ∃t,u=Value.str y t from ru);cases q;exact BQ PySem.W.kitx_str I.kIn True.intro h1 e (λz=>nomatch z) fin
 | flt y=>obtain⟨t,q⟩:=(show ∃t,u=Value.float y t from ru);cases q;exact BQ PySem.W.kitx_float I.kIn True.intro h1 e (λz=>nomatch z) fin
 | @lst a xs ea=> cases(show u=Value.ref a from ru);obtain⟨_,_,n,_,g1⟩:=(show ObjOk X.prog X.w H s.heap a (.lst xs) from I.hok a _ ea);exact BQ Dx I.kIn ⟨_,g1,rfl⟩ h1 e (λz=>nomatch z) fin
 | @tup a xs ea=> cases(show u=Value.ref a from ru);obtain⟨_,_,_,o,g1,g2,_⟩:=(show ObjOk X.prog X.w H s.heap a (.tup xs) from I.hok a _ ea);exact BQ PySem.W.kitx_tuple I.kIn ⟨o,g1,g2⟩ h1 e (λz=>nomatch z) fin
 | @dK a kvs ea=> cases(show u=Value.ref a from ru);obtain⟨_,_,vs,_,p⟩:=(show ObjOk X.prog X.w H s.heap a (.dK kvs) from I.hok a _ ea);obtain⟨o,es,ep,g1,g2,_⟩:=p;exact BQ Dy I.kIn ⟨o,g1,g2.1⟩ h1 e (λz=>nomatch z) fin
 | @frz a ob xs ea=> cases(show u=Value.ref a from ru);obtain⟨_,_,_,n,_,g1⟩:=(show ObjOk X.prog X.w H s.heap a (.frz ob (.lst xs)) from I.hok a _ ea);exact BQ Dx I.kIn ⟨_,g1,rfl⟩ h1 e (λz=>nomatch z) fin
 | @dT a kvs ea=> cases(show u=Value.ref a from ru);obtain⟨_,_,xs,_,o,es,ep,g1,g2,_⟩:=(show ObjOk X.prog X.w H s.heap a (.dT kvs) from I.hok a _ ea);exact BQ Dy I.kIn ⟨o,g1,g2.1⟩ h1 e (λz=>nomatch z) fin
 | ins=>cases ht'
def OO(b g:Addr)(H:Hp):Hp:=λa=>if a=b∨a=g then none else H a
def MT(D:Nat)(sp:Nat→Sp):Sp:=λvs H Q E=>∃n,n≤D∧sp n vs H Q E
section
variable{mg:Str→Option Value}{base:Heap}
def SJ:Sp:=λ_ _ _ _=>False
theorem P3{st:Stmt}{f:Addr}{fd:Bv}{N ps:List Str}(F:Fun K x x st f fd)(S:FnScope N ps (Hj st))(b:Binds K fd ps [])(M:mg x=some (.ref f))(L:Nat)(sp:Nat→Sp)
 (step:∀n sp0,(∀m,n=m+1→sp0=sp m)→HA P w K mg base (L+1+n) x ps sp0→FnOk P w K mg base Hu (L+1+n+1) f fd ps (sp n)):∀n,FnOk P w K mg base Hu (L+1+n+1) f fd ps (sp n)
 | 0=>step 0 SJ (λm z=>by cases z) ⟨f,fd,F.ok (k:=L) S (λ_ _ _ _ h=>h.elim) (λ_ _ _ _ _ _ _ _ _ h=>h.elim),b,F.kp,M⟩
 | n+1=>step (n+1) (sp n) (λm z=>by cases z;rfl) ⟨f,fd,P3 F S b M L sp step n,b,F.kp,M⟩
theorem TQ{f:Addr}{fd:Bv}{ps:List Str}{L D:Nat}{sp:Nat→Sp}(h:∀n,FnOk P w K mg base Hu (L+1+n+1) f fd ps (sp n)):FnOk P w K mg base Hu (L+D+2) f fd ps (MT D sp):=
 ⟨λvs H Q E ⟨n,_,q⟩=>(h n).len vs H Q E q,λA outer s H args us vs Q E hr he hb hv ⟨n,hn,q⟩=>(h n).run A outer s H args us vs Q E (hr.mono (by omega)) he hb hv q⟩
end
def Ly(K:Af):R2:=λx y H Q=>∃p xs i v,x= .ref p∧y= .int i∧(SqL K H p xs∨SqT K H p xs)∧Ie xs i=some v∧Q v H
theorem Tp:KC X (Ly X.K):=by
 intro value slice pins s σ H x y v u Q I rx ry h hs;obtain⟨p,xs,i,z,rfl,rfl,hq,he,q⟩:=h;rcases hq with hq | hq
 · exact HZ value slice pins s σ H _ _ v u Q I rx ry ⟨p,xs,i,z,rfl,rfl,hq,he,q⟩ hs
 · exact IX value slice pins s σ H _ _ v u Q I rx ry ⟨p,xs,i,z,rfl,rfl,hq,he,q⟩ hs
theorem Qj(K:Af)(h:X.K=K):KC X (Ly K):=by subst h;exact Tp
def eD:Option Int→DY
 | none=> .non
 | some i=> .int i
theorem Q0(H:Hp)(o:Option Int):RepY H (eD o) (eV o):=by
 cases o with
 | none=>show RepY H .non .non;rw[RepY]
 | some i=>show RepY H (.int i) (.int i);rw[RepY]
theorem UK(o:Option Int):HE (eD o)=0:=by cases o<;>rfl
theorem RepYs.nil:RepYs H [] []:=by rw[RepYs]
theorem RepYs.cons{d:DY}{ds:List DY}{x:V}(h:RepY H d x)(hs:RepYs H ds xs):RepYs H (d::ds) (x::xs):=by rw[RepYs];exact⟨x,xs,rfl,h,hs⟩
theorem Li{ds:List DY}(h:H a=some (.lst xs))(hs:RepYs H ds xs)(hl:xs.length≤900):RepY H (.lst ds) (.ref a):=by rw[RepY];exact⟨a,xs,rfl,h,by rw[←hs.length];exact hl,hs⟩
theorem KS{ds:List DY}(h:H a=some (.tup xs))(hs:RepYs H ds xs)(hl:xs.length≤900):RepY H (.tup ds) (.ref a):=by rw[RepY];exact⟨a,xs,rfl,h,by rw[←hs.length];exact hl,hs⟩
theorem JG:∀{ds:List DY}{m:Nat},(∀d∈ds,HE d≤m)→Io ds≤m
 | [],m,_=>by rw[Io];exact Br _
 | d::ds,m,h=>by rw[Io];have h1:=h d (Ar ..);have h2:=JG λe he=>h e (Ao _ he);omega
theorem Ny:∀{ds:List DY}{d:DY},d∈ds→HE d≤Io ds
 | [],d,h=>nomatch h
 | e::ds,d,h=>by
  rw[Io];rcases Ax.mp h with rfl | h
  · omega
  · have:=Ny h;omega
theorem J4{t u:TS}{D:Ends}(M:St→Hp→Prop)(h1:∀Z:St→Hp→Prop,(∀σ' H',M σ' H'→Z σ' H')→t {D with nx:=Z} σ H)(h2:∀σ' H',M σ' H'→u D σ' H'):K5 t u D σ H:=h1 (u D) h2
theorem HQ{v:V}{Q:St→Hp→Prop}(h:Q (σ.set i (some v)) H):JA i v σ H Q:=h
theorem WishAt.tyN{w:List WP}(h:WishAt H a w):∃xs,H a=some (.tup xs)∧xs.length=w.length:=by obtain⟨ps,rfl,e,_⟩:=h;exact⟨_,e,by simp⟩
structure WsAt(H:Hp)(l:Addr)(ws:List (Addr×List WP)):Prop where
 at':H l=some (.lst (ws.map λx=>V.ref x.1))
 ok:∀x∈ws,WishAt H x.1 x.2∧WOk x.2
 len:ws.length≤800
theorem WsAt.same{H':Hp}{l:Addr}{ws:List (Addr×List WP)}(h:WsAt H l ws)(s:Same H H'):WsAt H' l ws:=⟨s _ _ h.at',λx hx=>⟨(h.ok x hx).1.same s,(h.ok x hx).2⟩,h.len⟩
def Qs:Sp:=λvs H Q _=>∃(l:Addr)(ws:List (Addr×List WP)),vs=[.ref l]∧WsAt H l ws∧∀H',Same H H'→Q (.bl true) H'
def JS(p:WP):DY:= .tup [.str p.1,eD p.2.1,eD p.2.2]
def JT(w:List WP):DY:= .tup (w.map JS)
theorem R3:∀ps:List (Addr×WP),(∀p∈ps,H p.1=some (.tup [.str p.2.1,eV p.2.2.1,eV p.2.2.2]))→(∀p∈ps,p.2.1.length≤8)→RepYs H ((ps.map (·.2)).map JS) (ps.map λp=>V.ref p.1)
 | [],_,_=>RepYs.nil
 | p::ps,h,hl=>by refine RepYs.cons ?_ (R3 ps (λx hx=>h x (Ao _ hx)) λx hx=>hl x (Ao _ hx));refine KS (h p Ar) (RepYs.cons ?_ (RepYs.cons (Q0 H _) (RepYs.cons (Q0 H _) RepYs.nil))) (by simp);rw[RepY];exact⟨rfl,AF (hl p Ar) (by decide)⟩
theorem Wh{w:List WP}(h:WishAt H a w)(ok:WOk w):RepY H (JT w) (.ref a):=by obtain⟨ps,rfl,e,f⟩:=h;refine KS e (R3 ps f λp hp=>?_) (by have:=ok.len;rw[Ab] at*;omega);exact(ok.ok p.2 (Bm hp)).1.eight
theorem RI:∀ws:List (Addr×List WP),(∀x∈ws,WishAt H x.1 x.2∧WOk x.2)→RepYs H ((ws.map (·.2)).map JT) (ws.map λp=>V.ref p.1)
 | [],_=>RepYs.nil
 | x::ws,h=>RepYs.cons (Wh (h x Ar).1 (h x Ar).2) (RI ws λy hy=>h y (Ao _ hy))
theorem WsAt.repY{l:Addr}{ws:List (Addr×List WP)}(h:WsAt H l ws):RepY H (.lst ((ws.map (·.2)).map JT)) (.ref l):=
 Li h.at' (RI ws h.ok) (by have:=h.len;rw[Ab];omega)
theorem Vn(w:List WP):HE (JT w)≤2:=by
 unfold JT;rw[HE];have:Io (w.map JS)≤1:=JG λd hd=>by obtain⟨p,_,rfl⟩:=AU.mp hd;unfold JS;simp only[HE,Io,UK];omega
 omega
theorem Wc(ws:List (List WP)):HE (.lst (ws.map JT))≤3:=by
 rw[HE];have:Io (ws.map JT)≤2:=JG λd hd=>by obtain⟨p,_,rfl⟩:=AU.mp hd;exact Vn p
 omega
open PySem.AutoSeq1 (wpAny_loadPart')
open PySem.MeetsSeq PySem.MeetsSeq2 PySem.MeetsSeq3 PySem.SeqRoads2 PySem.Calls
theorem Wz(l b:Addr)(items items2:Array Value)(n n2:Nat)(dd dd2:Option Addr)(sl sl2:Array (Option Value))(hsz:items.size=items2.size)(k:Nat):
 ∀i:Nat,items.size - i=k→∀(A:BB)(R:Result→Shared→Prop)(s:Shared),s.heap.get? l=some {cls:= .type "list",dict:=dd,data:= .seq items n,slots:=sl}→s.heap.get? b=some {cls:= .type "list",dict:=dd2,data:= .seq items2 n2,slots:=sl2}→
  (∀j(h1:j<items.size)(h2:j<items2.size),EqIn P w A.in1 s items[j] items2[j])→R (.ok (.ret (.bool false))) s→
  wpAny (model P w) A.in1 (Builtin.«list.__eq__.loop» ⟨[.ref l,.ref b,rawInt i,rawInt 3],[]⟩) (λfin s'=>match fin with | .done f=>R (.ok f) s' | .again c'=>c'.quiet=true∧codeAny (model P w) A c' R s') (λe s'=>R (.error e) s') s:=by
 induction k with
 | zero=>
  intro i hk A R s hl hb he h;obtain⟨hp,g,d,tk,os⟩:=s
  wp_walk using AS hl,AS hb
  have o1:items[((i:Nat):Int).toNat]?=none:=by simp;omega
  have o2:items2[((i:Nat):Int).toNat]?=none:=by simp;omega
  rw[o1,o2]
  wp_walk using AS hl,AS hb
  show R (.ok (.ret (.bool (items.size !=items2.size)))) _;rw[hsz];simpa using h
 | succ k ih=>
  intro i hk A R s hl hb he h;obtain⟨hp,g,d,tk,os⟩:=s
  wp_walk using AS hl,AS hb
  have lt1:i<items.size:=by omega
  have KY:i<items2.size:=by omega
  have o1:items[((i:Nat):Int).toNat]?=some items[i]:=by simp[lt1]
  have o2:items2[((i:Nat):Int).toNat]?=some items2[i]:=by simp[KY]
  have hc:((i:Int)+1)=((i+1:Nat):Int):=by push_cast;rfl
  rw[o1,o2];refine Aa (he i lt1 KY _ _ ?_)
  wp_walk
  rw[hc];exact⟨BI plain_eq_loop _,A_ entry_eq_loop (by rw[AO plain_eq_loop _];exact ih (i+1) (by omega) A R _ hl hb he h)⟩
theorem Tx(l b:Addr)(items items2:Array Value)(n n2:Nat)(dd dd2:Option Addr)(sl sl2:Array (Option Value))(hsz:items.size=items2.size)(A:BB)(R:Result→Shared→Prop)(s:Shared)
 (hl:s.heap.get? l=some {cls:= .type "list",dict:=dd,data:= .seq items n,slots:=sl}) (hb:s.heap.get? b=some {cls:= .type "list",dict:=dd2,data:= .seq items2 n2,slots:=sl2})
 (he:∀j(h1:j<items.size)(h2:j<items2.size),EqIn P w A.in1 s items[j] items2[j]) (h:R (.ok (.ret (.bool false))) s):
 wpAny (model P w) A.in1 (Builtin.«list.__ne__» ⟨[.ref l,.ref b],[]⟩) (λfin s'=>match fin with | .done f=>R (.ok f) s' | .again c'=>c'.quiet=true∧codeAny (model P w) A c' R s') (λe s'=>R (.error e) s') s:=by
 obtain⟨hp,g,d,tk,os⟩:=s;have f3:=Fk;have hne:¬(items.size !=items2.size)=true:=by simp[hsz]
 wp_walk using AS hl,AS hb
 exact⟨BI plain_eq_loop _,A_ entry_eq_loop (by rw[AO plain_eq_loop _];exact Wz l b items items2 n n2 dd dd2 sl sl2 hsz _ 0 rfl A R _ hl hb he h)⟩
theorem TH{l:Addr}{items items2:Array Value}{E:Value→Shared→Prop}{Q:Value→Shared→Prop}(hl:s.heap.IsList l items)(hb:s.heap.IsList b items2)(hsz:items.size=items2.size)(hu:A.units<cLine)
 (he:∀j(h1:j<items.size)(h2:j<items2.size),EqIn P w A.in1 s items[j] items2[j]) (h:Q (.bool false) s):wpAny (model P w) A (richCompare .NotEq (.ref l) (.ref b)) Q E s:=by
 obtain⟨⟨c1,dd,data,sl⟩,ho,hc,n,hd⟩:=id hl;obtain⟨⟨c2,dd2,data2,sl2⟩,ho2,hc2,n2,hd2⟩:=id hb;simp only at hc hd hc2 hd2;subst hc hd hc2 hd2;refine Cb (op:= .NotEq) ⟨_,ho,rfl⟩ ⟨_,ho2,rfl⟩ F.slot_list_ne ?_ hu;refine EC (Dd F.slot_list_ne.plain F.entry_list_ne (F.slot_list_ne.check _ _ _ _ _ _ _ _ ⟨_,ho,rfl⟩ (F.args_list_ne_2 _ _) ?_));exact Tx l b items items2 n n2 dd dd2 sl sl2 hsz A (wants (λv s'=>v≠ .notImplemented∧Q v s') E) s ho ho2 he (show Value.bool false≠Value.notImplemented∧Q (.bool false) s from⟨(λx=>nomatch x),h⟩)
section
variable{κ:Type}[DecidableEq κ]{knd:KeyKind P w κ}
end
def O5:R2:=λx y H Q=>∃a b xs,x= .ref a∧y= .ref b∧H a=some (.lst xs)∧H b=some (.lst [])∧Q (.bl (!xs.isEmpty)) H
theorem SM(hr:Jb X):HK X (Bq .NotEq) O5:=by
 intro pins s σ H x y v u Q I rx ry h;obtain⟨a,b,xs,rfl,rfl,ha,hb,q⟩:=h;cases(show v=Value.ref a from rx);cases(show u=Value.ref b from ry);unfold Jb at hr;obtain⟨_,its,n,rv,hg⟩:=(show ObjOk X.prog X.w H s.heap a (.lst xs) from I.hok a _ ha);obtain⟨_,its',n',rv',hg'⟩:=(show ObjOk X.prog X.w H s.heap b (.lst []) from I.hok b _ hb);cases rv';cases xs with
 | nil=> cases rv;exact TH ⟨_,hg,rfl,_,rfl⟩ ⟨_,hg',rfl,_,rfl⟩ rfl (by omega) (λj k1 k2=>absurd k1 (by simp)) ⟨.bl false,H,I,rfl,q⟩
 | cons x xs=> have l:=rv.length;exact Er (l:=a) (b:=b) ⟨_,hg,rfl,_,rfl⟩ ⟨_,hg',rfl,_,rfl⟩ (by simp;intro z;rw[z] at l;simp at l) (by omega) X.prog X.w _ _ ⟨.bl true,H,I,rfl,q⟩
theorem U6{v:V}{u:TS}{D:Ends}(h:u D (σ.set i (some v)) H):K5 (Jt (tC v) (JA i)) u D σ H:=h
theorem MK:AQ "abs"=some (.builtin "abs"):=by decide+kernel
abbrev wM:Int:=2147483563
structure Well(H:Hp)(b g l:Addr)(n:Int):Prop where
 ex:∃(gs ls:List Int)(sd c:Int),H b=some (.lst [.ref g,.ref l,.int sd,.int c])∧H g=some (.lst (gs.map V.int))∧H l=some (.lst (ls.map V.int))∧
  gs.length≤63∧ls.length≤63∧(∀x∈ls,0≤x∧x<wM)∧0≤sd∧sd<wM∧0≤c∧c≤n
 gl:g≠l
 bg:b≠g
 bl:b≠l
theorem Well.mono{g l:Addr}{n m:Int}(B:Well H b g l n)(h:n≤m):Well H b g l m:=by obtain⟨⟨gs,ls,sd,c,h1,h2,h3,h4,h5,h6,h7,h8,h9,h10⟩,gl,bg,bl⟩:=B;exact⟨⟨gs,ls,sd,c,h1,h2,h3,h4,h5,h6,h7,h8,h9,Int.le_trans h10 h⟩,gl,bg,bl⟩
theorem Well.same{H':Hp}{g l:Addr}{n:Int}(B:Well H b g l n)(h:Same H H'):Well H' b g l n:=by obtain⟨⟨gs,ls,sd,c,h1,h2,h3,h4⟩,gl,bg,bl⟩:=B;exact⟨⟨gs,ls,sd,c,h _ _ h1,h _ _ h2,h _ _ h3,h4⟩,gl,bg,bl⟩
theorem Well.tup{g l:Addr}{n:Int}{H':Hp}(B:Well H b g l n)(s:SameB b g H H')(h:H a=some (.tup xs)):H' a=some (.tup xs):=by obtain⟨gs,ls,c,st,h1,h2,_⟩:=B.ex;exact s a _ h (ME h h1 (by intro z;cases z)) (ME h h2 (by intro z;cases z))
theorem Well.free{g l:Addr}{n:Int}(B:Well H b g l n){p:Addr}(h:H p=none):p≠b∧p≠g∧p≠l:=by obtain⟨gs,ls,c,st,h1,h2,h3,_⟩:=B.ex;exact⟨(IA h1 h).symm,(IA h2 h).symm,(IA h3 h).symm⟩
theorem Well.trk{g l:Addr}{n:Int}(B:Well H b g l n):H b≠none∧H g≠none:=by
 obtain⟨gs,ls,c,st,h1,h2,_⟩:=B.ex;refine⟨?_,?_⟩
 · rw[h1];exact FK _
 · rw[h2];exact FK _
theorem Well.back{H':Hp}{g l:Addr}{n:Int}(B:Well H' b g l n)(s:SameB b g H H'):∀a,H' a=Option.none→H a=Option.none:=λa h=>by
 cases e:H a with
 | none=>rfl
 | some o=> have h1:a≠b:=λz=>B.trk.1 (z ▸ h);have h2:a≠g:=λz=>B.trk.2 (z ▸ h);rw[s a o e h1 h2] at h;cases h
theorem Well.off{g l p:Addr}{n:Int}{o:HO}(B:Well H b g l n)(pb:p≠b)(pg:p≠g)(pl:p≠l):Well (GY H p o) b g l n:=by obtain⟨gs,ls,c,st,e1,e2,e3,r⟩:=B.ex;exact⟨⟨gs,ls,c,st,by rw[Hm pb.symm];exact e1,by rw[Hm pg.symm];exact e2,by rw[Hm pl.symm];exact e3,r⟩,B.gl,B.bg,B.bl⟩
theorem WishAt.sameW{H':Hp}{g l:Addr}{n:Int}{w:List WP}(h:WishAt H a w)(B:Well H b g l n)(s:SameB b g H H'):WishAt H' a w:=h.keep λ_ _ e=>B.tup s e
theorem WsAt.sameW{H':Hp}{g m:Addr}{n:Int}{l:Addr}{ws:List (Addr×List WP)}(h:WsAt H l ws)(B:Well H b g m n)(lb:l≠b)(lg:l≠g)(s:SameB b g H H'):WsAt H' l ws:=⟨s _ _ h.at' lb lg,λx hx=>⟨(h.ok x hx).1.sameW B s,(h.ok x hx).2⟩,h.len⟩
theorem IE{m:Int}(h:m≤10^6):m<2^500:=Int.lt_of_le_of_lt h (by decide)
def PR(K:Af):Sp:=λvs H Q _=>∃(a:Addr)(ns:List Int),vs=[.ref a]∧SqL K H a (ns.map V.int)∧ns.length≤63∧
 ∀(b g l:Addr)(H':Hp),Well H' b g l 0→Same H H'→H b=none→H g=none→Q (.ref b) H'
def PN:Sp:=λvs H Q _=>∃(b g l:Addr)(n many:Int),vs=[.ref b,.int many]∧Well H b g l n∧n≤2^40∧0<many∧many<2^500∧
 ∀(r:Int)(H':Hp),0≤r→r<many→Well H' b g l (n+1)→SameB b g H H'→Q (.int r) H'
def PL:Sp:=λvs H Q _=>∃(b g l:Addr)(n most:Int),vs=[.ref b,.int most]∧Well H b g l n∧n≤10^8∧1≤most∧most≤8∧
 ∀(x:Str)(H':Hp),FieldOk x→Well H' b g l (n+12)→SameB b g H H'→Q (.str x) H'
def PH:Sp:=λvs H Q _=>∃(b g l:Addr)(n:Int),vs=[.ref b]∧Well H b g l n∧n≤10^9∧∀(r:Int)(H':Hp), -(10^15)<r→r<10^15→Well H' b g l (n+5)→SameB b g H H'→Q (.int r) H'
def PJ:Sp:=λvs H Q _=>∃(b g l:Addr)(n:Int),vs=[.ref b]∧Well H b g l n∧n≤10^8∧
 ∀(t:Addr)(lo sz:Int)(H':Hp),H' t=some (.tup [.int lo,.int sz])→ -(10^15)<lo→lo<10^15→1≤sz→sz≤10^10→Well H' b g l (n+12)→SameB b g H H'→Q (.ref t) H'
def Qu:Sp:=λvs H Q _=>∃(b g l t:Addr)(n lo sz wide:Int),vs=[.ref b,.ref t,.int wide]∧Well H b g l n∧n≤10^8∧H t=some (.tup [.int lo,.int sz])∧1≤sz∧sz≤10^10∧1≤wide∧wide≤100∧
 ∀(r:Addr)(a b':Option Int)(H':Hp),H' r=some (.tup [eV a,eV b'])→JO a b'=true→Well H' b g l (n+3)→SameB b g H H'→Q (.ref r) H'
def KZ(fs:List Str)(w:List WP):Prop:=∀p∈w,p.1∈fs
structure NamesAt(H:Hp)(b g:Addr)(a:Addr)(fs:List Str):Prop where
 at':H a=some (.lst (fs.map V.str))
 nb:a≠b
 ng:a≠g
 len:fs.length≤6
 ok:∀f∈fs,FieldOk f
 asc:fs.Pairwise Iq
theorem NamesAt.sameB{H':Hp}{g:Addr}{fs:List Str}(h:NamesAt H b g a fs)(s:SameB b g H H'):NamesAt H' b g a fs:=⟨s _ _ h.at' h.nb h.ng,h.nb,h.ng,h.len,h.ok,h.asc⟩
def Qw:Sp:=λvs H Q _=>∃(b g l a t:Addr)(n lo sz wide:Int)(fs:List Str),vs=[.ref b,.ref a,.ref t,.int wide]∧Well H b g l n∧n≤10^7∧NamesAt H b g a fs∧H t=some (.tup [.int lo,.int sz])∧1≤sz∧sz≤10^10∧1≤wide∧wide≤100∧
 ∀(r:Addr)(w:List WP)(H':Hp),WishAt H' r w→WOk w→KZ fs w→w.length≤6→Well H' b g l (n+30)→SameB b g H H'→Q (.ref r) H'
def R4:Sp:=λvs H Q _=>∃(b g l a t:Addr)(n lo sz wide many:Int)(fs:List Str),vs=[.ref b,.ref a,.ref t,.int wide,.int many]∧Well H b g l n∧n≤10^6∧NamesAt H b g a fs∧H t=some (.tup [.int lo,.int sz])∧1≤sz∧sz≤10^10∧1≤wide∧wide≤100∧0≤many∧many≤400∧
 ∀(r:Addr)(ws:List (Addr×List WP))(H':Hp),H r=none→WsAt H' r ws→(ws.length:Int)=many→(∀x∈ws,KZ fs x.2∧x.2.length≤6)→Well H' b g l (n+40*many)→SameB b g H H'→Q (.ref r) H'
def Ur:V→Option Int→Option Int→Hp→VK→Prop:=λx lo hi H Q=>∃y:Str,x= .str y∧y.length≤100000∧∀z:Str,z.length≤y.length→(∀j,hi=some j→0≤j→(z.length:Int)≤j)→(∀c∈z.cps.toList,c∈y.cps.toList)→(∀j,lo=none→hi=some j→1≤j→1≤y.length→1≤z.length)→Q (.str z) H
theorem VE(lo hi:Option Int)(n:Nat):(AH lo hi 1 n).length≤n∧(∀j,hi=some j→0≤j→((AH lo hi 1 n).length:Int)≤j)∧(∀j,lo=none→hi=some j→1≤j→1≤n→0∈AH lo hi 1 n):=by
 refine⟨indices_len_le lo hi n,λj e h0=>?_,λj e1 e2 h1 h2=>?_⟩
 · subst e;unfold AH sliceRange;cases lo<;>simp only[show(1:Int)>0 by decide,if_true,Ab,Ca]<;>(split<;>(try split)<;>(try split)<;>(try simp only[Int.ediv_one])<;>omega)
 · subst e1 e2;unfold AH sliceRange;simp only[show(1:Int)>0 by decide,if_true];refine List.mem_map.mpr ⟨0,DZ.mpr ?_,?_⟩
   · have:¬j<0:=by omega
     simp only[this,if_false,Int.ediv_one]
     split<;>omega
   · simp
theorem Nb:K_ X Ur:=by
 intro pins s σ H x v vl vu lo hi sl Q I rx hs pl pu h;obtain⟨y,rfl,hl,q⟩:=h;obtain⟨t,rfl⟩:=(show ∃t,v=Value.str y t from rx);obtain⟨l,el,e1⟩:∃l:Option (Int×Tok),vl=partValue l∧l.map (·.1)=lo:=by
  cases pl with
  | none=>exact⟨none,rfl,rfl⟩
  | int i t=>exact⟨some (i,t),rfl,rfl⟩
 obtain⟨u,eu,e2⟩:∃l:Option (Int×Tok),vu=partValue l∧l.map (·.1)=hi:=by
  cases pu with
  | none=>exact⟨none,rfl,rfl⟩
  | int i t=>exact⟨some (i,t),rfl,rfl⟩
 have hS:s.heap.IsSlice sl l u none:=by obtain⟨o,h1,h2,h3⟩:=hs;exact⟨o,h1,h2,by rw[h3,el,eu];rfl⟩
 have pk:slicePicked y l u none=AH lo hi 1 y.length:=by unfold slicePicked;rw[e1,e2];rfl
 obtain⟨p1,p2,p3⟩:=VE lo hi y.length;have hsz:(100000:Nat)≤As:=by decide
 refine⟨"str",_,F.slot_str_getitem.lookup,typeIs_str s y t,?_⟩;refine getItem_meets (typeIs_str s y t) (by decide) F.slot_str_getitem F.entry_str_getitem (F.args_str_getitem_2 _ _) (meets_str_getitem_slice y t sl l u none rfl) ⟨hS,?_⟩;unfold sliceMade;rw[pk]
 split
 · rename_i hc;have hc:(AH lo hi 1 y.length).length=y.length:=by simpa using hc
   exact⟨.str y,H,I,⟨t,rfl⟩,q y (Ae _) (λj e h0=>by have:=p2 j e h0;omega) (λc hc=>hc) λ_ _ _ _ z=>z⟩
 · have hz:(⟨((AH lo hi 1 y.length).filterMap (y.cps[·]?)).toArray⟩:Str).length≤(AH lo hi 1 y.length).length:=by
    show(List.filterMap _ _).toArray.size≤_;rw[Ak];exact List.length_filterMap_le _ _
   refine⟨by omega,⟨.str _,H,I.tok _,⟨_,rfl⟩,q _ (by omega) (λj e h0=>by have:=p2 j e h0;omega) (λc hc=>?_) λj f1 f2 f3 f4=>?_⟩⟩
   · have hc:c∈(AH lo hi 1 y.length).filterMap (y.cps[·]?):=by simpa using hc
     obtain⟨i,_,hi'⟩:=CI.mp hc;exact Da.mpr (Array.mem_of_getElem? hi')
   · have m0:=p3 j f1 f2 f3 f4;show 1≤(List.filterMap _ _).toArray.size;rw[Ak];have h0:0<y.cps.size:=f4;have:y.cps[0]'h0∈(AH lo hi 1 y.length).filterMap (y.cps[·]?):=CI.mpr ⟨0,m0,by simp[h0]⟩;exact Fm this
section
variable{R:Result→Shared→Prop}
variable{elt t0 i0 t1 i1:Expr}{f0 f1:List Expr}{it acc:Value}{env:Env}
end
section
variable{tg iter tg1 iter1 elt:Expr}{ifs ifs1:List Expr}{wi wi1:TI}{js:HU}{g g1:TG}{tc tc1:TT}{te:TE}{N':List Str}
end
section
variable{R:Result→Shared→Prop}
variable{elt t0 i0 t1 i1:Expr}{f0 f1:List Expr}{it acc:Value}{env:Env}
end
section
variable{p:Addr}{ks:List Str}
end
section
variable{tg iter tg1 iter1 elt:Expr}{ifs ifs1:List Expr}{wi wi1:TI}{js:HU}{g g1:TG}{tc tc1:TT}{te:TE}{N':List Str}
end
open PySem.AutoSeq1 (wpAny_loadPart')
section
variable{it l e:Addr}{xs:Array Value}{x old:Value}
end
def below(s t:JY):List JY:=match t.1 with
 | none=>[]
 | some l=>if s.1=some l then [] else [(s.1,some (l - 1))]
def above(s t:JY):List JY:=match t.2 with
 | none=>[]
 | some h=>if s.2=some h then [] else [(some (h+1),s.2)]
def Th(s t:JY):List JY:=below s t++above s t
def Ss(w m:List WP)(i:Nat):List (List WP):=match w[i]?,m[i]? with
 | some p,some q=>(Th p.2 q.2).map λr=>m.take i++[(p.1,r)]++w.drop (i+1)
 | _,_=>[]
def UW(w m:List WP):List (List WP):=(AX w.length).flatMap (Ss w m)
open Classical in
noncomputable def Jr(w o:List WP):List WP:=if h:∃m,IsMet w o m then Classical.choose h else []
noncomputable def one(w o:List WP):List (List WP):=if Tf w o=true then [w] else if w.length<(Jr w o).length then [w] else UW w (Jr w o)
section
variable{w o m:List WP}
end
def KR(w:List WP):List PP:=w.map λp=>(p.1,SB p.2.1 p.2.2)
theorem X6(w:List WP):(KR w).map (·.1)=w.map (·.1):=by unfold KR;rw[BK];rfl
theorem VF{w:List WP}(h:WOk w):POk (KR w):=by refine⟨by unfold KR;rw[Ab];exact h.len,λx hx=>?_,by rw[X6];exact h.asc⟩;obtain⟨p,hp,rfl⟩:=AU.mp hx;exact(h.ok p hp).1
def TC(H:Hp)(v:V)(ps:List (List WP)):Prop:=match ps with
 | []=>v= .non
 | p::_=>∃t,v= .ref t∧PieceAt H t (KR p)
section
variable{lo sz m:Int}
end
section
variable{mg:Str→Option Value}{base:Heap}
def g2{α:Type}:List α→List α→List α
 | [a],[b]=>[a,b]
 | _,_=>[]
end
section
variable{k:Nat}{p1 p2:Str}{sp:Sp}{e1 e2:Expr}{t tk:TA}{p kpos:Pos}
end
abbrev KD:=Sum (Option Int) Str
def LP:KD→Value→Bool
 | .inl none,.none=>true
 | .inl (some i),v=>Value.isInt i v
 | .inr x,v=>DC x v
 | _,_=>false
theorem JH{k:KD}{v:Value}(h:LP k v=true):(k= .inl none∧v= .none)∨(∃i t,k= .inl (some i)∧v= .int i t)∨∃x t,k= .inr x∧v= .str x t:=by
 cases k with
 | inl o=>
  cases o with
  | none=>cases v<;>simp[LP] at h ⊢
  | some i=> obtain⟨t,e⟩:=Value.isInt_shape (k:=i) (v:=v) h;exact .inr (.inl ⟨i,t,rfl,e⟩)
 | inr x=> obtain⟨t,e⟩:=DP (x:=x) (v:=v) h;exact .inr (.inr ⟨x,t,rfl,e⟩)
def LG(w:World):KD→Int
 | .inl none=>0xFCA86420
 | .inl (some i)=>hashInt i
 | .inr x=>hashStr w x
theorem Vp{Q:Int→Shared→Prop}(h:Q 0xFCA86420 {s with toks:=s.toks+1}):wpAny (model prog w) A (pyHash .none) Q E s:=by
 have ty:s.TypeIs .none "NoneType":=typeIs_none s;unfold pyHash;refine Aa ?_;rw[cRoomFor,if_neg (by rw[show [Value.none].any Value.onHeap=false from rfl];exact An)];refine Ac ?_;refine Aa (BF ty C3.lookup ?_);rw[if_neg (by rw[beq_builtin_none];exact An)];refine Aa (BF ty C3.lookup ?_);refine Aa (Df ty C3 (AR C3 ty PySem.F.entry_NoneType_hash ?go (PySem.F.args_NoneType_hash_1 _)))
 case go=>
  show wpAny _ _ (do ret (←mkInt 0xFCA86420)) _ _ s
  refine wpAny_ret_mkInt ?_;dsimp only;unfold pyHashByItsType.reduced;rw[if_pos (by decide)];exact Ac h
theorem TZ{Q:Bool→Shared→Prop}(h:Q true s):wpAny (model prog w) A (eqBool .none .none) Q E s:=by
 unfold eqBool
 try with_reducible refine AE ?_
 rw[if_pos (by rfl)];exact Aa (BX (Ac h))
def Lh(prog:Bb)(w:World):KeyKind prog w KD where
 is:=LP
 hash:=LG w
 inj:=λv a b ha hb=>by
  rcases JH ha with⟨rfl,rfl⟩ | ⟨i,t,rfl,rfl⟩ | ⟨x,t,rfl,rfl⟩
  all_goals
   rcases JH hb with⟨rfl,e⟩ | ⟨j,u,rfl,e⟩ | ⟨y,u,rfl,e⟩
   all_goals first | rfl | (injection e with e1 _;rw[e1];done) | (exact Value.noConfusion e)
 byValue:=λk v h=>by rcases JH h with⟨rfl,rfl⟩ | ⟨i,t,rfl,rfl⟩ | ⟨x,t,rfl,rfl⟩<;>rfl
 pyHash:=λhv h=>by
  rcases JH hv with⟨rfl,rfl⟩ | ⟨i,t,rfl,rfl⟩ | ⟨x,t,rfl,rfl⟩
  · exact Vp h
  · exact wpAny_pyHash_int h
  · exact wpAny_pyHash_str h
 eqBool:=λhu hv h=>by
  rcases JH hu with⟨rfl,rfl⟩ | ⟨i,t,rfl,rfl⟩ | ⟨x,t,rfl,rfl⟩
  · rcases JH hv with⟨rfl,rfl⟩ | ⟨j,u,rfl,rfl⟩ | ⟨y,u,rfl,rfl⟩
    · rw[decide_eq_true rfl] at h;exact TZ h
    · rw[decide_eq_false (by intro z;cases z)] at h;exact DQ j u _ _ _ _ h
    · rw[decide_eq_false (by intro z;cases z)] at h;exact DR y u _ _ _ _ h
  · rcases JH hv with⟨rfl,rfl⟩ | ⟨j,u,rfl,rfl⟩ | ⟨y,u,rfl,rfl⟩
    · rw[decide_eq_false (by intro z;cases z)] at h;exact DS i t _ _ _ _ h
    · rw[show decide ((Sum.inl (some i):KD)=Sum.inl (some j))=(i==j) by rw[BO];simp] at h;exact wpAny_eqBool_int h
    · rw[decide_eq_false (by intro z;cases z)] at h;exact Do i t y u _ _ _ _ h
  · rcases JH hv with⟨rfl,rfl⟩ | ⟨j,u,rfl,rfl⟩ | ⟨y,u,rfl,rfl⟩
    · rw[decide_eq_false (by intro z;cases z)] at h;exact DT x t _ _ _ _ h
    · rw[decide_eq_false (by intro z;cases z)] at h;exact Dp x t j u _ _ _ _ h
    · rw[show decide ((Sum.inr x:KD)=Sum.inr y)=decide (x=y) by rw[BO];simp] at h;exact wpAny_eqBool_str h
 «strs»:=λk x t v h=>by
  rcases JH h with⟨rfl,e⟩ | ⟨i,u,rfl,e⟩ | ⟨y,u,rfl,e⟩
  · exact nomatch e
  · exact nomatch e
  · injection e with e1 _
    subst e1;cases v<;>rfl
def JR(p:WP):List KD:=[.inr p.1,.inl p.2.1,.inl p.2.2]
theorem Qf{p q:WP}(h:JR p=JR q):p=q:=by obtain⟨f,a,b⟩:=p;obtain⟨g,c,d⟩:=q;unfold JR at h;simp only[DO,Sum.inr.injEq,Sum.inl.injEq,and_true] at h;obtain⟨rfl,rfl,rfl⟩:=h;rfl
inductive RefsAre(prog:Bb)(w:World)(h:Heap):List WP→List Value→Prop
 | nil:RefsAre prog w h [] []
 | cons {p:WP} {b:Addr} {ps:List WP} {vs:List Value}:IsTupleKey (Lh prog w) h (JR p) b→RefsAre prog w h ps vs→RefsAre prog w h (p::ps) (.ref b::vs)
def IsWishKey(prog:Bb)(w:World)(h:Heap)(ws:List WP)(a:Addr):Prop:=∃o items n,h.get? a=some o∧o.cls= .type "tuple"∧o.data= .seq items n∧RefsAre prog w h ws items.toList
theorem RefsAre.inj{x y:List WP}{vs:List Value}(hx:RefsAre prog w h x vs)(hy:RefsAre prog w h y vs):x=y:=by
 induction hx generalizing y with
 | nil=>cases hy;rfl
 | cons h1 _ ih=>
  cases hy with
  | cons h2 t2=>rw[Qf (h1.inj h2),ih t2]
theorem IsWishKey.typeIs{ws:List WP}(x:IsWishKey prog w s.heap ws a):s.TypeIs (.ref a) "tuple":=let⟨o,_,_,ho,hc,_⟩:=x;⟨o,ho,hc⟩
theorem IsWishKey.inj{x y:List WP}(hx:IsWishKey prog w h x a)(hy:IsWishKey prog w h y a):x=y:=by obtain⟨o,items,n,ho,_,hd,hi⟩:=hx;obtain⟨o',items',n',ho',_,hd',hi'⟩:=hy;rw[ho] at ho';cases ho';rw[hd] at hd';injection hd' with h1 _;subst h1;exact hi.inj hi'
def MF(w:World)(p:WP):Int:=reduceHash (Dn ((JR p).map (LG w)))
def P8(w:World)(ws:List WP):Int:=reduceHash (Dn (ws.map (MF w)))
theorem Vq{p:WP}{Q:Int→Shared→Prop}(hu:A.units<cLine)(hk:IsTupleKey (Lh prog w) s.heap (JR p) b)(h:Q (MF w p) {s with toks:=s.toks+4}):wpAny (model prog w) A (pyHash (.ref b)) Q E s:=
 wpAny_pyHash_tuple hu hk h
theorem Vr{ws:List WP}{Q:Int→Shared→Prop}(hu:A.units+1<cLine)(hk:IsWishKey prog w s.heap ws a)(h:Q (P8 w ws) {s with toks:=s.toks+(4*ws.length+1)}):
 wpAny (model prog w) A (pyHash (.ref a)) Q E s:=by
 have ty:=hk.typeIs;obtain⟨o,items,n,ho,_,hd,hi⟩:=hk;unfold pyHash
 first | unfold pyHashByItsType | skip
 first | refine Aa (wpAny_cRoomFor_or (.inr (by omega)) ?_) | skip
 refine Aa (BF ty B_.lookup ?_);rw[if_neg (by rw[beq_builtin_none];exact An)];refine Aa (BF ty B_.lookup ?_);refine Aa (Df ty B_ (AR B_ ty PySem.F.entry_tuple_hash ?go (PySem.F.args_tuple_hash_1 _)))
 case go=>
  show wpAny _ _ (Dg (.ref a)>>=_) _ _ s;refine Aa (El ho hd (Aa ?_));rw[←Ck];refine BA _ (λrest(b:Array Int)s'=>∃done left,ws=done++left∧RefsAre prog w s.heap left rest∧b.toList=done.map (MF w)∧s'={s with toks:=s.toks+4*done.length}) _ ?step ?done _ _ ⟨[],ws,rfl,hi,rfl,rfl⟩
  case step=>
   rintro x rest b s' ⟨dn,left,rfl,hl,hb,rfl⟩;cases hl with
   | @cons p c ps _ h1 hl'=>
    refine Aa (Vq (p:=p) (by show A.units+1<cLine;exact hu) (by exact h1) ?_)
    first
     | exact Ac ⟨dn++[p],ps,by simp,hl',by simp[hb],by simp;omega⟩
     | exact Aa (Ac (Ac ⟨dn++[p],ps,by simp,hl',by simp[hb],by simp;omega⟩))
  case done=>
   rintro b s' ⟨dn,left,rfl,hl,hb,rfl⟩;cases hl;rw[CK] at h;show wpAny _ _ (retInt (Dn b.toList)) _ _ _;rw[hb];refine wpAny_ret_mkInt ?_;unfold P8 reduceHash at h;dsimp only;unfold pyHashByItsType.reduced
   split at h
   · rename_i hr;rw[if_pos hr];exact Ac (by simpa [Nat.add_assoc] using h)
   · rename_i hr;rw[if_neg hr];exact Aa (BX (Ac (by simpa [Nat.add_assoc] using h)))
theorem T_{x y:List WP}{P:Fin→Shared→Prop}(hu:A.units<cLine)(hx:IsWishKey prog w s.heap x a)(hy:IsWishKey prog w s.heap y b)(h:P (.done (.ret (.bool (decide (x=y))))) s):
 wpAny (model prog w) A (Builtin.«tuple.__eq__» ⟨[.ref a,.ref b],[]⟩) P E s:=by
 have tb:=hy.typeIs;obtain⟨oa,us,na,g1,_,g2,g3⟩:=hx;obtain⟨ob,vs,nb,k1,_,k2,k3⟩:=hy;show wpAny _ _ (isInstance (.ref b) (.type "tuple")>>=_) _ _ s;refine Aa (Cu tb isSubtype_tuple_tuple ?_);simp only[BJ,A3,if_false];refine Aa (El g1 g2 (Aa (El k1 k2 (Aa ?_))));refine BA _
  (λrest r s'=>r.1=none∧s'=s∧∃x' y' us' vs',rest=List.zip us' vs'∧RefsAre prog w s.heap x' us'∧RefsAre prog w s.heap y' vs'∧decide (x'=y')=decide (x=y)∧(us'.length==vs'.length)=(us.size==vs.size))
  _ ?step ?done _ _ ⟨rfl,rfl,x,y,us.toList,vs.toList,rfl,g3,k3,rfl,by simp⟩
 case step=>
  rintro⟨u,v⟩ rest r s' ⟨hr,rfl,x',y',us',vs',hz,q1,q2,hdec,hlen⟩;cases q1 with
  | nil=>simp at hz
  | @cons p c ps us'' c1 q1'=>
   cases q2 with
   | nil=>simp at hz
   | @cons p2 c' ps2 vs'' c2 q2'=>
    simp only[List.zip_cons_cons,DO,Prod.mk.injEq] at hz;obtain⟨⟨rfl,rfl⟩,rfl⟩:=hz;refine Aa (wpAny_eqBool_tuple hu c1 c2 ?_);by_cases hk:p=p2
    · subst hk;rw[decide_eq_true rfl];simp only[BJ,A3,if_false];refine Ac ⟨rfl,rfl,ps,ps2,us'',vs'',rfl,q1',q2',?_,by simpa using hlen⟩;rw[←hdec];by_cases e:ps=ps2<;>simp[e]
    · rw[decide_eq_false (λz=>hk (Qf z))];simp only[Bool.not_false,if_true];rw[show decide (x=y)=false by rw[←hdec];simp[hk]] at h;exact Aa (Ac (Ac (Ac h)))
 case done=>
  rintro⟨r1,r2⟩ s' ⟨hr,rfl,x',y',us',vs',hz,q1,q2,hdec,hlen⟩;simp only at hr;subst hr;refine Ac ?_;have fin:(us.size==vs.size)=decide (x=y):=by
   rw[←hdec,←hlen];cases q1 with
   | nil=>cases q2<;>simp
   | cons _ _=>
    cases q2 with
    | nil=>simp
    | cons _ _=>simp at hz
  show P (.done (.ret (.bool (us.size==vs.size)))) s';rw[fin];exact h
theorem Ua{x y:List WP}{Q:Bool→Shared→Prop}(hu:A.units+1<cLine)(hx:IsWishKey prog w s.heap x a)(hy:IsWishKey prog w s.heap y b)(h:Q (decide (x=y)) s):
 wpAny (model prog w) A (eqBool (.ref a) (.ref b)) Q E s:=by
 unfold eqBool
 try with_reducible refine AE ?_
 by_cases hab:(Value.ref a==Value.ref b)=true
 · rw[if_pos hab];have e:a=b:=by have:=eq_of_beq hab;injection this
   subst e;obtain rfl:=hx.inj hy;exact Aa (BX (Ac (by simpa using h)))
 · rw[if_neg hab];refine Aa (Cb (op:= .Eq) hx.typeIs hy.typeIs CZ
    (AR CZ hx.typeIs PySem.F.entry_tuple_eq (T_ (by show A.units+1<cLine;exact hu) hx hy ⟨_,rfl,(λe=>nomatch e),Be h⟩) (PySem.F.args_tuple_eq_2 _ _)) (by omega))
theorem VH{p:WP}{Q:Bool→Shared→Prop}(hk:IsTupleKey (Lh prog w) s.heap (JR p) b)(h:Q true s):wpAny (model prog w) A (eqIsQuiet (n+1) (.ref b)) Q E s:=by
 have ty:=hk.typeIs;obtain⟨o,its,m,h1,_,h2,h3⟩:=hk;unfold eqIsQuiet;refine Aa (BF ty CZ.lookup ?_);show wpAny _ _ (isInstance (.ref b) (.type "tuple")>>=_) _ _ s;refine Aa (Cu ty isSubtype_tuple_tuple ?_);simp only[BJ,A3,if_false];refine Aa (AT h1 h2 (Aa ?_));show wpAny _ _ (forIn its _ _) _ _ s;rw[←Ck];refine BA _ (λrest r s'=>r.1=none∧s'=s∧∀v∈rest,carriedByValue v=true) _ ?step ?done _ _ ⟨rfl,rfl,h3.byValue⟩
 case step=> rintro v rest r s' ⟨hr,rfl,al⟩;rw[eqIsQuiet_byValue _ (al v Ar)];refine Aa (Ac ?_);simp only[BJ,A3,if_false];exact Ac ⟨rfl,rfl,λu hu'=>al u (Ao _ hu')⟩
 case done=> rintro⟨r1,r2⟩ s' ⟨hr,rfl,_⟩;simp only at hr;subst hr;exact Ac h
theorem R0{ws:List WP}{Q:Bool→Shared→Prop}(hk:IsWishKey prog w s.heap ws a)(h:Q true s):wpAny (model prog w) A (eqIsQuiet 8 (.ref a)) Q E s:=by
 have ty:=hk.typeIs;obtain⟨o,its,m,h1,_,h2,h3⟩:=hk;unfold eqIsQuiet;refine Aa (BF ty CZ.lookup ?_);show wpAny _ _ (isInstance (.ref a) (.type "tuple")>>=_) _ _ s;refine Aa (Cu ty isSubtype_tuple_tuple ?_);simp only[BJ,A3,if_false];refine Aa (AT h1 h2 (Aa ?_));show wpAny _ _ (forIn its _ _) _ _ s;rw[←Ck];refine BA _ (λrest r s'=>r.1=none∧s'=s∧∃ws',RefsAre prog w s.heap ws' rest) _ ?step ?done _ _ ⟨rfl,rfl,ws,h3⟩
 case step=>
  rintro v rest r s' ⟨hr,rfl,ws',hl⟩;cases hl with
  | @cons p c ps _ c1 hl'=> refine Aa (VH c1 ?_);simp only[BJ,A3,if_false];exact Ac ⟨rfl,rfl,ps,hl'⟩
 case done=> rintro⟨r1,r2⟩ s' ⟨hr,rfl,_⟩;simp only at hr;subst hr;exact Ac h
theorem UC{ws:List WP}(hok:HOk P w H h)(e:WishAt H a ws):IsWishKey P w h ws a:=by
 obtain⟨ps,rfl,hA,hP⟩:=e;obtain⟨_,its,rv,o,h1,h2,_,n,h3⟩:=(show ObjOk P w H h a (.tup (ps.map λp=>V.ref p.1)) from hok a _ hA);refine⟨o,its.toArray,n,h1,h2,h3,?_⟩;rw[CF];clear hA h1 h3
 induction ps generalizing its with
 | nil=>cases rv;exact .nil
 | cons p ps ih=>
  rw[Av] at rv;cases rv with
  | @cons _ u _ us r1 r2=>
   cases r1;refine .cons ?_ (ih (λx hx=>hP x (Ao _ hx)) (by rename_i hz;rw[Av,A5] at hz;omega) us r2);obtain⟨_,it2,rv2,o2,k1,k2,_,m,k3⟩:=(show ObjOk P w H h p.1 (.tup [V.str p.2.1,eV p.2.2.1,eV p.2.2.2]) from hok p.1 _ (hP p Ar));refine⟨o2,it2.toArray,m,k1,k2,k3,?_⟩;rw[CF];have end_is:∀(e:Option Int)(v:Value),RelV (eV e) v→LP (.inl e) v=true:=λe v r=>by
    cases e with
    | none=>cases(show v=Value.none from r);rfl
    | some i=>obtain⟨t,rfl⟩:=(show ∃t,v=Value.int i t from r);exact Ru i t
   cases rv2 with
   | @cons _ u1 _ _ a1 rv2=>
    cases rv2 with
    | @cons _ u2 _ _ a2 rv2=>
     cases rv2 with
     | @cons _ u3 _ _ a3 rv2=> cases rv2;obtain⟨t,rfl⟩:=(show ∃t,u1=Value.str p.2.1 t from a1);exact .cons (QX _ t) (.cons (end_is _ _ a2) (.cons (end_is _ _ a3) .nil))
section
variable{it d:Addr}{ep:Nat}{as:List Addr}
end
section
variable{tg:Expr}
end
section
variable{d:Addr}{ks:List (Addr×List WP)}
end
section
variable{tg iter kx vx:Expr}{ifs:List Expr}{wi:TI}{js:HU}{g:TG}{tc:TT}{tk tv:TE}{N':List Str}
end
def O1(outer scope:Scope):Scope:={scope with names:=scope.names.map λ(n,k)=>if(k== .free && outer.kind== .function && outer.names.lookup n==some .cell) then(n,.cell) else(n,k)}
def Uq(K:Af):R2:=λx y H Q=>∃(l:Addr)(ps:List (Addr×PD))(d:PD),y= .ref l∧SqL K H l (ps.map λp=>V.ref p.1)∧(∀p∈ps,GZ K H p.2 (.ref p.1)∧Ir p.2≤20)∧GZ K H d x∧Q (.bl (!ps.any λp=>Hk p.2 d)) H
theorem Vh(hr:Jb X):HK X (Bq .NotIn) (Uq X.K):=by
 intro pins s σ H x y v u Q I rx ry h;obtain⟨l,ps,d,rfl,hq,hp,hd,q⟩:=h;cases ry;obtain⟨its,r,pl,hz⟩:=I.list hq;obtain rfl:=R7 r;have at':∀p∈ps,M7 ps d (.ref p.1)=Hk p.2 d:=λp hm=>by
  show((ps.find? λq=>decide (q.1=p.1)).any λq=>Hk q.2 d)=Hk p.2 d;cases e:ps.find? (λq=>decide (q.1=p.1)) with
  | none=>exact absurd (decide_eq_true rfl) (FN.mp e p hm)
  | some p'=> have h1:p'.1=p.1:=of_decide_eq_true (List.find?_some (p:=λ(q:Addr×PD)=>decide (q.1=p.1)) e);have h2:=(hp p' (List.mem_of_find?_eq_some e)).1;rw[h1] at h2;rw[Option.any_some,LV I _ _ _ h2 (hp p hm).1]
 refine SeqAt.notIn_listAt (M7 ps d) pl.isList (λz hz'=>?_) ⟨.bl _,H,I,rfl,?_⟩
 · obtain⟨p,hm,rfl⟩:=AU.mp (show z∈ps.map λp=>Value.ref p.1 by simpa using hz');rw[at' p hm];have:=(hp p hm).2;exact KO I _ p.2 d _ _ _ _ (hp p hm).1 hd rfl rx (by have:=hr;simp only[Jb,Bn] at*;omega)
 · have e:(ps.map λp=>Value.ref p.1).toArray.any (M7 ps d)=ps.any λp=>Hk p.2 d:=by
    rw[List.any_toArray,Du];have:∀qs:List (Addr×PD),(∀q∈qs,q∈ps)→qs.any (M7 ps d∘λp=>Value.ref p.1)=qs.any λp=>Hk p.2 d:=λqs=>by
     induction qs with
     | nil=>intro _;rfl
     | cons q qs ih=> intro h;rw[Cq,Cq,ih λx hx=>h x (Ao _ hx)];congr 1;exact at' q (h q Ar)
    exact this ps λ_ h=>h
   rw[e];exact q
theorem Vz(K:Af)(h:X.K=K)(hc:X.calm=true):I0 X (.builtin "any") (λxs H Q=>∃(a:Addr)(bs:List Bool),xs=[.ref a]∧SqL K H a (bs.map V.bl)∧Q (.bl (bs.any id)) H):=by subst h;exact QQ hc
def QH:Sp:=λvs H Q _=>∃(b g l a:Addr)(n:Int)(xs:List V),vs=[.ref b,.ref a]∧Well H b g l n∧n≤10^6∧H a=some (.lst xs)∧a≠b∧a≠g∧xs.length≤100∧
 ∀(r:Addr)(ys:List V)(H':Hp),H r=none→H' r=some (.lst ys)→ys.Perm xs→Well H' b g l (n+100)→SameB b g H H'→Q (.ref r) H'
theorem P0{o:Expr}{es:List Expr}{to:TE}{t:TA}{name:Str}{apos cpos:Pos}{T id:String}{r:V→List V→Hp→VK→Prop}(K:Af)(hK:X.K=K)(pa:PlainAttrs T)(slot:Slot T name id)(hty:typeOf (.builtin id)=pure (.type "method_descriptor"))(hm:Sk X id r)(ho:PE X o to)(ha:PA X (e::es) t)
 (hbase:attributeBase o name X.env (eval o X.env)=eval o X.env:=by rfl)
 (hfew:((backTo cpos (Az (e::es) X.env)).all (λx=>!x.1) && (backToKw cpos (keywordEach [] X.env)).all (λx=>x.1.isSome)
  && decide ((e::es).length+([]:List Keyword).length+(if([]:List Keyword).isEmpty then 0 else 1)<30))=true:=by rfl)
 (hline:(apos.endLine==cpos.line)=true:=by rfl) (hs:Az (e::es) X.env=(false,eval e X.env)::Az es X.env:=by rfl) (hplain:(backTo cpos (Az es X.env)).any (·.1)=false:=by rfl):
 PE X (.Call (.Attribute o name apos) (e::es) [] cpos) (Sa K T r to t):=by
 subst hK;exact J0 pa slot hty hm ho ha hbase hfew hline hs hplain
theorem NV{α:Type}:∀(l:List α)(k:Nat)(h:k<l.length),(l[k]::l.eraseIdx k).Perm l
 | [],_,h=>by simp at h
 | a::l,0,_=>C_ _
 | a::l,k+1,h=>by have ih:=NV l k (by simpa using h);exact(List.Perm.swap a (l[k]'(by simpa using h)) (l.eraseIdx k)).trans (ih.cons a)
theorem NE{α β:Type}{f:α→β}{ys zs:List β}(h:ys.Perm zs):∀l:List α,zs=l.map f→∃l':List α,l'.Perm l∧l'.map f=ys:=by
 induction h with
 | nil=>intro l e;exact⟨l,C_ _,e.symm⟩
 | cons x _ ih=>
  intro l e;cases l with
  | nil=>cases e
  | cons a l=>
   rw[Av] at e;injection e with e1 e2
   obtain⟨l',p,e3⟩:=ih l e2;exact⟨a::l',p.cons a,by rw[Av,e3,e1]⟩
 | swap x y r=>
  intro l e
  match l,e with
  | a::b::l,e=>
   rw[Av,Av] at e;injection e with e1 e2
   injection e2 with e2 e3
   exact⟨b::a::l,List.Perm.swap _ _ _,by rw[Av,Av,e1,e2,e3]⟩
 | trans _ _ ih1 ih2=> intro l e;obtain⟨l1,p1,e1⟩:=ih2 l e;obtain⟨l2,p2,e2⟩:=ih1 l1 e1.symm;exact⟨l2,p2.trans p1,e2⟩
namespace ST
open PySem.SetTable
def lp(mask:Nat):Nat→Nat×Nat→Nat×Nat
 | 0,s=>s
 | m+1,s=>lp mask m (leap mask s.1 s.2)
theorem Mb(mask:Nat):∀(m:Nat)(s:Nat×Nat),lp mask (m+1) s=leap mask (lp mask m s).1 (lp mask m s).2
 | 0,s=>rfl
 | m+1,s=>Mb mask m (leap mask s.1 s.2)
theorem PV(mask:Nat):∀(m:Nat)(s:Nat×Nat),(lp mask m s).2=s.2 / 32^m
 | 0,s=>by simp[lp]
 | m+1,s=>by rw[Mb];show(lp mask m s).2 / 32=_;rw[PV mask m s,Nat.div_div_eq_div_mul,Nat.pow_succ]
theorem Px(mask:Nat):∀(m k:Nat)(s:Nat×Nat),lp mask (m+k) s=lp mask k (lp mask m s)
 | 0,k,s=>by rw[Nat.zero_add];rfl
 | m+1,k,s=>by rw[Nat.add_right_comm];show lp mask (m+k) (leap mask s.1 s.2)=_;rw[Px mask m k];rfl
def LD(mask:Nat):Nat→Nat→Nat
 | 0,i=>i
 | k+1,i=>LD mask k ((i*5+1)%(mask+1))
theorem PX(mask:Nat):∀(k i:Nat),(lp mask k (i,0)).1=LD mask k i
 | 0,i=>rfl
 | k+1,i=>by
  show(lp mask k (leap mask i 0)).1=_;have:leap mask i 0=((i*5+1)%(mask+1),0):=by unfold leap;simp
  rw[this,PX mask k];rfl
theorem Sv:∀i<8,∀e<8,∃k<8,LD 7 k i=e:=by decide+kernel
theorem Tn:∀i<32,∀e<32,∃k<32,LD 31 k i=e:=by decide+kernel
theorem SA(mask:Nat):∀(m:Nat)(s:Nat×Nat),s.1<mask+1→(lp mask m s).1<mask+1
 | 0,s,h=>h
 | m+1,s,h=>by rw[Mb];exact CM _ (by omega)
theorem Pb{mask:Nat}(hm:mask=7∨mask=31){p e:Nat}(hi:i<mask+1)(hp:p<2^64)(he:e<mask+1):∃m,m<mask+14∧(lp mask m (i,p)).1=e:=by
 have h13:(lp mask 13 (i,p)).2=0:=by rw[PV];exact Nat.div_eq_of_lt (Ay hp (by decide))
 have h1:=SA mask 13 (i,p) hi;obtain⟨k,hk,hl⟩:∃k<mask+1,LD mask k (lp mask 13 (i,p)).1=e:=by
  rcases hm with rfl | rfl
  · exact Sv _ h1 _ he
  · exact Tn _ h1 _ he
 refine⟨13+k,by omega,?_⟩;rw[Px,show lp mask 13 (i,p)=((lp mask 13 (i,p)).1,0) from Prod.ext rfl h13,PX];exact hl
def Hy(t:A8):Nat→Probe→Probe
 | 0,p=>p
 | k+1,p=>Hy t k (t.advance p)
theorem Me(t:A8):∀(k:Nat)(p:Probe),Hy t (k+1) p=t.advance (Hy t k p)
 | 0,p=>rfl
 | k+1,p=>Me t k (t.advance p)
theorem M_(t:A8):∀(m k:Nat)(p:Probe),Hy t (m+k) p=Hy t k (Hy t m p)
 | 0,k,p=>by rw[Nat.zero_add];rfl
 | m+1,k,p=>by rw[Nat.add_right_comm];show Hy t (m+k) (t.advance p)=_;rw[M_ t m k];rfl
structure AtRun(mask:Nat)(p:Probe)(s:Nat×Nat):Prop where
 j:p.j=s.1
 i:p.i=s.1
 pe:p.perturb=s.2
 mo:p.more≤9
theorem Q8(t:A8):∀(m:Nat)(p:Probe),p.more=m→Hy t m p={p with j:=p.j+m,more:=0}
 | 0,p,h=>by
  show p=_;cases p
  simp_all
 | m+1,p,h=>by
  show Hy t m (t.advance p)=_;have e:t.advance p={p with j:=p.j+1,more:=p.more - 1}:=by unfold DF;rw[if_pos (by omega)]
  rw[e,Q8 t m _ (by show p.more - 1=m;omega)];simp only[Probe.mk.injEq,and_true,true_and];omega
theorem U1{t:A8}{p:Probe}{s:Nat×Nat}(h:AtRun t.mask p s):∃k,k≤10∧AtRun t.mask (Hy t k p) (leap t.mask s.1 s.2)∧(Hy t k p).dummy=p.dummy:=by
 refine⟨p.more+1,by have:=h.mo;omega,?_⟩;rw[Me,Q8 t p.more p rfl];have e:t.advance {p with j:=p.j+p.more,more:=0}={p with j:=(leap t.mask p.i p.perturb).1,more:=runEnd t.mask (leap t.mask p.i p.perturb).1 - (leap t.mask p.i p.perturb).1,i:=(leap t.mask p.i p.perturb).1,perturb:=(leap t.mask p.i p.perturb).2}:=by unfold DF;rw[if_neg (by show ¬(0>0);omega)]
 rw[e,h.i,h.pe];refine⟨⟨rfl,rfl,rfl,?_⟩,rfl⟩;show runEnd _ _ - _≤9;unfold runEnd
 split<;>omega
theorem Lu{t:A8}{p:Probe}{s:Nat×Nat}(h:AtRun t.mask p s):∀m,∃k,k≤10*m∧AtRun t.mask (Hy t k p) (lp t.mask m s)∧(Hy t k p).dummy=p.dummy
 | 0=>⟨0,Ae _,h,rfl⟩
 | m+1=>by
  obtain⟨k,hk,hr,hd⟩:=Lu h m;obtain⟨k2,hk2,hr2,hd2⟩:=U1 hr;refine⟨k+k2,by omega,?_,?_⟩
  · rw[M_,Mb];exact hr2
  · rw[M_,hd2,hd]
theorem VS(t:A8)(h:Int):AtRun t.mask (t.probeStart h) (bits h%(t.mask+1),bits h):=by
 refine⟨rfl,rfl,rfl,?_⟩;show runEnd _ _ - _≤9;unfold runEnd
 split<;>omega
theorem PB(h:Int):bits h<2^64:=by
 unfold bits;have h0:=BR h (show(2^64:Int)≠0 by decide);have h1:=Bw h (show(0:Int)<2^64 by decide);have:(2:Int)^64=18446744073709551616:=by decide
 have:(2:Nat)^64=18446744073709551616:=by decide
 omega
theorem So{t:A8}(hm:t.mask=7∨t.mask=31)(h:Int){e:Nat}(he:e<t.mask+1):∃k,k<10*turns t.mask∧(Hy t k (t.probeStart h)).j=e:=by obtain⟨m,hm2,hl⟩:=Pb hm (i:=bits h%(t.mask+1)) (p:=bits h) (CM _ (by omega)) (PB h) he;obtain⟨k,hk,hr,_⟩:=Lu (VS t h) m;refine⟨k,?_,hr.j.trans hl⟩;unfold turns;omega
end ST
namespace ST
open PySem.SetTable
structure Bel(xs:Array Nat)(j b:Nat):Prop where
 le:b≤xs.size
 lo:∀i v,i<b→xs[i]?=some v→v<j
 hi:∀i v,b≤i→xs[i]?=some v→j≤v
theorem MY{xs:Array Nat}(h:xs.toList.Pairwise (· < ·)){k v w:Nat}(hik:i<k)(hi:xs[i]?=some v)(hk:xs[k]?=some w):v<w:=by obtain⟨li,ei⟩:=BL.mp hi;obtain⟨lk,ek⟩:=BL.mp hk;have:=(BP.mp h) i k (by simpa using li) (by simpa using lk) hik;simp only[Array.getElem_toList] at this;rw[ei,ek] at this;exact this
theorem Nv{xs:Array Nat}(h:xs.toList.Pairwise (· < ·))(j:Nat):∀(fuel lo hi:Nat),hi - lo≤fuel→lo≤hi→hi≤xs.size→(∀i v,i<lo→xs[i]?=some v→v<j)→(∀i v,hi≤i→xs[i]?=some v→j≤v)→Bel xs j (D5 xs j fuel lo hi)
 | 0,lo,hi,hf,h1,h2,a,b=>by
  have:lo=hi:=by omega
  subst this;exact⟨h2,a,b⟩
 | fuel+1,lo,hi,hf,h1,h2,a,b=>by
  unfold D5;by_cases c:lo<hi
  · rw[if_pos c];dsimp only;have hm:(lo+hi) / 2<xs.size:=by omega
    have em:xs[(lo+hi) / 2]?=some xs[(lo+hi) / 2]:=by simp[hm]
    have ed:xs.getD ((lo+hi) / 2) j=xs[(lo+hi) / 2]:=by rw[Cz,em];rfl
    by_cases d:xs.getD ((lo+hi) / 2) j<j
    · rw[if_pos d];refine Nv h j fuel _ _ (by omega) (by omega) h2 (λi v hi' e=>?_) b;by_cases q:i=(lo+hi) / 2
      · subst q;rw[em] at e;cases e;rw[←ed];exact d
      · by_cases q2:i<lo
        · exact a i v q2 e
        · have:=MY h (show i<(lo+hi) / 2 by omega) e em;rw[ed] at d;omega
    · rw[if_neg d];refine Nv h j fuel _ _ (by omega) (by omega) (by omega) a (λi v hi' e=>?_);by_cases q:i=(lo+hi) / 2
      · subst q;rw[em] at e;cases e;rw[←ed];omega
      · have:=MY h (show(lo+hi) / 2<i by omega) em e;rw[ed] at d;omega
  · rw[if_neg c];have:lo=hi:=by omega
    subst this;exact⟨h2,a,b⟩
theorem QP{xs:Array Nat}(h:xs.toList.Pairwise (· < ·))(j:Nat):Bel xs j (AK xs j):=by unfold AK;exact Nv h j _ _ _ (by omega) (Br _) (Ae _) (λi v hi _=>by omega) (λi v hi e=>by obtain⟨li,_⟩:=BL.mp e;omega)
theorem UT{α:Type}{xs:Array α}{p:Nat}{x:α}(hp:p≤xs.size):(insertAt xs p x).toList=xs.toList.take p++x::xs.toList.drop p:=by rw[SetTable.toList_insertAt]
theorem Wg{xs:Array Nat}{j:Nat}(h:xs.toList.Pairwise (· < ·))(hj:j ∉ xs.toList):(insertAt xs (AK xs j) j).toList.Pairwise (· < ·):=by
 have B:=QP h j;rw[UT B.le,List.pairwise_append,List.pairwise_cons];refine⟨h.sublist (Dz _ _),⟨λv hv=>?_,h.sublist (List.drop_sublist _ _)⟩,λu hu v hv=>?_⟩
 · obtain⟨i,e⟩:=C7 hv;rw[Em] at e;have e':xs[AK xs j+i]?=some v:=by rw[←AI];exact e
   have:=B.hi _ _ (Ct _ _) e';have ne:v≠j:=λz=>hj (z ▸ FC hv);omega
 · obtain⟨i,e⟩:=C7 hu;have li:i<AK xs j:=by
    have:=(Am.mp e).1;rw[AC] at this;omega
   rw[List.getElem?_take] at e;rw[if_pos li] at e;have e':xs[i]?=some u:=by rw[←AI];exact e
   have uj:=B.lo _ _ li e';rcases Ax.mp hv with rfl | hv
   · exact uj
   · obtain⟨k,ek⟩:=C7 hv;rw[Em] at ek;have e2:xs[AK xs j+k]?=some v:=by rw[←AI];exact ek
     have:=B.hi _ _ (Ct _ _) e2;omega
structure Tab(t:A8)(n:Nat):Prop where
 mask:t.mask=7∨t.mask=31
 size:t.place.size=n
 ris:t.place.toList.Pairwise (· < ·)
 le:∀j∈t.place.toList,j≤t.mask
 du:t.dummies=#[]
 few:n*5<t.mask*3
theorem Tab.slot_live{t:A8}{j:Nat}(h:Tab t n)(e:t.slot j= .live i):t.place[i]?=some j∧i<n:=by
 unfold SetTable.slot at e;dsimp only at e
 split at e
 · rename_i q;cases e;have q':=eq_of_beq q;refine⟨q',?_⟩;have:=(BL.mp q').1;rw[h.size] at this;exact this
 · split at e<;>cases e
theorem Tab.no_dummy{t:A8}{j:Nat}(h:Tab t n):t.slot j≠ .dummy:=by
 unfold SetTable.slot;dsimp only
 split
 · exact λz=>by cases z
 · rw[h.du];have:has #[] j=false:=rfl;rw[this];exact λz=>by cases z
theorem Tab.slot_of{t:A8}{j:Nat}(h:Tab t n):(t.slot j= .empty↔j ∉ t.place.toList):=by
 have B:=QP h.ris j;unfold SetTable.slot;dsimp only;by_cases c:j∈t.place.toList
 · obtain⟨i,e⟩:=C7 c;have e':t.place[i]?=some j:=by rw[←AI];exact e
   have:i=AK t.place j:=by
    rcases Nat.lt_trichotomy i (AK t.place j) with z | z | z
    · exact absurd (B.lo _ _ z e') (Cp _)
    · exact z
    · exfalso;have lt:=(BL.mp e').1;have eb:t.place[AK t.place j]?=some t.place[AK t.place j]:=by simp[show AK t.place j<t.place.size by omega]
      have h1:=B.hi _ _ (Ae _) eb;have h2:=MY h.ris z eb e';omega
   rw[←this,e',if_pos (by simp)];exact⟨λz=>(by cases z),λz=>absurd c z⟩
 · have:¬(t.place[AK t.place j]?==some j)=true:=λq=>c (by
    have q':=eq_of_beq q;rw[←AI] at q';exact Aq q')
   rw[if_neg this,h.du];have:has #[] j=false:=rfl;rw[this];exact⟨λ_=>c,λ_=>rfl⟩
theorem Tab.room{t:A8}(h:Tab t n):∃e,e<t.mask+1∧t.slot e= .empty:=by
 obtain⟨e,he,hn⟩:∃e,e<t.mask+1∧e ∉ t.place.toList:=by
  refine EH λc=>?_;have all:∀e∈AX (t.mask+1),e∈t.place.toList:=λe he=>EH λz=>c ⟨e,List.mem_range.mp he,z⟩;have sub:(t.mask+1)≤t.place.toList.length:=by
   have:∀(a b:List Nat),a.Nodup→(∀x∈a,x∈b)→a.length≤b.length:=λa=>by
    induction a with
    | nil=>intro b _ _;exact Br _
    | cons x a ih=>
     intro b hn hs;rw[List.nodup_cons] at hn;have hx:=hs x Ar;have:=ih (b.erase x) hn.2 λy hy=>by have ne:y≠x:=λe=>hn.1 (e ▸ hy);exact(List.mem_erase_of_ne ne).mpr (hs y (Ao _ hy))
     rw[List.length_erase_of_mem hx] at this;have:=Fm hx;rw[A5];omega
   have:=this _ _ List.nodup_range all;rw[Ca] at this;exact this
  rw[Aj,h.size] at sub;have:=h.few;omega
 exact⟨e,he,h.slot_of.mpr hn⟩
theorem Tab.ends{t:A8}(h:Tab t n)(hs:Int):∃N,N<10*turns t.mask∧t.slot (Hy t N (t.probeStart hs)).j= .empty∧∀k,k<N→t.slot (Hy t k (t.probeStart hs)).j≠ .empty:=by
 obtain⟨e,he,se⟩:=h.room;obtain⟨k,hk,ek⟩:=So h.mask hs he;have ex:∃N,t.slot (Hy t N (t.probeStart hs)).j= .empty:=⟨k,by rw[ek];exact se⟩;have P:∀m,(∃N,N≤m∧t.slot (Hy t N (t.probeStart hs)).j= .empty)→∃N,N≤m∧t.slot (Hy t N (t.probeStart hs)).j= .empty∧∀k,k<N→t.slot (Hy t k (t.probeStart hs)).j≠ .empty:=λm=>by
  induction m with
  | zero=> rintro⟨N,hN,e⟩;exact⟨N,hN,e,λk hk=>by omega⟩
  | succ m ih=>
   rintro⟨N,hN,e⟩;by_cases c:∃N,N≤m∧t.slot (Hy t N (t.probeStart hs)).j= .empty
   · obtain⟨N',h1,h2⟩:=ih c;exact⟨N',by omega,h2⟩
   · refine⟨N,hN,e,λk hk z=>c ⟨k,by omega,z⟩⟩
 obtain⟨N,h1,h2,h3⟩:=P k ⟨k,Ae _,by rw[ek];exact se⟩;exact⟨N,by omega,h2,h3⟩
end ST
namespace ST
open PySem.SetTable
theorem UE(t:A8)(p:Probe):(t.advance p).dummy=p.dummy:=by
 unfold DF
 split<;>rfl
theorem Rv(t:A8):∀(k:Nat)(p:Probe),(Hy t k p).dummy=p.dummy
 | 0,p=>rfl
 | k+1,p=>by show(Hy t k (t.advance p)).dummy=_;rw[Rv t k,UE]
theorem Rf{mask:Nat}(h:i≤mask):runEnd mask i≤mask:=by
 unfold runEnd
 split<;>omega
theorem Td(t:A8)(p:Probe)(h:p.j+p.more≤t.mask):(t.advance p).j+(t.advance p).more≤t.mask:=by
 unfold DF
 split
 · show p.j+1+(p.more - 1)≤_;omega
 · have hi:(leap t.mask p.i p.perturb).1≤t.mask:=by
    have:=CM (p.i*5+1+p.perturb / 32) (show t.mask+1>0 by omega);show(p.i*5+1+p.perturb / 32)%(t.mask+1)≤_;omega
   have hr:=Rf hi;have hg:(leap t.mask p.i p.perturb).1≤runEnd t.mask (leap t.mask p.i p.perturb).1:=by
    unfold runEnd
    split<;>omega
   show(leap t.mask p.i p.perturb).1+(runEnd t.mask (leap t.mask p.i p.perturb).1 - (leap t.mask p.i p.perturb).1)≤_;omega
theorem P9(t:A8):∀(k:Nat)(p:Probe),p.j+p.more≤t.mask→(Hy t k p).j+(Hy t k p).more≤t.mask
 | 0,p,h=>h
 | k+1,p,h=>P9 t k _ (Td t p h)
theorem U7(t:A8)(h:Int):(t.probeStart h).j+(t.probeStart h).more≤t.mask:=by
 have hi:bits h%(t.mask+1)≤t.mask:=by have:=CM (bits h) (show t.mask+1>0 by omega);omega
 have hr:=Rf hi;have hg:bits h%(t.mask+1)≤runEnd t.mask (bits h%(t.mask+1)):=by
  unfold runEnd
  split<;>omega
 show bits h%(t.mask+1)+(runEnd t.mask (bits h%(t.mask+1)) - bits h%(t.mask+1))≤_;omega
theorem Pi{t:A8}(T:Tab t n){hs:Int}{N:Nat}(hN:t.slot (Hy t N (t.probeStart hs)).j= .empty)(hb:∀k,k<N→t.slot (Hy t k (t.probeStart hs)).j≠ .empty)(hashAt:Nat→Int):∀(d k fuel:Nat),N - k=d→k≤N→d<fuel→
 probe.go t hashAt hs fuel (Hy t k (t.probeStart hs))=some (.empty (Hy t N (t.probeStart hs)).j none)∨
 ∃m i,k≤m∧m<N∧t.slot (Hy t m (t.probeStart hs)).j= .live i∧probe.go t hashAt hs fuel (Hy t k (t.probeStart hs))=some (.candidate (Hy t m (t.probeStart hs)).j i (Hy t (m+1) (t.probeStart hs)))
 | d,k,0,_,_,h=>by omega
 | d,k,fuel+1,hd,hk,hf=>by
  unfold probe.go;by_cases e:k=N
  · subst e
    left
    rw[hN];dsimp only;rw[Rv];rfl
  · have hk':k<N:=by omega
    cases hsl:t.slot (Hy t k (t.probeStart hs)).j with
    | empty=>exact absurd hsl (hb k hk')
    | dummy=>exact absurd hsl T.no_dummy
    | live i=>
     dsimp only;by_cases q:(hashAt i==hs)=true
     · right
       rw[if_pos q];exact⟨k,i,Ae _,hk',hsl,by rw[Me]⟩
     · rw[if_neg q,←Me];rcases Pi T hN hb hashAt (d - 1) (k+1) fuel (by omega) (by omega) (by omega) with z | ⟨m,i',h1,h2,h3,h4⟩
       · exact .inl z
       · exact .inr ⟨m,i',by omega,h2,h3,h4⟩
theorem U_{t:A8}(T:Tab t n){hs:Int}{N:Nat}(hl:N<10*turns t.mask)(hN:t.slot (Hy t N (t.probeStart hs)).j= .empty)(hb:∀k,k<N→t.slot (Hy t k (t.probeStart hs)).j≠ .empty)(hashAt:Nat→Int){k:Nat}(hk:k≤N):
 t.probe hashAt hs (Hy t k (t.probeStart hs))=some (.empty (Hy t N (t.probeStart hs)).j none)∨
 ∃m i,k≤m∧m<N∧t.slot (Hy t m (t.probeStart hs)).j= .live i∧t.probe hashAt hs (Hy t k (t.probeStart hs))=some (.candidate (Hy t m (t.probeStart hs)).j i (Hy t (m+1) (t.probeStart hs))):=Pi T hN hb hashAt _ k _ rfl hk (by omega)
theorem Tab.fits{t:A8}(T:Tab t n):t.fits n=true:=by
 unfold Ey SetTable.fill;rw[T.size,T.du];have:=T.few;rcases T.mask with e | e
 · rw[e] at this ⊢;simp;omega
 · rw[e] at this ⊢;simp;omega
theorem Tab.stays{t:A8}(T:Tab t n):t.gaveWay=false:=by unfold SetTable.gaveWay;rcases T.mask with e | e<;>rw[e]<;>rfl
theorem Wm{o:Obj}{es:Array (Int×Value)}{ep:Nat}{t:A8}{x:Value}{hs:Int}{Q:SetFound→Shared→Prop}(ho:s.heap.get? a=some o)(hd:o.data= .set es ep t)(T:Tab t es.size)
 (refs:∀e∈es.toList,∃b,e.2= .ref b) (heq:∀e∈es.toList,∀R:Bool→Shared→Prop,R false s→wpAny (model prog w) A (eqBool e.2 x) R E s)
 (hseen:∀ys:List Value,(∀y∈ys,∃e∈es.toList,e.2=y)→∀R:Bool→Shared→Prop,R false s→wpAny (model prog w) A (searchCouldBeSeen x ys) R E s)
 (h:∀j,j≤t.mask→j ∉ t.place.toList→Q (.free j false) s):wpAny (model prog w) A (setSearch a x hs true) Q E s:=by
 obtain⟨N,hl,hN,hb⟩:=T.ends hs;have jl:(Hy t N (t.probeStart hs)).j≤t.mask:=by have:=P9 t N _ (U7 t hs);omega
 have fin:Q (.free (Hy t N (t.probeStart hs)).j false) s:=h _ jl (T.slot_of.mp hN);have tl:10*turns t.mask≤460:=by unfold turns;rcases T.mask with e | e<;>rw[e]<;>decide
 have main:∀(d k fuel:Nat)(st:Option Probe),N - k=d→k≤N→d<fuel→st.getD (t.probeStart hs)=Hy t k (t.probeStart hs)→wpAny (model prog w) A (setSearchFrom a x hs true fuel st) Q E s:=by
  intro d
  induction d using Nat.strongRecOn with
  | _ d ih=>
   intro k fuel st hk1 hk2 hf hst;cases fuel with
   | zero=>omega
   | succ fuel=>
    unfold setSearchFrom;refine Aa (AW ho hd T.fits ?_);dsimp only;rw[T.stays,hst];simp only[A3,if_false];generalize hp:SetTable.probe t _ hs (Hy t k (t.probeStart hs))=pr;obtain⟨hashAt,hf'⟩:∃f,t.probe f hs (Hy t k (t.probeStart hs))=pr:=⟨_,hp⟩;rcases U_ T hl hN hb hashAt hk2 with z | ⟨m,i,h1,h2,h3,z⟩
    · rw[hf'] at z;subst z;exact Ac fin
    · rw[hf'] at z;subst z;obtain⟨_,hi⟩:=T.slot_live h3;have ei:es[i]?=some es[i]:=by simp[hi]
      have mi:es[i]∈es.toList:=by simp
      obtain⟨b,eb⟩:=refs _ mi;have rest:wpAny (model prog w) A (setSearchFrom a x hs true fuel (some (Hy t (m+1) (t.probeStart hs)))) Q E s:=ih (N - (m+1)) (by omega) (m+1) fuel _ rfl (by omega) (by omega) rfl;by_cases hled:(!t.led)=true
      · dsimp only;rw[if_pos hled];refine Aa (hseen _ (λy hy=>?_) _ ?_)
        · obtain⟨e,he,rfl⟩:=AU.mp hy;exact⟨e,by have:=Da.mp he;exact Da.mpr (Array.mem_filter.mp this).1,rfl⟩
        · simp only[A3,if_false];rw[ei];dsimp only;refine Aa (AE (heq _ mi _ ?_));refine Aa (AW ho hd T.fits ?_);simp only[CU,A3,if_false];have sm:t.sameMemory t.moves t.mask=some true:=by
           unfold FL;simp
          rw[sm];simp only[if_true,h3];rw[ei];dsimp only;rw[eb];refine Aa (wpAny_isSame_ref_self ?_);exact Aa (Ac rest)
      · dsimp only;rw[if_neg hled];rw[ei];dsimp only;refine Aa (AE (heq _ mi _ ?_));refine Aa (AW ho hd T.fits ?_);simp only[CU,A3,if_false];have sm:t.sameMemory t.moves t.mask=some true:=by
         unfold FL;simp
        rw[sm];simp only[if_true,h3];rw[ei];dsimp only;rw[eb];refine Aa (wpAny_isSame_ref_self ?_);exact Aa (Ac rest)
 exact main _ 0 100000 none rfl (Br _) (by omega) rfl
end ST
namespace ST
open PySem.SetTable
theorem Qi{mask:Nat}{owner:Array (Option Nat)}(hz:owner.size=mask+1){e:Nat}(he:owner[e]?=some none):∀(f i p m:Nat),m<f→i≤mask→(lp mask m (i,p)).1=e→
 ∃j,layClean.free mask owner f i p=some j∧owner[j]?=some none
 | 0,i,p,m,h,_,_=>by omega
 | f+1,i,p,m,h,hi,hm=>by
  unfold layClean.free;cases hf:(AX (runEnd mask i+1 - i)).find? (λk=>(owner.getD (i+k) (some 0)).isNone) with
  | some k=>
   refine⟨_,rfl,?_⟩;have:=List.find?_some hf;rw[Cz] at this;cases ho:owner[i+k]? with
   | none=>rw[ho] at this;cases this
   | some q=>
    rw[ho] at this;cases q with
    | none=>rfl
    | some q=>cases this
  | none=>
   dsimp only;cases m with
   | zero=>
    exfalso;have e':i=e:=hm;subst e';have:=FN.mp hf 0 (DZ.mpr (by unfold runEnd;split<;>omega))
    rw[Nat.add_zero,Cz,he] at this;exact this rfl
   | succ m=> refine Qi hz he f _ _ m (by omega) ?_ hm;have:=CM (i*5+1+p / 32) (show mask+1>0 by omega);show(i*5+1+p / 32)%(mask+1)≤mask;omega
theorem Rg:∀{l:List (Option Nat)},(l.filterMap id).length<l.length→∃e:Nat,l[e]?=some none
 | [],h=>by cases h
 | none::l,h=>⟨0,rfl⟩
 | some x::l,h=>by
  have h':(l.filterMap id).length<l.length:=by simpa using h
  obtain⟨e,he⟩:=Rg h';exact⟨e+1,by simpa using he⟩
theorem Q9:∀{l:List (Option Nat)}{j k:Nat},l[j]?=some none→((l.set j (some k)).filterMap id).Perm (k::l.filterMap id)
 | [],j,k,h=>by cases h
 | x::l,0,k,h=>by
  cases x with
  | none=>simp
  | some x=>simp at h
 | x::l,j+1,k,h=>by
  have ih:=Q9 (l:=l) (j:=j) (k:=k) (by simpa using h);cases x with
  | none=>simpa using ih
  | some x=> show(x::(l.set j (some k)).filterMap id).Perm (k::x::l.filterMap id);exact(ih.cons x).trans (List.Perm.swap _ _ _)
structure Own(mask n:Nat)(owner:Array (Option Nat)):Prop where
 size:owner.size=mask+1
 all:(owner.toList.filterMap id).Perm (AX n)
theorem Pu{mask:Nat}(hm:mask=7∨mask=31):∀(hs:List Int)(owner:Array (Option Nat))(n:Nat),Own mask n owner→n+hs.length≤mask→
 ∃ow,Own mask (n+hs.length) ow∧hs.foldl (λ(acc:Option (Array (Option Nat)×Nat))h=>do
  let(owner,k) ←acc
  let j ←layClean.free mask owner (turns mask) (bits h%(mask+1)) (bits h)
  pure (owner.setIfInBounds j (some k),k+1)) (some (owner,n))=some (ow,n+hs.length)
 | [],owner,n,O,_=>⟨owner,O,rfl⟩
 | h::hs,owner,n,O,hl=>by
  rw[A5] at hl;obtain⟨e,he⟩:=Rg (l:=owner.toList) (by rw[O.all.length_eq,Ca,Aj,O.size];omega);rw[AI] at he;have el:e<mask+1:=by have:=(BL.mp he).1;rw[O.size] at this;exact this
  obtain⟨m,hm2,hr⟩:=Pb hm (i:=bits h%(mask+1)) (p:=bits h) (CM _ (by omega)) (PB h) el;obtain⟨j,hj,ho⟩:=Qi O.size he (turns mask) (bits h%(mask+1)) (bits h) m (by unfold turns;omega) (by have:=CM (bits h) (show mask+1>0 by omega);omega) hr;have O':Own mask (n+1) (owner.setIfInBounds j (some n)):=by refine⟨by rw[Array.size_setIfInBounds];exact O.size,?_⟩;rw[Array.toList_setIfInBounds];refine(Q9 (by rw[AI];exact ho)).trans ?_;refine(O.all.cons n).trans ?_;rw[List.range_succ];exact List.perm_append_comm (l₁:=[n]) (l₂:=AX n)
  obtain⟨ow,h1,h2⟩:=Pu hm hs _ _ O' (by omega);refine⟨ow,?_,?_⟩
  · rw[A5];have:n+(hs.length+1)=n+1+hs.length:=by omega
    rw[this];exact h1
  · rw[DN,A5];have:n+(hs.length+1)=n+1+hs.length:=by omega
    rw[this,←h2];congr 1;show(layClean.free mask owner (turns mask) (bits h%(mask+1)) (bits h)>>=_)=_;rw[hj];rfl
theorem Wu{mask:Nat}(hm:mask=7∨mask=31){hs:Array Int}(hl:hs.size≤mask):∃ow,Own mask hs.size ow∧layClean mask hs=some ow:=by
 obtain⟨ow,h1,h2⟩:=Pu hm hs.toList (Array.replicate (mask+1) none) 0 ⟨by simp,by simp⟩ (by rw[Aj];omega);rw[Nat.zero_add,Aj] at h1 h2;refine⟨ow,h1,?_⟩;unfold layClean;rw[←Array.foldl_toList]
 erw [h2]
 rfl
theorem Uh(ow:Array (Option Nat))(hz:ow.size=n):(AX n).filterMap (λj=>ow.getD j none)=ow.toList.filterMap id:=by
 subst hz
 conv=>rhs;rw[←filterMap_getElem?_range ow]
 rw[List.filterMap_filterMap];congr 1;funext j;rw[Cz];cases ow[j]?<;>rfl
theorem Vl{t:A8}{hs:Array Int}{wanted:Nat}(hm:sizeAbove wanted=32)(hl:hs.size*5<93):
 ∃t' order,t.relaid hs wanted=some (t',order)∧Tab t' hs.size∧order.toList.Perm (AX hs.size)∧t'.led=t.led∧t'.plain=t.plain:=by
 obtain⟨ow,O,e⟩:=Wu (mask:=31) (.inr rfl) (hs:=hs) (by omega);unfold SetTable.relaid;rw[hm];unfold SetTable.laid;rw[show 32 - 1=31 from rfl,e];have ord:((((AX (31+1)).filterMap λj=>(ow.getD j none).map (j, ·)).map (·.2)).toArray).toList.Perm (AX hs.size):=by rw[CF,Ei];refine List.Perm.trans (Fb ?_) O.all;rw[←Uh ow O.size];congr 1;funext j;cases ow.getD j none<;>rfl
 refine⟨_,_,rfl,⟨.inr rfl,?_,?_,?_,rfl,by show _*5<31*3;omega⟩,ord,rfl,rfl⟩
 · have:=ord.length_eq;rw[Ca] at this;simpa using this
 · show((((AX (31+1)).filterMap λj=>(ow.getD j none).map (j, ·)).map (·.1)).toArray).toList.Pairwise (· < ·);rw[CF,Ei,List.pairwise_filterMap];refine List.Pairwise.imp ?_ List.pairwise_lt_range;intro a b hab x hx y hy;cases ha:ow.getD a none with
   | none=>rw[ha] at hx;cases hx
   | some u=>
    cases hb:ow.getD b none with
    | none=>rw[hb] at hy;cases hy
    | some v=> rw[ha] at hx;rw[hb] at hy;cases hx;cases hy;exact hab
 · show ∀j∈((((AX (31+1)).filterMap λj=>(ow.getD j none).map (j, ·)).map (·.1)).toArray).toList,j≤31;rw[CF];intro j hj;obtain⟨x,hx,rfl⟩:=AU.mp hj;obtain⟨k,hk,e⟩:=CI.mp hx;have:=List.mem_range.mp hk;cases ha:ow.getD k none with
   | none=>rw[ha] at e;cases e
   | some u=> rw[ha] at e;cases e;show k≤31;omega
end ST
namespace ST
open PySem.SetTable
theorem Vk{h':Heap}{x:List WP}{vs:List Value}(hx:RefsAre prog w h x vs)(k:∀(b:Addr)o its n,h.get? b=some o→o.data= .seq its n→h'.get? b=some o):RefsAre prog w h' x vs:=by
 induction hx with
 | nil=>exact .nil
 | cons h1 _ ih=> obtain⟨o,its,n,e1,e2,e3,e4⟩:=h1;exact .cons ⟨o,its,n,k _ _ _ _ e1 e3,e2,e3,e4⟩ ih
theorem R8{h':Heap}{ws:List WP}(x:IsWishKey prog w h ws a)(k:∀(b:Addr)o its n,h.get? b=some o→o.data= .seq its n→h'.get? b=some o):IsWishKey prog w h' ws a:=by obtain⟨o,its,n,e1,e2,e3,e4⟩:=x;exact⟨o,its,n,k _ _ _ _ e1 e3,e2,e3,Vk e4 k⟩
def WSet(prog:Bb)(w:World)(h0 h:Heap)(a:Addr)(ks:List (List WP)):Prop:=∃(es:Array (Int×Value))(ep:Nat)(t:A8),
 h.get? a=some {cls:= .type "set",dict:=none,data:= .set es ep t}∧Tab t es.size∧es.size=ks.length∧∀e∈es.toList,∃ws b,ws∈ks∧e.2= .ref b∧IsWishKey prog w h0 ws b
theorem WSet.kept{h0 h':Heap}{ks:List (List WP)}(T:WSet prog w h0 h a ks)(k:∀o,h.get? a=some o→h'.get? a=some o):WSet prog w h0 h' a ks:=by obtain⟨es,ep,t,h1,h2,h3,h4⟩:=T;exact⟨es,ep,t,k _ h1,h2,h3,h4⟩
theorem WE{h0:Heap}{l:Bool}(e:h.get? a=some {cls:= .type "set",dict:=none,data:= .set #[] 0 (.fresh 0 0 l)}):WSet prog w h0 h a []:=
 ⟨#[],0,_,e,⟨.inl rfl,rfl,.nil,λj hj=>by simp[SetTable.fresh] at hj,rfl,by show 0*5<7*3;decide⟩,rfl,λe he=>by simp at he⟩
theorem Ub{p:WP}{Q:Bool→Shared→Prop}(hk:IsTupleKey (Lh prog w) s.heap (JR p) b)(h:∀c,Q c s):wpAny (model prog w) A (hashByValue (n+1) (.ref b)) Q E s:=by
 have ty:=hk.typeIs;obtain⟨o,its,m,h1,_,h2,h3⟩:=hk;unfold hashByValue;refine Aa (BF ty B_.lookup ?_);dsimp only;refine Aa (AT h1 h2 (Aa ?_));show wpAny _ _ (forIn its _ _) _ _ s;rw[←Ck];refine BA _ (λrest r s'=>s'=s∧∀v∈rest,carriedByValue v=true) _ ?step ?done _ _ ⟨rfl,h3.byValue⟩
 case step=>
  rintro v rest r s' ⟨rfl,al⟩;have hv:∃c,hashByValue n v=pure c:=by have:=al v Ar;cases v<;>first | (exact⟨_,by unfold hashByValue;rfl⟩) | (cases this)
  obtain⟨c,hc⟩:=hv;rw[hc];refine Aa (Ac ?_);cases c with
  | false=>exact Ac (Ac (h false))
  | true=>exact Ac ⟨rfl,λu hu=>al u (Ao _ hu)⟩
 case done=>
  rintro⟨r1,r2⟩ s' ⟨rfl,_⟩;cases r1 with
  | none=>exact Ac (h _)
  | some c=>exact Ac (h _)
theorem Uc{ws:List WP}{Q:Bool→Shared→Prop}(hk:IsWishKey prog w s.heap ws a)(h:∀c,Q c s):wpAny (model prog w) A (hashByValue 8 (.ref a)) Q E s:=by
 have ty:=hk.typeIs;obtain⟨o,its,m,h1,_,h2,h3⟩:=hk;unfold hashByValue;refine Aa (BF ty B_.lookup ?_);dsimp only;refine Aa (AT h1 h2 (Aa ?_));show wpAny _ _ (forIn its _ _) _ _ s;rw[←Ck];refine BA _ (λrest r s'=>s'=s∧∃ws',RefsAre prog w s.heap ws' rest) _ ?step ?done _ _ ⟨rfl,ws,h3⟩
 case step=>
  rintro v rest r s' ⟨rfl,ws',hl⟩;cases hl with
  | @cons p c ps _ c1 hl'=>
   refine Aa (Ub c1 λd=>?_);cases d with
   | false=>exact Ac (Ac (h false))
   | true=>exact Ac ⟨rfl,ps,hl'⟩
 case done=>
  rintro⟨r1,r2⟩ s' ⟨rfl,_⟩;cases r1 with
  | none=>exact Ac (h _)
  | some c=>exact Ac (h _)
theorem UG{p:WP}{Q:Bool→Shared→Prop}(hk:IsTupleKey (Lh prog w) s.heap (JR p) b)(h:Q false s):wpAny (model prog w) A (ofAClassStatement (n+1) (.ref b)) Q E s:=by
 have ty:=hk.typeIs;obtain⟨o,its,m,h1,_,h2,h3⟩:=hk;unfold ofAClassStatement;refine Aa (Ce ty ?_);dsimp only;rw[if_pos (by decide)];refine Aa (Ac ?_);simp only[BJ,A3,if_false];refine Aa (AT h1 h2 ?_);dsimp only;refine Aa ?_;rw[←Ck];refine BA _ (λrest r s'=>r.1=none∧s'=s∧∀v∈rest,carriedByValue v=true) _ ?step ?done _ _ ⟨rfl,rfl,h3.byValue⟩
 case step=>
  rintro v rest r s' ⟨hr,rfl,al⟩;have hv:ofAClassStatement n v=pure false:=by have:=al v Ar;cases v<;>first | (unfold ofAClassStatement;rfl) | (cases this)
  rw[hv];refine Aa (Ac ?_);simp only[A3,if_false];exact Ac ⟨rfl,rfl,λu hu=>al u (Ao _ hu)⟩
 case done=> rintro⟨r1,r2⟩ s' ⟨hr,rfl,_⟩;simp only at hr;subst hr;exact Ac h
theorem QT{ws:List WP}{Q:Bool→Shared→Prop}(hk:IsWishKey prog w s.heap ws a)(h:Q false s):wpAny (model prog w) A (ofAClassStatement 8 (.ref a)) Q E s:=by
 have ty:=hk.typeIs;obtain⟨o,its,m,h1,_,h2,h3⟩:=hk;unfold ofAClassStatement;refine Aa (Ce ty ?_);dsimp only;rw[if_pos (by decide)];refine Aa (Ac ?_);simp only[BJ,A3,if_false];refine Aa (AT h1 h2 ?_);dsimp only;refine Aa ?_;rw[←Ck];refine BA _ (λrest r s'=>r.1=none∧s'=s∧∃ws',RefsAre prog w s.heap ws' rest) _ ?step ?done _ _ ⟨rfl,rfl,ws,h3⟩
 case step=>
  rintro v rest r s' ⟨hr,rfl,ws',hl⟩;cases hl with
  | @cons p c ps _ c1 hl'=> refine Aa (UG c1 ?_);simp only[A3,if_false];exact Ac ⟨rfl,rfl,ps,hl'⟩
 case done=> rintro⟨r1,r2⟩ s' ⟨hr,rfl,_⟩;simp only at hr;subst hr;exact Ac h
theorem Wn{ws:List WP}{ys:List Value}{Q:Bool→Shared→Prop}(hk:IsWishKey prog w s.heap ws a)(hy:∀y∈ys,∃ws' b,y= .ref b∧IsWishKey prog w s.heap ws' b)(h:Q false s):
 wpAny (model prog w) A (searchCouldBeSeen (.ref a) ys) Q E s:=by
 unfold searchCouldBeSeen;refine Aa ?_;refine BA _ (λrest r s'=>r.1=none∧s'=s∧∀y∈rest,∃ws' b,y= .ref b∧IsWishKey prog w s.heap ws' b) _ ?step ?done _ _ ⟨rfl,rfl,hy⟩
 case step=>
  rintro v rest r s' ⟨hr,rfl,al⟩;have al':=λu hu=>al u (Ao _ hu);obtain⟨ws',b,rfl,hb⟩:=al v Ar;dsimp only
  split
  · exact Ac ⟨rfl,rfl,al'⟩
  · refine Aa (R0 hk ?_);simp only[BJ,A3,if_false];refine Aa (R0 hb ?_);simp only[BJ,A3,if_false];refine Aa (QT hk ?_);simp only[A3,if_false];refine Aa (QT hb ?_);simp only[A3,if_false];exact Ac ⟨rfl,rfl,al'⟩
 case done=> rintro⟨r1,r2⟩ s' ⟨hr,rfl,_⟩;simp only at hr;subst hr;exact Ac h
theorem Tab.put_ok{t:A8}{j:Nat}(T:Tab t n)(hj:j ∉ t.place.toList)(hl:j≤t.mask):
 (t.put j).1.mask=t.mask∧(t.put j).1.place.size=n+1∧(t.put j).1.place.toList.Pairwise (· < ·)∧(∀i∈(t.put j).1.place.toList,i≤t.mask)∧(t.put j).1.dummies=#[]:=by
 refine⟨rfl,?_,Wg T.ris hj,?_,?_⟩
 · show(insertAt t.place (AK t.place j) j).size=_;rw[←Aj,(DB _ _ _).length_eq,Aj,Array.size_push,T.size]
 · intro i hi;rw[show(t.put j).1.place=insertAt t.place (AK t.place j) j from rfl,(DB _ _ _).mem_iff,D3,AM,Aw] at hi;rcases hi with z | rfl
   · exact T.le i z
   · exact hl
 · show(if has t.dummies j then eraseAt t.dummies (AK t.dummies j) else t.dummies)=_
   rw[T.du];rfl
theorem UD{S:Addr}{ks:List (List WP)}{ws:List WP}{hs:Int}{Q:Bool→Shared→Prop}(hu:A.units+1<cLine){h0:Heap}(kp:∀b o,h0.get? b=some o→s.heap.get? b=some o)(T:WSet prog w h0 s.heap S ks)(hk0:IsWishKey prog w h0 ws b)(hn:ws ∉ ks)(hl:ks.length<18)
 (h:∀h',BS S s.heap h'→WSet prog w h0 h' S (ks++[ws])→Q true {s with heap:=h'}):
 wpAny (model prog w) A (setAddHashed S (.ref b) hs) Q E s:=by
 obtain⟨es,ep,t,ho,tab,hz,hel⟩:=T;have up:∀{x:List WP}{c:Addr},IsWishKey prog w h0 x c→IsWishKey prog w s.heap x c:=λq=>R8 q λb o _ _ e _=>kp b o e;have hk:=up hk0;unfold setAddHashed setAddHashedIn;refine AE (Aa (AW ho rfl tab.fits ?_));dsimp only;rw[if_neg (by unfold byScan;simp[Value.scannable])];refine Aa (Wm ho rfl tab (λe he=>?_) (λe he R hR=>?_) (λys hy R hR=>?_) λj hj1 hj2=>?_)
 · obtain⟨_,c,_,q,_⟩:=hel e he;exact⟨c,q⟩
 · obtain⟨ws',c,q1,q2,q3⟩:=hel e he;rw[q2];refine Ua hu (up q3) hk ?_;have ne:¬ws'=ws:=λz=>hn (z ▸ q1);rw[decide_eq_false ne];exact hR
 · refine Wn hk (λy hy'=>?_) hR;obtain⟨e,he,rfl⟩:=hy y hy';obtain⟨ws',c,q1,q2,q3⟩:=hel e he;exact⟨ws',c,q2,up q3⟩
 · dsimp only;refine Aa (AW ho rfl tab.fits ?_);dsimp only;obtain⟨p1,p2,p3,p4,p5⟩:=tab.put_ok hj2 hj1;generalize hP:t.put j=P at p1 p2 p3 p4 p5 ⊢;obtain⟨t1,pp⟩:=P;dsimp only at p1 p2 p3 p4 p5 ⊢;have perm:=DB es pp (hs,Value.ref b);generalize hE:SetTable.insertAt es pp (hs,Value.ref b)=es1 at perm ⊢;have sz1:es1.size=es.size+1:=by rw[←Aj,perm.length_eq,Aj,Array.size_push]
   have fin:∀(h':Heap)(es2:Array (Int×Value))(ep2:Nat)(t2:A8),BS S s.heap h'→h'.get? S=some {cls:= .type "set",dict:=none,data:= .set es2 ep2 t2}→es2.toList.Perm es1.toList→Tab t2 es2.size→Q true {s with heap:=h'}:=λh' es2 ep2 t2 sb ho2 p2 T2=>by
    have sz2:es2.size=es1.size:=by rw[←Aj,p2.length_eq,Aj]
    refine h h' sb ⟨es2,ep2,t2,ho2,T2,by rw[sz2,sz1,hz,AG];rfl,λe he=>?_⟩;have me:=(p2.trans perm).mem_iff.mp he;rw[D3,AM,Aw] at me;rcases me with me | rfl
    · obtain⟨ws',c,q1,q2,q3⟩:=hel e me;exact⟨ws',c,DI _ q1,q2,q3⟩
    · exact⟨ws,b,A6 _ (Aw.mpr rfl),rfl,hk0⟩
   have tail:∀(t2:A8),t2.mask=t.mask→t2.place=t1.place→t2.dummies=#[]→wpAny (model prog w) A (do
    storeSet S es1 t2
    if(!false && t2.tooFull)=true then
     setRelay S (BN (es.size+1))
     pure true
    else pure true) Q E s:=λt2 m1 m2 m3=>by
    refine Aa (D4 (es':=es1) (t':=t2) ho rfl ?_ (by rw[sizeLine_eq];omega));have ho2:=Md s.heap S es es1 ep t t2 ho;have sb:=AN s.heap S (Obj.putSet es1 t2);have fl:t2.fill=es1.size:=by unfold SetTable.fill;rw[m2,m3,p2,sz1];rfl
    by_cases tf:t2.tooFull=true
    · rw[if_pos (by rw[tf];rfl)];unfold SetTable.tooFull at tf;rw[fl,m1] at tf;have few:=tab.few;have m7:t.mask=7:=by
       rcases tab.mask with e | e
       · exact e
       · rw[e] at tf;simp at tf;omega
      rw[m7] at tf few;simp at tf;have n4:es.size=4:=by omega
      unfold setRelay;refine Aa (Aa (AW ho2 rfl ?_ ?_))
      · unfold Ey;rw[fl,m2,m1,p2,sz1,m7,n4];rfl
      · dsimp only;rw[n4,if_neg (by rw[show SetTable.sizeAbove (BN (4+1))=32 from by decide,sizeLine_eq];decide)]
        obtain⟨t3,order,e1,T3,op,_,_⟩:=Vl (t:=t2) (hs:=es1.map (·.1)) (wanted:=BN (4+1)) (by decide) (by rw[Fy,sz1,n4];decide);rw[e1];have per:(order.filterMap (es1[·]?)).toList.Perm es1.toList:=by rw[Array.toList_filterMap];refine(op.filterMap _).trans (Fb ?_);rw[Fy];exact filterMap_getElem?_range es1
        have sz3:(order.filterMap (es1[·]?)).size=es1.size:=by rw[←Aj,per.length_eq,Aj]
        have I_:¬((order.filterMap (es1[·]?)).size !=es1.size)=true:=by rw[sz3];simp
        refine Aa ?_;show wpAny _ _ (if((order.filterMap (es1[·]?)).size !=es1.size)=true then _ else _) _ _ _
        rw[if_neg I_];refine Ac ?_;dsimp only;refine D4 ho2 rfl ?_ (by rw[sz3,sizeLine_eq];omega);refine Ac (fin _ _ _ t3 (sb.trans (AN _ S _)) (Md _ S es1 _ (ep+1) t2 t3 ho2) per ?_);rw[sz3];rw[Fy] at T3;exact T3
    · rw[if_neg (by rw[EO] at tf;rw[tf];exact An)];unfold SetTable.tooFull at tf;rw[fl,m1] at tf;refine Ac (fin _ es1 (ep+1) t2 sb ho2 (C_ _) ⟨by rw[m1];exact tab.mask,by rw[m2,p2,sz1],by rw[m2];exact p3,by rw[m2,m1];exact p4,m3,?_⟩);rw[m1];simpa using tf
   by_cases hp:t1.plain=true
   · rw[if_pos hp];refine Aa (Uc hk λc=>?_);cases c with
     | true=>exact tail t1 p1 rfl p5
     | false=>exact tail {t1 with plain:=false} p1 rfl p5
   · rw[if_neg hp];exact Aa (Ac (tail t1 p1 rfl p5))
end ST
def hs(S:Addr→Bool)(H:Hp):Hp:=λa=>if S a=true then none else H a
def look:List (Str×V)→Str→Option V
 | [],_=>none
 | (k,v)::r,x=>if x=k then some v else look r x
def O9:R2:=λx y H Q=>∃a b xs,x= .ref a∧y= .ref b∧H a=some (.tup xs)∧H b=some (.tup [])∧Q (.bl xs.isEmpty) H
theorem SK(hr:Jb X):HK X (Bq .Eq) O9:=by
 intro pins s σ H x y v u Q I rx ry h;obtain⟨a,b,xs,rfl,rfl,ha,hb,q⟩:=h;cases(show v=Value.ref a from rx);cases(show u=Value.ref b from ry);unfold Jb at hr;obtain⟨_,its,rv,o,hg,hc,_,n,hd⟩:=(show ObjOk X.prog X.w H s.heap a (.tup xs) from I.hok a _ ha);obtain⟨_,its',rv',o',hg',hc',_,n',hd'⟩:=(show ObjOk X.prog X.w H s.heap b (.tup []) from I.hok b _ hb);cases rv';have l:=rv.length;have:=E8 (l:=a) (b:=b) (A:=X.A) (e:=λ_=>true) (s:=s) (items:=its.toArray) (items2:=([]:List Value).toArray) ⟨_,hg,hc,_,hd⟩ ⟨_,hg',hc',_,hd'⟩ (by omega) (λj h1 h2=>absurd h2 (by simp));refine this X.prog X.w _ _ ?_;have e:((AX (min its.toArray.size ([]:List Value).toArray.size)).all (λ_=>true) && its.toArray.size==([]:List Value).toArray.size)=xs.isEmpty:=by
  cases xs with
  | nil=> cases rv;rfl
  | cons x xs=>
   cases rv with
   | cons r1 r2=>simp
 rw[e];exact⟨.bl _,H,I,rfl,q⟩
open ST
section
variable{R:Result→Shared→Prop}{I:Addr}{fp wr:List Addr}{G:Array GenState→Array GenState→Prop}{P:Nat→Value→Prop}{St:Nat→Shared→Prop}
theorem VY(ts:List (List WP))(W:WalksS prog w A.in1 I fp wr G ts.length P St)(S:Addr)(hSf:S ∉ fp)(hu:A.in1.units+1<cLine){h0:Heap}(hfr:∀b∈S::wr,h0.get? b=none)
 (hval:∀i v,P i v→∃b ws,v= .ref b∧ts[i]?=some ws∧IsWishKey prog w h0 ws b) (nd:ts.Nodup) (hb:ts.length≤18):
 ∀(k i:Nat)(s:Shared),ts.length - i=k→i≤ts.length→St i s→WSet prog w h0 s.heap S (ts.take i)→(∀b o,h0.get? b=some o→s.heap.get? b=some o)→
  (∀s',Moved (S::wr) G s s'→WSet prog w h0 s'.heap S ts→R (.ok (.ret .none)) s')→
  codeAny (model prog w) A (.builtin "set.update.loop" ⟨[.ref S,.ref I],[]⟩) R s:=by
 have hSw:S ∉ wr:=λh=>hSf (W.sub _ h);have hsub:∀b∈wr,b∈S::wr:=λb hb=>Ao _ hb;have old:∀b o,h0.get? b=some o→b ∉ S::wr:=λb o e q=>by rw[hfr b q] at e;cases e
 intro k
 induction k with
 | zero=>
  intro i s hk hi hst hS kp hR;have hin:i=ts.length:=by omega
  subst hin;refine A_ BW ?_;rw[AO Bj _];show wpAny _ A.in1 (pyNext (.ref I)>>=_) _ _ s;refine Aa (W.done s _ _ hst λs' hm=>?_);show wpAny _ A.in1 (ret Value.none) _ _ s';rw[Bt] at hS;exact Ac (hR s' (hm.mono hsub) (hS.kept λo e=>hm.heap S _ hSw e))
 | succ k ih=>
  intro i s hk hi hst hS kp hR;have hlt:i<ts.length:=by omega
  refine A_ BW ?_;rw[AO Bj _];show wpAny _ A.in1 (pyNext (.ref I)>>=_) _ _ s;refine Aa (W.item i s _ _ hlt hst λv s' hP hst' hm=>?_);obtain⟨b,ws,rfl,hx,hkey⟩:=hval i v hP;have hS':WSet prog w h0 s'.heap S (ts.take i):=hS.kept λo e=>hm.heap S _ hSw e;have kp':∀b o,h0.get? b=some o→s'.heap.get? b=some o:=λb o e=>hm.heap b o (λq=>old b o e (hsub b q)) (kp b o e);have key':IsWishKey prog w s'.heap ws b:=R8 hkey λb o _ _ e _=>kp' b o e;have hni:ws ∉ ts.take i:=λq=>by obtain⟨j,hj,e⟩:=FD.mp q;rw[AC] at hj;rw[List.getElem_take] at e;obtain⟨hi',e2⟩:=Am.mp hx;have:=(Ez.mp nd);have:=(BP.mp this) j i (by omega) hi' (by omega);exact this (e.trans e2.symm)
  show wpAny _ A.in1 (holding [Value.ref b] (setAdd S (.ref b))>>=_) _ _ s';refine Aa (AE ?_);unfold setAdd;refine AE ?_;refine Aa (Vr hu key' ?_);refine UD (s:={s' with toks:=s'.toks+(4*ws.length+1)}) hu (h0:=h0) kp' hS' hkey hni (by rw[AC];omega) λh' hsb hS2=>?_
  refine Ac ⟨BI Bj _,ih (i+1) _ (by omega) hlt (W.frame _ s' _ _ hst' (by show s'.toks≤s'.toks+_;omega) λb hb o e=>?_) ?_ (λb o e=>?_) λs'' hm'' hS''=>?_⟩
  · rw[hsb.2 b (λh:b=S=>hSf (by rw[←h];exact hb))];exact e
  · rw[BY,hx];exact hS2
  · rw[show Heap.get? h' b=_ from hsb.2 b (λh:b=S=>old b o e (by rw[h];exact Ar))];exact kp' b o e
  · refine hR s'' (Moved.trans W.gtrans ((hm.mono hsub).then_heap (by show s'.toks≤s'.toks+_;omega) λb o hb e=>?_) hm'') hS'';rw[hsb.2 b (λh:b=S=>hb (by rw[h];exact Ar))];exact e
end
set_option maxHeartbeats 3200000 in
theorem X8{l:Addr}{items:Array Value}{ts:List (List WP)}{Q:Value→Shared→Prop}
 (hh:A.handled=none) (hu:A.units+20<cLine) (hl:s.heap.IsList l items) (hsz:items.size=ts.length) (hi:∀(i:Nat)(v:Value),items[i]?=some v→∃b ws,v=Value.ref b∧ts[i]?=some ws∧IsWishKey prog w s.heap ws b) (nd:ts.Nodup) (hb:ts.length≤18)
 (h:∀(h':Heap)(tk:Nat),WSet prog w s.heap h' s.heap.objs.size ts→
  (∀b o,b<s.heap.objs.size→s.heap.get? b=some o→h'.get? b=some o)→Q (.ref s.heap.objs.size) {s with heap:=h',toks:=tk}):
 wpAny (model prog w) A (call (.type "set") [.ref l]) Q E s:=by
 obtain⟨c,tl,hmro⟩:=AL.mro;have hmade:=AL.made;have hsub:=AL.sub;refine EC (Dl ?_);show wpAny _ _ (callAny (.type "set") _) _ _ _;refine Ac ⟨Code.quiet_builtin _ (by decide+kernel),A_ ET ?_⟩;rw[Around.under_plain (weight_type_call_type "set" [.ref l] []) rfl];have h1:=AL.notType;have h2:=AL.canCreate;have hct:=Fh (.ref l)
 repeat (any_goals (first | assumption | wp_step))
 refine Cd (RK (.ref l) (E:=E) (Q₁:=λobj s₁=>obj= .ref s.heap.objs.size∧s₁={s with heap:=s.heap.push {cls:= .type "set",dict:=none,data:= .set #[] 0 (.fresh 0 0 (!Hn w))}}) ⟨rfl,rfl⟩) λr s₁ hr=>?_
 cases r with
 | error e=>exact hr
 | ok fl=>
  cases fl with
  | ret obj=>
   obtain⟨rfl,rfl⟩:=hr;have hS:(s.heap.push {cls:= .type "set",dict:=none,data:= .set #[] 0 (.fresh 0 0 (!Hn w))}).get? s.heap.objs.size=some {cls:= .type "set",dict:=none,data:= .set #[] 0 (.fresh 0 0 (!Hn w))}:=Ai _ rfl;have hT:Ew {s with heap:=s.heap.push {cls:= .type "set",dict:=none,data:= .set #[] 0 (.fresh 0 0 (!Hn w))}} (.ref s.heap.objs.size) "set":=⟨_,hS,rfl⟩;have hli:=AL.init.lookup;have hbi:=AL.init.bind (.ref s.heap.objs.size)
   repeat (any_goals (first | assumption | wp_step))
   refine Cd (Dd (R:=wants (λr s₂=>r= .none∧∃h' tk,s₂={s with heap:=h',toks:=tk}∧WSet prog w s.heap h' s.heap.objs.size ts∧
    (∀b o,b<s.heap.objs.size→s.heap.get? b=some o→h'.get? b=some o)) E) AL.init.plain Fi (check_set_init_1 hT ?_)) λr₂ s₂ hr₂=>?_
   · obtain⟨ol,hol,hcl,nl,hdl⟩:=hl;obtain⟨ocls,odict,odata,oslots⟩:=ol;simp only at hcl hdl;subst hcl;subst hdl;have hol':(s.heap.push {cls:= .type "set",dict:=none,data:= .set #[] 0 (.fresh 0 0 (!Hn w))}).get? l=some {cls:= .type "list",dict:=odict,data:= .seq items nl,slots:=oslots}:=Ad _ hol;have hsls:=F9;have hslf:=Ex;have hne:(Value.type "list"==Value.type "dict")=false:=by decide
     have hl1:(s.heap.push {cls:= .type "set",dict:=none,data:= .set #[] 0 (.fresh 0 0 (!Hn w))}).IsList l items:=⟨_,hol',rfl,nl,rfl⟩;unfold Builtin.«set.__init__» noKeywords Ea;generalize hPI:pyIter=PI
     wp_walk
     subst hPI;refine CO hl1 ?_;refine Aa (Fv ?_);have hlS:l<s.heap.objs.size:=Ag hol;have hh3:A.in1.in1.in1.handled=none:=by simp[hh]
     have hneI:l≠(s.heap.push {cls:= .type "set",dict:=none,data:= .set #[] 0 (.fresh 0 0 (!Hn w))}).objs.size:=by rw[AJ];exact Al (CS hlS)
     have hSf:s.heap.objs.size ∉ [(s.heap.push {cls:= .type "set",dict:=none,data:= .set #[] 0 (.fresh 0 0 (!Hn w))}).objs.size,l]:=by rw[AJ];simp only[Ax,Aw,AD,or_false,not_or];exact⟨Al (BH _),Cc hlS⟩
     have hfr:∀b∈[s.heap.objs.size,(s.heap.push {cls:= .type "set",dict:=none,data:= .set #[] 0 (.fresh 0 0 (!Hn w))}).objs.size],s.heap.get? b=none:=λb hb=>by
      cases e:s.heap.get? b with
      | none=>rfl
      | some o=>
       have:=Ag e;rw[AJ] at hb;simp only[Ax,AD,or_false] at hb;rcases hb with rfl | rfl
       · exact absurd this (Cp _)
       · exact absurd this (Nat.not_lt.mpr (C9 _))
     have W:=(Walks.list (prog:=prog) (w:=w) hh3 (s.heap.push {cls:= .type "set",dict:=none,data:= .set #[] 0 (.fresh 0 0 (!Hn w))}).objs.size l hneI items).toS;rw[hsz] at W;refine VY ts W s.heap.objs.size hSf (by show A.units+1+1+1+1<cLine;omega) (h0:=s.heap) hfr hi nd hb (ts.length - 0) 0 _ (by omega) (Br _)
      ⟨⟨_,Ai _ rfl,rfl,rfl⟩,(hl1.push _)⟩ (WE (Ad _ hS)) (λb o e=>Ad _ (Ad _ e)) ?hR
     case hR=>
      intro s' hm hS';obtain⟨h',g',d',tk',os'⟩:=s';have eg:g'=s.gens:=hm.gens;have ed:d'=s.drawn:=hm.drawn;have eo:os'=s.os:=hm.os;subst eg;subst ed;subst eo;show wpAny _ _ _ _ _ _;refine Ac ?_;show wpAny _ _ (ret Value.none) _ _ _;refine Ac ⟨rfl,h',tk',rfl,hS',λb o hb e=>?_⟩;have hb1:b≠s.heap.objs.size:=Al hb;have hb2:b≠(s.heap.push {cls:= .type "set",dict:=none,data:= .set #[] 0 (.fresh 0 0 (!Hn w))}).objs.size:=by rw[AJ];exact Al (CS hb)
      exact hm.heap b o (by simp only[Ax,Aw,AD,or_false,not_or];exact⟨hb1,hb2⟩) (Ad _ (Ad _ e))
   · cases r₂ with
     | error e=>exact hr₂
     | ok fl₂=>
      cases fl₂ with
      | ret r=>
       obtain⟨rfl,h',tk,rfl,hS',hk'⟩:=hr₂
       repeat (any_goals (first | assumption | wp_step))
       exact h _ _ hS' hk'
      | _=>exact hr₂.elim
  | _=>exact hr.elim
theorem Qd{P:Addr×List WP→Prop}:∀{ws:List (Addr×List WP)}{us:List Value},Vals (ws.map λx=>V.ref x.1) us→(∀x∈ws,P x)→∀(i:Nat)(v:Value),us[i]?=some v→∃x,ws[i]?=some x∧P x∧v= .ref x.1
 | [],us,rv,_,i,v,h=>by cases rv;cases h
 | x::ws,us,rv,ok,i,v,h=>by
  rw[Av] at rv;cases rv with
  | @cons _ u _ us r1 r2=>
   cases i with
   | zero=> cases(show u=Value.ref x.1 from r1);cases h;exact⟨x,rfl,ok x Ar,rfl⟩
   | succ i=> obtain⟨y,e,o,q⟩:=Qd r2 (λy hy=>ok y (Ao _ hy)) i v (by simpa using h);exact⟨y,by simpa using e,o,q⟩
section
variable{te:TE}{p2 p3 p4:Pos}
def U8(te:TE):TE:=λσ H Q=>te σ H λx H1=>∃a ws,[x]=[V.ref a]∧WsAt H1 a ws∧(ws.map (·.2)).Nodup∧ws.length≤18∧Q (.int ws.length) H1
theorem VC(hr:Jb X)(hc:X.calm=true)(he:PE X e te)(hg:Gl X "len")(hm:X.mg "len"=none)(hg2:Gl X "set")(hm2:X.mg "set"=none)
 (h1:Az [e] X.env=(false,eval e X.env)::Az [] X.env:=by rfl)
 (h2:Az [.Call (.Name "set" p2) [e] [] p3] X.env=(false,eval (.Call (.Name "set" p2) [e] [] p3) X.env)::Az [] X.env:=by rfl)
 (h3:(backTo p3 (Az [] X.env)).any (·.1)=false:=by rfl) (h4:(backTo pos (Az [] X.env)).any (·.1)=false:=by rfl):
 PE X (.Call (.Name "len" p4) [.Call (.Name "set" p2) [e] [] p3] [] pos) (U8 te):=by
 intro pins s σ H Q I h;refine Bi (IY I hg hm HN ?_ (by decide) (by decide));refine Co ?_ h2 h4;rw[h2];show wpAny _ _ (spliced ((false,eval (.Call (.Name "set" p2) [e] [] p3) X.env)::backTo pos (Az [] X.env))) _ _ s;refine CJ ?_;refine Bi (IY I hg2 hm2 Po ?_ (by decide) (by decide));refine Bh (He (GW he GX h1 p3 pins s σ H (λvs H1=>∃a ws,vs=[V.ref a]∧WsAt H1 a ws∧(ws.map (·.2)).Nodup∧ws.length≤18∧Q (.int ws.length) H1) I ?_) λus s1 ⟨vs,H1,I1,r1,a,ws,hv,hq,nd,hn,q⟩=>?_) h1 h3
 · exact h
 subst hv;obtain⟨u1,rfl,v1⟩:=IW r1;cases v1;obtain⟨its,rv,ht,hz⟩:=I1.list (SqL.of hq.at');have hlen:=rv.length;rw[Ab] at hlen;refine X8 (I1.ok.hd hc) (by unfold Jb at hr;omega) ht.isList (ts:=ws.map (·.2)) (by rw[Ak,Ab];omega) (λi v hv=>?_) nd (by rw[Ab];exact hn) λh' tk hS kp=>?_
 · obtain⟨x,e,ok,ev⟩:=Qd rv hq.ok i v (by simpa using hv);subst ev;exact⟨x.1,x.2,rfl,by rw[Ah,e];rfl,UC I1.hok ok.1⟩
 · have I2:Inv X pins σ H1 {s1 with heap:=h',toks:=tk}:=I1.kept λb o e=>kp b o (Ag e) e
   refine CQ ?_;obtain⟨es,ep,t,ho,T,hsz,_⟩:=hS;rw[Ab] at hsz;refine call_len_set ho ⟨rfl,rfl,rfl⟩ rfl T.fits (by omega) ?_;rw[hsz];exact⟨.int ws.length,H1,I2.kept (t':=tk+1+1) (λb u e=>e),⟨tk+1,rfl⟩,q⟩
end
theorem Xb(kx target iter:Expr)(ifs:List Expr)(scope:Scope)(pos:Pos)(it:Value)(D:Addr)(env:Env):
 compTurn (.SetComp kx [⟨target,iter,ifs,0⟩] scope pos) 0 it (.ref D) env=(do
  standAt iter.pos
  match ←pyNext it with
  | none=>pure (.done .next)
  | some v=>
   C1 target it v
   assign target env v
   let mut ok:=true
   for c in ifs do
    if ok then ok ←isTrue c env (eval c env)
   if ok then
    (do
     let v ←eval kx env
     standAt kx.pos
     let _ ←call (.builtin "set.add") [.ref D,v])
   again (.compLoop (.SetComp kx [⟨target,iter,ifs,0⟩] scope pos) 0 it (.ref D) env)):=by rfl
section
variable{R:Result→Shared→Prop}
theorem Xn{kx target iter ifs rest scope pos it acc env}
 (h0:codeAny (model prog w) A (.compLoop (.SetComp kx (⟨target,iter,ifs,0⟩::rest) scope pos) 0 it acc env) R s)
 (h:wpAny (model prog w) A (pyIter it) (λit' s'=>codeAny (model prog w) A (.compLoop (.SetComp kx (⟨target,iter,ifs,0⟩::rest) scope pos) 0 it' acc env) R s')
  (notedBy (model prog w) A env λx s'=>R (.error x) s') s):
 codeAny (model prog w) A (.compStart (.SetComp kx (⟨target,iter,ifs,0⟩::rest) scope pos) 0 it acc env) R s:=by
 refine Dl ?_;show wpAny _ A ((Eg (.SetComp kx (⟨target,iter,ifs,0⟩::rest) scope pos) 0 it acc env).onRaise (λx=>do noteFrame x env;standAt theWindowsPlace)) _ _ s
 refine wpAny_notedAt ?_;unfold Eg;show wpAny _ A (ask>>=_) _ _ s;refine Aa (Dc (wpAny_ite ?_))
 split
 · first
    | exact Aa (Ac (Ac (And.intro rfl h0)))
    | exact Ac (And.intro rfl h0)
 · first
    | exact Aa (BX (Aa (Cf (Aa (A9 h (λit' s' h'=>Ac (And.intro rfl h')) λ_ _ x=>x)))))
    | (refine Aa (BX ?_);show wpAny _ _ (standAt iter.pos>>=_) _ _ s;exact Aa (Cf (Aa (A9 h (λit' s' h'=>Ac (And.intro rfl h')) λ_ _ x=>x))))
theorem Xa{kx target iter:Expr}{ifs:List Expr}{scope:Scope}{pos:Pos}{it:Value}{D:Addr}{env:Env}(I:Nat→Shared→Prop)
 (turn:∀n s,I n s→wpAny (model prog w) A (pyNext it) (λr s₁=>match r with
  | none=>R (.ok .next) s₁
  | some v=>wpAny (model prog w) A (C1 target it v) (λ_ s₁'=>wpAny (model prog w) A (assign target env v) (λ_ s₂=>
   wpAny (model prog w) A (forIn ifs true λc r=>if r=true then do let ok ←isTrue c env (eval c env);pure (ForInStep.yield ok) else pure (ForInStep.yield r)) (λok s₃=>
    if ok=true then wpAny (model prog w) A (eval kx env) (λkv s₄=> wpAny (model prog w) A (call (.builtin "set.add") [.ref D,kv]) (λ_ s₆=>∃m,m<n∧I m s₆) (λ_ _=>False) s₄) (λ_ _=>False) s₃
    else ∃m,m<n∧I m s₃) (λ_ _=>False) s₂) (λ_ _=>False) s₁') (λ_ _=>False) s₁) (λ_ _=>False) s)
 (n:Nat) (h:I n s):
 codeAny (model prog w) A (.compLoop (.SetComp kx [⟨target,iter,ifs,0⟩] scope pos) 0 it (.ref D) env) R s:=by
 refine codeAny_loop rfl I (λn s hI=>?_) n h;show wpAny _ A ((compTurn (.SetComp kx [⟨target,iter,ifs,0⟩] scope pos) 0 it (.ref D) env).onRaise (λx=>do noteFrame x env;theTreesLotGoes x)) _ _ s
 refine wpAny_noted ?_;rw[Xb];refine Aa (Cf (Aa (A9 (turn n s hI) (λr s₁ h₁=>?_) λ_ _ z=>z.elim)));cases r with
 | none=>exact Ac h₁
 | some v=>
  refine Aa (A9 h₁ (λ_ s₁' h₁'=>?_) λ_ _ z=>z.elim);refine Aa (A9 h₁' (λ_ s₂ h₂=>Aa (A9 h₂ (λok s₃ h₃=>?_) λ_ _ z=>z.elim)) λ_ _ z=>z.elim);cases ok with
  | false=>exact Ac ⟨rfl,h₃⟩
  | true=> refine Aa (Aa (A9 h₃ (λkv s₄ h₄=>Aa (Cf (Aa (A9 h₄ (λ_ s₆ h₆=>?_) λ_ _ z=>z.elim)))) λ_ _ z=>z.elim));exact Ac (Ac ⟨rfl,h₆⟩)
end
def HL(P:Bb)(w:World)(d:Addr)(ks:List Str):Heap→Prop:=λh=>h.SetOf (strKind P w) d (λk=>decide (k∈ks)) ks.length
def IS(ks:List Str)(k:Str):List Str:=if k∈ks then ks else ks++[k]
section
variable{d:Addr}{ks:List Str}
theorem Qg{P':Bb}{w':World}(x:HL P w d ks h):ObjOk P' w' H h d (.ext (HL P w d ks)):=⟨x,let⟨o,_,_,_,e,_⟩:=x;⟨o,e⟩,λh1 h2 ⟨o,es,ep,t,e,r⟩ k=>⟨o,es,ep,t,k o e,r⟩⟩
theorem U2(x:h.SetOf (strKind P w) d (λ_=>false) 0):HL P w d [] h:=SetOf_congr x (λ_=>by simp) rfl
theorem U3{k:Str}(x:h.SetOf (strKind P w) d (λk'=>decide (k'∈ks) || decide (k'=k)) (if decide (k∈ks) then ks.length else ks.length+1)):HL P w d (IS ks k) h:=by
 unfold HL IS;by_cases c:k∈ks
 · rw[if_pos c];refine SetOf_congr x (λy=>?_) (by simp[c]);by_cases e:y=k
   · subst e;simp[c]
   · simp[e]
 · rw[if_neg c];refine SetOf_congr x (λy=>?_) (by simp[c]);simp
end
def MJ(J:It)(p:Addr)(js:HU)(g:TG)(tc:TT)(tk:TE)(σ:St)(H:Hp)(Q:Nat→Hp→Prop):Prop:=
 ∃W:Nat→Nat→St→List Str→Hp→Prop,(∃m,∀φ,W 0 m (ID js σ) [] (GY H p (.ext φ)))∧∀i m σ' ks H,W i m σ' ks H→ks.length≤900∧
  ((J.stop i H∧Q ks.length H)∨(J.go i H∧∀x H',J.yld i H x H'→g x σ' H' λσ2 H2=>tc σ2 H2 λb H3=>
    if b=true then tk σ2 H3 λk H4=>∃t:Str,k= .str t∧H4 p=H p∧∀φ,∃m',m'<m∧W (i+1) m' σ2 (IS ks t) (GY H4 p (.ext φ))
    else H3 p=H p∧∃m',m'<m∧W (i+1) m' σ2 ks H3))
def Tb(wi:TI)(js:HU)(g:TG)(tc:TT)(tk:TE):TE:=λσ H Q=>wi σ H λJ H1=>∀p,H1 p=none→MJ J p js g tc tk σ H1 λn H2=>Q (.int n) H2
section
variable{tg iter kx:Expr}{ifs:List Expr}{wi:TI}{js:HU}{g:TG}{tc:TT}{tk:TE}{N':List Str}{p2 p3:Pos}
theorem U4{pins:List (Addr×Obj)}{σ:St}{H:Hp}{s:Shared}{E:Value→Shared→Prop}{Q:Nat→Hp→Prop}{J:It}{it:Addr}{fp:List Addr}{tn:Nat→Heap→Prop}{cl:List (Str×Addr)}
 (hc:X.calm=true) (ok:CapOk X N' js scope)
 (h2:∀x c,cl.lookup x=some c→X.env.cells.lookup x=some c) (h3:∀p∈scope.names,p.2= .free→(cl.lookup p.1).isSome=true)
 (hg:∀cl C s₀ H₀ ex,PG (HS X N' scope cl C s₀ H₀ ex) tg g) (ht:∀cl C s₀ H₀ ex,H_ (HS X N' scope cl C s₀ H₀ ex) ifs tc) (he:∀cl C s₀ H₀ ex,PE (HS X N' scope cl C s₀ H₀ ex) kx tk)
 (I:Inv X pins σ H s) (T:Turn X.prog X.w X.K tg J fp it tn) (st:tn 0 s.heap) (hf:∀b∈fp,Ht X pins H b)
 (hw:∀p,H p=none→MJ J p js g tc tk σ H Q):
 wpAny (model X.prog X.w) X.A (newSet (.type "set")) (λacc s₃=>wpAny (model X.prog X.w) X.A (newFunctionEnv scope X.env.globals cl [] X.env.qual none .none (some X.env)) (λcenv s₄=>
  codeAny (model X.prog X.w) X.A (.compStart (.SetComp kx [⟨tg,iter,ifs,0⟩] scope pos) 0 (.ref it) acc {cenv with scope:=relabel scope X.env})
   (λr s'=>r= .ok .next∧(∃m,s'.heap.Ns cenv.locals m)∧∃(p:Addr)(H':Hp)(ks:List Str),acc= .ref p∧Inv X pins σ H' s'∧Ht X pins H' cenv.locals∧H' p=some (.ext (HL X.prog X.w p ks))∧Q ks.length H') s₄) E s₃) E s:=by
 have objs:=T.obj _ _ st;refine wpAny_newSet_of (knd:=strKind X.prog X.w) λled hnew=>?_;obtain⟨W,⟨m0,w0⟩,turn⟩:=hw s.heap.objs.size (I.hok.fresh (Ae _));generalize hp:s.heap.objs.size=p at*;have kp:∀b u,s.heap.get? b=some u→(s.heap.push {cls:= .type "set",dict:=none,data:= .set #[] 0 (.fresh 0 0 led)}).get? b=some u:=λb u e=>Ad _ e;have I3:Inv X pins σ (GY H p (.ext (HL X.prog X.w p []))) {s with heap:=s.heap.push {cls:= .type "set",dict:=none,data:= .set #[] 0 (.fresh 0 0 led)}}:=by subst hp;exact I.laid (t':=s.toks) kp (Ae _) (Qg (U2 hnew))
 have fne:∀b∈fp,b≠p:=λb hb=>by obtain⟨o,e,_⟩:=objs b hb;have:=Ag e;rw[←hp];exact Al this
 have hf3:∀b∈fp,Ht X pins (GY H p (.ext (HL X.prog X.w p []))) b:=λb hb=>⟨by rw[Hm (fne b hb)];exact(hf b hb).1,(hf b hb).2⟩;have st3:tn 0 (s.heap.push {cls:= .type "set",dict:=none,data:= .set #[] 0 (.fresh 0 0 led)}):=T.keep _ _ _ st λb _ o e=>kp b o e;have lt3:∀b∈fp,b<(s.heap.push {cls:= .type "set",dict:=none,data:= .set #[] 0 (.fresh 0 0 led)}).objs.size:=λb hb=>by obtain⟨o,e,_⟩:=objs b hb;exact Ag (kp b o e)
 generalize hs3:({s with heap:=s.heap.push {cls:= .type "set",dict:=none,data:= .set #[] 0 (.fresh 0 0 led)}}:Shared)=s3 at*
 have eh:s.heap.push {cls:= .type "set",dict:=none,data:= .set #[] 0 (.fresh 0 0 led)}=s3.heap:=by rw[←hs3]
 rw[eh] at st3 lt3;refine Ob ok.cells λcl h₁ hns₁ k4 oc=>?_;have I4:=N6 (cl:=cl) (h₁:=h₁) (t':=s3.toks+([]:List (Str×Value)).length) ok I3 h2 h3 hf3 lt3 k4 hns₁ oc;have st4:tn 0 h₁:=T.keep _ _ _ st3 λb _ o e=>k4 b o e;generalize hX:HS X N' scope cl s3.heap.objs.size s3 (GY H p (.ext (HL X.prog X.w p []))) fp=X' at I4;have hg':PG X' tg g:=by rw[←hX];exact hg _ _ _ _ _
 have ht':H_ X' ifs tc:=by rw[←hX];exact ht _ _ _ _ _
 have he':PE X' kx tk:=by rw[←hX];exact he _ _ _ _ _
 have eP:X'.prog=X.prog:=by rw[←hX];rfl
 have ew:X'.w=X.w:=by rw[←hX];rfl
 have eK:X'.K=X.K:=by rw[←hX];rfl
 have ec:X'.calm=true:=by rw[←hX];exact hc
 have eA:X'.A=X.A:=by rw[←hX];rfl
 have ex:X'.xe=λ_ _=>False:=by rw[←hX];rfl
 have eE:X'.env=compEnvC scope cl s3.heap.objs.size X.env:=by rw[←hX];rfl
 have eEx:X'.ex=fp:=by rw[←hX];rfl
 have eN:X'.pn=[]:=by rw[←hX];rfl
 have stat:∀{H':Hp},(∀b∈fp,H' b=none)→∀b∈fp,Ht X' [] H' b:=λ{H'}hn b hb=>by have okc:=I4.ok;refine⟨hn b hb,(okc.exf b (by rw[eEx];exact hb)).1,okc.exfs b (by rw[eEx];exact hb),.inl (by rw[eEx];exact hb),(okc.exf b (by rw[eEx];exact hb)).2,λq hq=>?_⟩;rw[eN] at hq;cases hq
 have loop:∀s₄:Shared,s₄={s3 with heap:=h₁,toks:=s3.toks+([]:List (Str×Value)).length}→
  codeAny (model X.prog X.w) X.A (.compLoop (.SetComp kx [⟨tg,iter,ifs,0⟩] scope pos) 0 (.ref it) (.ref p) (compEnvC scope cl s3.heap.objs.size X.env))
   (λr s'=>r= .ok .next∧(∃m,s'.heap.Ns s3.heap.objs.size m)∧∃(p':Addr)(H':Hp)(ks:List Str),Value.ref p= .ref p'∧Inv X pins σ H' s'∧Ht X pins H' s3.heap.objs.size∧H' p'=some (.ext (HL X.prog X.w p' ks))∧Q ks.length H') s₄:=by
  rintro s₄ rfl;refine Xa (λn s'=>∃i σ' ys H',Inv X' [] σ' H' s'∧tn i s'.heap∧(∀b∈fp,H' b=none)∧H' p=some (.ext (HL X.prog X.w p ys))∧W i n σ' ys H') ?_ m0 ⟨0,_,[],_,I4,st4,λb hb=>(hf3 b hb).1,Hb,w0 _⟩;rintro n s5 ⟨i,σ5,ys,H5,I5,st5,fr5,hp5,w5⟩;obtain⟨lk5,tu⟩:=turn i n σ5 ys H5 w5;rcases tu with⟨stop,qn⟩ | ⟨go,step⟩
  · have D:=T.done X' eP ew eK ec i [] s5 σ5 H5 (λ_ _=>False) I5 (stat fr5) st5 stop;rw[eA] at D;refine He D λr s6 ⟨hr,I6⟩=>?_;subst hr;refine⟨rfl,?_,p,H5,ys,rfl,?_,?_,hp5,qn⟩
    · obtain⟨m,hm,_⟩:=I6.loc;rw[eE] at hm;exact⟨m,hm⟩
    · have b6:=I6.base;have ho:=I6.os;have hk:=I6.hok;have hb:=I6.bare;subst hX;exact I3.call' (ch:=fp) ho b6 hk hb λb hb'=>⟨(hf b hb').2.2.2.1,(hf b hb').2.1,(hf b hb').2.2.2.2.1,(hf b hb').2.2.2.2.2⟩
    · have fr:=I6.free;rw[eE] at fr;exact I3.fpOk (Ae _) fr
  · have D:=T.item X' eP ew eK ec i [] s5 σ5 H5 (λ_ _=>False) I5 (stat fr5) st5 go;rw[eA] at D;refine He D λr s6 ⟨u,hr,h6⟩=>?_;subst hr;refine He h6 λ_ s7 ⟨x,H7,I7,r7,y7,st7,fr7⟩=>?_;have I7':=I7.pinned (stat fr7) (T.obj _ _ st7);have G:=hg' _ s7 σ5 H7 x u _ I7' r7 (step x H7 y7);rw[eP,ew,eA,ex,eE] at G;refine He G λ_ s8 ⟨σ8,H8,I8,q8⟩=>?_;have Tt:=ht' _ s8 σ8 H8 _ I8 q8;rw[eP,ew,eA,ex,eE] at Tt;refine He Tt λb s9 ⟨H9,I9,q9⟩=>?_;have again:∀{s':Shared}{ys':List Str}{H':Hp},Inv X' ([]++Kx fp s7.heap) σ8 H' s'→H' p=some (.ext (HL X.prog X.w p ys'))→(∃m',m'<n∧W (i+1) m' σ8 ys' H')→
     ∃m,m<n∧∃i σ' ys H',Inv X' [] σ' H' s'∧tn i s'.heap∧(∀b∈fp,H' b=none)∧H' p=some (.ext (HL X.prog X.w p ys))∧W i m σ' ys H':=λ{s' ys' H'}I' hp' ⟨m',hm,w'⟩=>by
     refine⟨m',hm,i+1,σ8,ys',H',I'.unpinned,T.keep _ _ _ st7 λb hb o e=>(I'.pin (b,o) (A6 _ (A6 _ (Ki hb e)))).1,λb hb=>?_,hp',w'⟩;obtain⟨o,e,d⟩:=T.obj _ _ st7 b hb;exact(I'.pin (b,o) (A6 _ (A6 _ (Ki hb e)))).2.1
    cases b with
    | false=> obtain⟨e9,q9⟩:=q9;exact again I9 (e9.trans hp5) q9
    | true=> have Ee:=he' _ s9 σ8 H9 _ I9 q9;rw[eP,ew,eA,ex,eE] at Ee;show wpAny _ _ _ _ _ _;refine He Ee λkv s10 ⟨kk,H10,I10,r10,q10⟩=>?_;obtain⟨t,ek,hp10,q11⟩:=q10;subst ek;obtain⟨tok,rfl⟩:=(show ∃tk,kv=Value.str t tk from r10);have hp11':=hp10.trans hp5;have ph:=(show ObjOk X'.prog X'.w H10 s10.heap p (.ext (HL X.prog X.w p ys)) from I10.hok p _ hp11').1;refine call_set_add (knd:=strKind X.prog X.w) (k:=t) (key:= .str t tok) (LZ t tok) rfl ph (by unfold Dt;omega) λh' hs' hS=>?_;have he0:∃q,h'.get? p=some q:=let⟨q,_,_,_,hq,_⟩:=hS;⟨q,hq⟩;have I12:=Qo (t':=s10.toks+1) (ob:= .ext (HL X.prog X.w p (IS ys t))) I10 (by rw[hp11'];exact True.intro) hs' he0 (Qg (U3 hS));exact again I12 Hb (q11 _)
 exact Xn (loop _ rfl) (T.self _ 0 _ _ _ st4 (loop _ rfl))
theorem UX{p4:Pos}(hc:X.calm=true)(ok:CapOk X N' js scope)(hi:PI X tg iter wi)
 (hg:∀cl C s₀ H₀ ex,PG (HS X N' scope cl C s₀ H₀ ex) tg g) (ht:∀cl C s₀ H₀ ex,H_ (HS X N' scope cl C s₀ H₀ ex) ifs tc) (he:∀cl C s₀ H₀ ex,PE (HS X N' scope cl C s₀ H₀ ex) kx tk)
 (hgl:Gl X "len") (hm:X.mg "len"=none) (hs:∀x,CP iter X.env x=pure x:=by intro _;rfl)
 (h2:Az [.SetComp kx [⟨tg,iter,ifs,0⟩] scope pos] X.env=(false,eval (.SetComp kx [⟨tg,iter,ifs,0⟩] scope pos) X.env)::Az [] X.env:=by rfl)
 (h4:(backTo p2 (Az [] X.env)).any (·.1)=false:=by rfl):
 PE X (.Call (.Name "len" p4) [.SetComp kx [⟨tg,iter,ifs,0⟩] scope pos] [] p2) (Tb wi js g tc tk):=by
 intro pins s σ H Q I h;refine Bi (IY I hgl hm HN ?_ (by decide) (by decide));refine Co ?_ h2 h4;rw[h2];show wpAny _ _ (spliced ((false,eval (.SetComp kx [⟨tg,iter,ifs,0⟩] scope pos) X.env)::backTo p2 (Az [] X.env))) _ _ s;refine CJ ?_;obtain⟨cl,c1,c2,c3⟩:=L_ (scope:=scope) I.ok.has ok.free;show wpAny _ X.A (comprehension (.SetComp kx [⟨tg,iter,ifs,0⟩] scope pos) scope X.env _ (newSet (.type "set")) false (eval iter X.env)) _ _ s;refine CC (use:=none) rfl hs c1 ok.kind ok.names (He (hi pins s σ H _ I h) λv s1 h1=>He h1 λitv s2 h2=>?_);obtain⟨it,fp,tn,J,H2,e,I2,T,st2,f2,hw⟩:=h2;subst e;refine A9 (U4 (iter:=iter) (pos:=pos) hc ok c2 c3 hg ht he I2 T st2 f2 hw) (λacc s3 h3=>A9 h3 (λcenv s4 h4=>?_) λ_ _ z=>z) λ_ _ z=>z;refine Cd h4 λr s5 h5=>?_;obtain⟨rfl,⟨m,hm⟩,p,H5,ks,rfl,I5,f5,hp,q5⟩:=h5;refine⟨m,hm,λh' sb=>?_⟩;obtain⟨f0,f1,_,f3,f4,f6⟩:=f5;have I6:=I5.turned (t':=s5.toks) (h':=h') (λb o hb e=>(sb.2 b hb).trans e) f0 f1 f3 f4 f6;refine CQ ?_;have ph:=(show ObjOk X.prog X.w H5 h' p (.ext (HL X.prog X.w p ks)) from I6.hok p _ hp).1;obtain⟨o,es,ep,t,ho,hex,hd,_,_,hb,hf,hsz⟩:=ph;refine call_len_set ho hex hd hf (by unfold Dt at hb;omega) ?_;rw[hsz];exact⟨.int ks.length,H5,I6.kept (t':=s5.toks+1+1) (λb u e=>e),⟨s5.toks+1,rfl⟩,q5⟩
end
structure Stand where
 a:Addr
 hand:Str
 post:Int
 l:Addr
 ws:List (Addr×List WP)
structure StAt(H:Hp)(W:List Int)(x:Stand):Prop where
 at':H x.a=some (.tup [.str x.hand,.int x.post,.ref x.l])
 ws:WsAt H x.l x.ws
 nd:(x.ws.map (·.2)).Nodup
 few:x.ws.length≤10
 name:FieldOk x.hand
 post:WB.Post W x.post
structure StsAt(H:Hp)(W:List Int)(l:Addr)(xs:List Stand):Prop where
 at':H l=some (.lst (xs.map λx=>V.ref x.a))
 ok:∀x∈xs,StAt H W x
 nd:(xs.map (·.hand)).Nodup
 len:xs.length≤30
theorem StAt.same{H':Hp}{W:List Int}{x:Stand}(h:StAt H W x)(s:Same H H'):StAt H' W x:=⟨s _ _ h.at',h.ws.same s,h.nd,h.few,h.name,h.post⟩
theorem StsAt.same{H':Hp}{W:List Int}{l:Addr}{xs:List Stand}(h:StsAt H W l xs)(s:Same H H'):StsAt H' W l xs:=⟨s _ _ h.at',λx hx=>(h.ok x hx).same s,h.nd,h.len⟩
def IZ(ws:List (Addr×List WP))(p:List PP):Bool:=ws.any λw=>IH w.2 p
def Ic(xs:List Stand)(p:List PP):List Str:=(xs.filter λx=>IZ x.ws p).map (·.hand)
theorem Ll(xs:List Stand)(p:List PP):(Ic xs p).length≤xs.length:=by unfold Ic;rw[Ab];exact CV _ _
theorem Rx{xs:List Stand}{x:Stand}(p:List PP)(e:xs[i]?=some x):Ic (xs.take (i+1)) p=Ic (xs.take i) p++(if IZ x.ws p=true then [x.hand] else []):=by
 unfold Ic;rw[BY,e,Eh,Au];congr 1;show(([x]:List Stand).filter _).map _=_;by_cases h:IZ x.ws p=true
 · rw[if_pos h,Cr (by exact h)];rfl
 · rw[if_neg h,Cs (by exact h)];rfl
theorem Vj{xs:List Stand}(nd:(xs.map (·.hand)).Nodup){x:Stand}(e:xs[i]?=some x):IS ((xs.map (·.hand)).take i) x.hand=(xs.map (·.hand)).take (i+1):=by
 have e2:(xs.map (·.hand))[i]?=some x.hand:=by rw[Ah,e];rfl
 unfold IS;rw[if_neg,BY,e2]
 · rfl
 · intro q;obtain⟨j,hj,e3⟩:=FD.mp q;rw[AC] at hj;rw[List.getElem_take] at e3;obtain⟨hi',e4⟩:=Am.mp e2;have:=(BP.mp (Ez.mp nd)) j i (by omega) hi' (by omega);exact this (e3.trans e4.symm)
def QI:Sp:=λvs H Q _=>∃(l:Addr)(ws:List (Addr×List WP)),vs=[.ref l]∧WsAt H l ws∧(ws.map (·.2)).Nodup∧ws.length≤18∧∀H',Same H H'→Q (.bl true) H'
def RS:Sp:=λvs H Q _=>∃(l c:Addr)(ws:List (Addr×List WP))(p:List PP),vs=[.ref l,.ref c]∧WsAt H l ws∧PieceAt H c p∧POk p∧∀H',Same H H'→Q (.bl (IZ ws p)) H'
def Rj:Sp:=λvs H Q _=>∃(a:Addr)(W:List Int)(x:Stand),vs=[.ref a,.ref x.a]∧HV H a W∧StAt H W x∧∀H',Same H H'→Q (.bl true) H'
def RN:Sp:=λvs H Q _=>∃(a l:Addr)(W:List Int)(xs:List Stand),vs=[.ref a,.ref l]∧HV H a W∧StsAt H W l xs∧∀H',Same H H'→Q (.bl true) H'
def R9:Sp:=λvs H Q _=>∃(a l:Addr)(W:List Int)(xs:List Stand),vs=[.ref a,.ref l]∧HV H a W∧StsAt H W l xs∧∀H',Same H H'→Q .non H'
def Rk:Sp:=λvs H Q _=>∃(a l c:Addr)(W:List Int)(xs:List Stand)(p:List PP),vs=[.ref a,.ref l,.ref c]∧HV H a W∧StsAt H W l xs∧PieceAt H c p∧POk p∧
 ∀(r:Addr)(ms:List Str)(H':Hp),Same H H'→H r=none→H' r=some (.lst (ms.map V.str))→ms.Perm (Ic xs p)→sortedS ms=true→Q (.ref r) H'
section
variable{p:Addr}{g:TG}{tc:TT}{te:TE}{Q:Nat→Hp→Prop}
theorem TJ{js:HU}(Pv:Nat→St→List Str→Hp→Prop)(h0:∀φ,Pv 0 (ID js σ) [] (GY H p (.ext φ)))
 (hl:∀i σ ks H,i≤xs.length→Pv i σ ks H→SqL K H a xs∧ks.length≤900)
 (hs:∀(i:Nat)x σ ks H(N:St→List Str→Hp→Prop),xs[i]?=some x→Pv i σ ks H→(∀σ' ks' H',Pv (i+1) σ' ks' H'→N σ' ks' H')→
  g x σ H λσ2 H2=>tc σ2 H2 λb H3=>if b=true then te σ2 H3 λk H4=>∃t:Str,k= .str t∧H4 p=H p∧∀φ,N σ2 (IS ks t) (GY H4 p (.ext φ)) else H3 p=H p∧N σ2 ks H3)
 (hd:∀σ ks H,Pv xs.length σ ks H→Q ks.length H):MJ (JZ K a) p js g tc te σ H Q:=by
 refine⟨λi m σ ks H=>m=xs.length - i∧i≤xs.length∧Pv i σ ks H,⟨xs.length,λφ=>⟨by simp,Br _,h0 φ⟩⟩,?_⟩;rintro i m σ ks H ⟨rfl,hi,pv⟩;obtain⟨q1,q2⟩:=hl i σ ks H hi pv;refine⟨q2,?_⟩;by_cases lt:i<xs.length
 · refine .inr ⟨⟨xs,xs[i],q1,by simp[lt]⟩,λx H' y=>?_⟩;obtain⟨e,y⟩:=y;subst e;exact hs i x σ ks _ (λσ2 ks2 H2=>∃m',m'<xs.length - i∧m'=xs.length - (i+1)∧i+1≤xs.length∧Pv (i+1) σ2 ks2 H2) (y xs q1) pv λσ' ks' H' p'=>⟨xs.length - (i+1),by omega,rfl,lt,p'⟩
 · have e:i=xs.length:=by omega
   subst e;exact .inl ⟨⟨xs,q1,Ae _⟩,hd σ ks H pv⟩
end
def Vo(st:Stmt)(k j:Nat):Scope:=match st with
 | .FunctionDef _ _ b _ _ _ _ _ _ _=>(match b[k]? with
  | some (.For _ _ body _ _)=>(match body[j]? with
   | some (.Assign _ (.Call _ [.ListComp _ _ sc _] _ _) _)=>sc
   | _=>Hj st)
  | _=>Hj st)
 | _=>Hj st
theorem Xz(K:Af)(h:X.K=K):I0 X (.type "list") (λxs H Q=>∃p ys,xs=[.ref p]∧(SqL K H p ys∨SqT K H p ys)∧∀l,H l=none→Q (.ref l) (GY H l (.lst ys))):=by subst h;exact Mx
theorem VX{M:Nat}(h:M≤23):WB.Web ((AX M).map (λ(i:Nat)=>(i:Int))):=by
 refine⟨by simp;omega,λi n e=>?_⟩;rw[Ah] at e;by_cases c:i<M
 · rw[FJ c] at e;cases e;show 0≤(i:Int)∧(i:Int)≤(i:Int);exact⟨by omega,by omega⟩
 · rw[CY (by simp;omega)] at e;cases e
theorem QN{L:List Int}{x:Int}(h:∀(j:Nat)y,L[j]?=some y→0≤y∧y≤(j:Int))(x0:0≤x)(x1:x≤(L.length:Int)):∀(j:Nat)y,(L++[x])[j]?=some y→0≤y∧y≤(j:Int):=λj y e=>by
 by_cases c:j<L.length
 · rw[ED c] at e;exact h j y e
 · rw[Eo (by omega)] at e;have:j - L.length=0:=by
    cases q:j - L.length with
    | zero=>rfl
    | succ m=>rw[q] at e;simp at e
   rw[this] at e;cases e;exact⟨x0,by omega⟩
def Rh:Sp:=λvs H Q _=>∃(b g l:Addr)(n many:Int),vs=[.ref b,.int many]∧Well H b g l n∧n≤10^7∧1≤many∧many≤30∧
 ∀(r:Addr)(fs:List Str)(H':Hp),H r=none→H' r=some (.lst (fs.map V.str))→fs.Pairwise Iq→(∀f∈fs,FieldOk f)→1≤fs.length→(fs.length:Int)≤many→Well H' b g l (n+1000)→SameB b g H H'→Q (.ref r) H'
def PM:Sp:=λvs H Q _=>∃(b g l a t:Addr)(n lo sz wide many:Int)(fs:List Str),vs=[.ref b,.ref a,.ref t,.int wide,.int many]∧Well H b g l n∧n≤10^6∧NamesAt H b g a fs∧H t=some (.tup [.int lo,.int sz])∧1≤sz∧sz≤10^10∧1≤wide∧wide≤100∧0≤many∧many≤90∧
 ∀(r:Addr)(ws:List (Addr×List WP))(H':Hp),H r=none→WsAt H' r ws→(ws.length:Int)≤many→(ws.map (·.2)).Nodup→Well H' b g l (n+40*many)→SameB b g H H'→Q (.ref r) H'
def QF:Sp:=λvs H Q _=>∃(b g l a:Addr)(n:Int)(xs:List V),vs=[.ref b,.ref a]∧Well H b g l n∧n≤10^6∧H a=some (.lst xs)∧a≠b∧a≠g∧xs.length≤90∧
 ∀(r:Addr)(ys zs:List V)(H':Hp),H r=none→H' r=some (.lst ys)→(ys++zs).Perm xs→Well H' b g l (n+100)→SameB b g H H'→Q (.ref r) H'
def PQ:Sp:=λvs H Q _=>∃(b g l:Addr)(n most:Int),vs=[.ref b,.int most]∧Well H b g l n∧n≤10^6∧1≤most∧most≤24∧
 ∀(r:Addr)(W:List Int)(H':Hp),H r=none→HV H' r W→Well H' b g l (n+30)→SameB b g H H'→Q (.ref r) H'
def HW(x:Stand):Str×Int×List (Addr×List WP):=(x.hand,x.post,x.ws)
def QG:Sp:=λvs H Q _=>∃(b g l a c:Addr)(n many:Int)(W:List Int)(ws:List (Addr×List WP)),vs=[.ref b,.ref a,.ref c,.int many]∧Well H b g l n∧n≤10^5∧HV H a W∧a≠b∧a≠g∧WsAt H c ws∧c≠b∧c≠g∧(ws.map (·.2)).Nodup∧ws.length≤90∧1≤many∧many≤30∧
 ∀(r:Addr)(xs:List Stand)(H':Hp),H r=none→StsAt H' W r xs→(∀x∈xs,H x.l=none)→Well H' b g l (n+5000)→SameB b g H H'→Q (.ref r) H'
def PK:Sp:=λvs H Q _=>∃(l:Addr)(W:List Int)(xs:List Stand),vs=[.ref l]∧StsAt H W l xs∧∀(r:Addr)(ys:List Stand)(H':Hp),H r=none→Same H H'→StsAt H' W r ys→ys.map HW=xs.map HW→Q (.ref r) H'
structure NmAt(H:Hp)(b g a:Addr)(fs:List Str):Prop where
 at':H a=some (.lst (fs.map V.str))
 asc:fs.Pairwise Iq
 ok:∀f∈fs,FieldOk f
 len:fs.length≤12
 nb:a≠b
 ng:a≠g
def RC:Sp:=λvs H Q _=>∃(b g l a t:Addr)(n lo sz wide:Int)(fs:List Str),vs=[.ref b,.ref a,.ref t,.int wide]∧Well H b g l n∧n≤10^7∧NmAt H b g a fs∧H t=some (.tup [.int lo,.int sz])∧1≤sz∧sz≤10^10∧1≤wide∧wide≤100∧
 ∀(r:Addr)(p:List PP)(H':Hp),PieceAt H' r p→POk p→Well H' b g l (n+60)→SameB b g H H'→Q (.ref r) H'
def RA:Sp:=λvs H Q _=>∃(b g l a:Addr)(n:Int)(fs:List Str),vs=[.ref b,.ref a]∧Well H b g l n∧n≤10^7∧NmAt H b g a fs∧fs.length≤6∧
 ∀(r:Addr)(fs':List Str)(H':Hp),H r=none→NmAt H' b g r fs'→Well H' b g l (n+60)→SameB b g H H'→Q (.ref r) H'
def RQ:Sp:=λvs H Q _=>∃(b g l c:Addr)(n:Int)(p:List PP),vs=[.ref b,.ref c]∧Well H b g l n∧n≤10^7∧PieceAt H c p∧POk p∧
 ∀(r:Addr)(p':List PP)(H':Hp),PieceAt H' r p'→POk p'→Well H' b g l (n+10)→SameB b g H H'→Q (.ref r) H'
theorem StAt.sameW{H':Hp}{g m:Addr}{n:Int}{W:List Int}{x:Stand}(h:StAt H W x)(B:Well H b g m n)(f:x.l≠b∧x.l≠g)(s:SameB b g H H'):StAt H' W x:=⟨B.tup s h.at',h.ws.sameW B f.1 f.2 s,h.nd,h.few,h.name,h.post⟩
theorem StsAt.sameW{H':Hp}{g m:Addr}{n:Int}{W:List Int}{l:Addr}{xs:List Stand}(h:StsAt H W l xs)(B:Well H b g m n)(lb:l≠b)(lg:l≠g)(f:∀x∈xs,x.l≠b∧x.l≠g)(s:SameB b g H H'):StsAt H' W l xs:=⟨s _ _ h.at' lb lg,λx hx=>(h.ok x hx).sameW B (f x hx) s,h.nd,h.len⟩
theorem NmAt.sameB{H':Hp}{g:Addr}{fs:List Str}(h:NmAt H b g a fs)(s:SameB b g H H'):NmAt H' b g a fs:=⟨s _ _ h.at' h.nb h.ng,h.asc,h.ok,h.len,h.nb,h.ng⟩
def hw(x:Stand):Str×List (Addr×List WP):=(x.hand,x.ws)
def Sf(x:Stand):Str×List (Addr×List WP):=(x.hand,x.ws.reverse)
theorem UR{xs ys:List Stand}(p:List PP)(h:ys.map hw=xs.map Sf):Ic ys p=Ic xs p:=by
 induction xs generalizing ys with
 | nil=>cases ys with
  | nil=>rfl
  | cons y ys=>cases h
 | cons x xs ih=>
  cases ys with
  | nil=>cases h
  | cons y ys=>
   rw[Av,Av,DO] at h;have e1:y.hand=x.hand:=congrArg Prod.fst h.1;have e2:y.ws=x.ws.reverse:=congrArg Prod.snd h.1;have e3:IZ y.ws p=IZ x.ws p:=by unfold IZ;rw[e2,List.any_reverse]
   have:=ih h.2;unfold Ic at this ⊢;by_cases c:IZ x.ws p=true
   · rw[Cr (by rw[e3];exact c),Cr (by exact c),Av,Av,e1,this]
   · rw[Cs (by rw[e3];exact c),Cs (by exact c),this]
theorem Wf{xs ys:List Stand}(p:List PP)(h:ys.Perm xs):(Ic ys p).Perm (Ic xs p):=(h.filter _).map _
theorem U5{H1 H':Hp}{g:Addr}(h:SqL K H a xs)(nb:H b=none)(ng:H g=none)(s1:Same H H1)(s:SameB b g H1 H'):SqL K H' a xs:=by
 have ne:∀o,H a=some o→a≠b∧a≠g:=λo e=>⟨λz=>(by rw[z,nb] at e;cases e),λz=>(by rw[z,ng] at e;cases e)⟩;rcases h with(h | ⟨o,h⟩) | h
 · exact .inl (.inl (s _ _ (s1 _ _ h) (ne _ h).1 (ne _ h).2))
 · exact .inl (.inr ⟨o,s _ _ (s1 _ _ h) (ne _ h).1 (ne _ h).2⟩)
 · exact .inr h
theorem NW:∀ts:List Str,(∀t∈ts,FieldOk t)→RepYs H (ts.map DY.str) (ts.map V.str)
 | [],_=>RepYs.nil
 | t::ts,h=>by refine RepYs.cons ?_ (NW ts λx hx=>h x (Ao _ hx));rw[RepY];exact⟨rfl,AF (h t Ar).eight (by decide)⟩
theorem R1:∀ts:List Int,RepYs H (ts.map DY.int) (ts.map V.int)
 | []=>RepYs.nil
 | t::ts=>RepYs.cons (by rw[RepY]) (R1 ts)
def IT(c:Str×Int×List (Addr×List WP)):DY:= .tup [.str c.1,.int c.2.1,.lst ((c.2.2.map (·.2)).map JT)]
theorem TF{W:List Int}{x:Stand}(h:StAt H W x):RepY H (IT (HW x)) (.ref x.a):=by refine KS h.at' (RepYs.cons ?_ (RepYs.cons (by rw[RepY];rfl) (RepYs.cons h.ws.repY RepYs.nil))) (by simp);rw[RepY];exact⟨rfl,AF h.name.eight (by decide)⟩
theorem Rc{W:List Int}:∀xs:List Stand,(∀x∈xs,StAt H W x)→RepYs H ((xs.map HW).map IT) (xs.map λx=>V.ref x.a)
 | [],_=>RepYs.nil
 | x::xs,h=>RepYs.cons (TF (h x Ar)) (Rc xs λy hy=>h y (Ao _ hy))
def JW(W:List Int)(cs:List (Str×Int×List (Addr×List WP))):DY:= .tup [.lst (W.map DY.int),.lst (cs.map IT)]
theorem Q1{t l:Addr}{W:List Int}{xs:List Stand}(ht:H t=some (.tup [.ref a,.ref l]))(ha:HV H a W)(hl:StsAt H W l xs):RepY H (JW W (xs.map HW)) (.ref t):=by
 refine KS ht (RepYs.cons (Li ha.1 (R1 W) ?_) (RepYs.cons (Li hl.at' (Rc xs hl.ok) ?_) RepYs.nil)) (by simp)
 · have:=ha.2.1;rw[Ab];omega
 · have:=hl.len;rw[Ab];omega
theorem UM(ts:List Str):HE (.lst (ts.map DY.str))≤6:=by
 rw[HE];have:Io (ts.map DY.str)≤1:=JG λd hd=>by obtain⟨t,_,rfl⟩:=AU.mp hd;rw[HE]<;>first | omega | simp
 omega
theorem UO(c:Str×Int×List (Addr×List WP)):HE (IT c)≤4:=by
 unfold IT;rw[HE];have:=Wc (c.2.2.map (·.2));have:Io [.str c.1,.int c.2.1,.lst ((c.2.2.map (·.2)).map JT)]≤3:=JG λd hd=>by
  simp only[Ax,AD,or_false] at hd;rcases hd with rfl | rfl | rfl
  · rw[HE]<;>first | omega | simp
  · rw[HE]<;>first | omega | simp
  · exact this
 omega
theorem UL(W:List Int)(cs:List (Str×Int×List (Addr×List WP))):HE (JW W cs)≤6:=by
 unfold JW;rw[HE];have h1:Io (W.map DY.int)≤1:=JG λd hd=>by obtain⟨t,_,rfl⟩:=AU.mp hd;rw[HE]<;>first | omega | simp
 have h2:Io (cs.map IT)≤4:=JG λd hd=>by obtain⟨t,_,rfl⟩:=AU.mp hd;exact UO t
 have:Io [.lst (W.map DY.int),.lst (cs.map IT)]≤5:=JG λd hd=>by
  simp only[Ax,AD,or_false] at hd;rcases hd with rfl | rfl
  · rw[HE];omega
  · rw[HE];omega
 omega
theorem PZ{ms:List Str}{xs:List Stand}{p:List PP}{W:List Int}{l:Addr}(h:StsAt H W l xs)(pm:ms.Perm (Ic xs p)):(∀t∈ms,FieldOk t)∧ms.Nodup∧ms.length≤30:=by
 have hl:=Ll xs p;refine⟨λt ht=>?_,pm.nodup_iff.mpr ?_,?_⟩
 · obtain⟨x,hx,rfl⟩:=AU.mp (pm.mem_iff.mp ht);exact(h.ok x (List.mem_filter.mp hx).1).name
 · exact h.nd.sublist ((List.filter_sublist (l:=xs)).map _)
 · rw[pm.length_eq];have:=h.len;omega
theorem We{xs ys:List Stand}(p:List PP)(h:ys.map HW=xs.map HW):Ic ys p=Ic xs p:=by
 induction xs generalizing ys with
 | nil=>cases ys with
  | nil=>rfl
  | cons y ys=>cases h
 | cons x xs ih=>
  cases ys with
  | nil=>cases h
  | cons y ys=>
   rw[Av,Av,DO] at h;have e1:y.hand=x.hand:=congrArg Prod.fst h.1;have e2:y.ws=x.ws:=congrArg (λc=>c.2.2) h.1;have:=ih h.2;unfold Ic at this ⊢;by_cases c:IZ x.ws p=true
   · rw[Cr (by rw[e2];exact c),Cr (by exact c),Av,Av,e1,this]
   · rw[Cs (by rw[e2];exact c),Cs (by exact c),this]
end L2
set_option maxHeartbeats 4000000
namespace K63
open PySem PySem.Spec PyProof.Rows L2
theorem Ip{α:Type}{l:List (Addr×α)}{x:V}(h:(l.map λy=>V.ref y.1)[i]?=some x):∃y,l[i]?=some y∧x=V.ref y.1:=by
 rw[Ah] at h;cases e:l[i]? with
 | none=>rw[e] at h;cases h
 | some y=>rw[e] at h;exact⟨y,rfl,(A7 h).symm⟩
def top(i:Nat):Stmt:=PySem.Challenge.pw_newsways_k63_who_is_given.main.body.getD i (.Pass ⟨0,0,0,0⟩)
abbrev NL:Stmt:=top 6
abbrev Ni:Stmt:=top 7
abbrev ND:Stmt:=top 8
abbrev Og:Stmt:=top 9
abbrev Mk:Stmt:=top 12
abbrev Od:Stmt:=top 13
abbrev NY:Stmt:=top 14
abbrev M5:Stmt:=top 15
abbrev Mr:Stmt:=top 16
abbrev Ml:Stmt:=top 17
abbrev Oa:Stmt:=top 18
abbrev Mz:Stmt:=top 19
abbrev Ol:Stmt:=top 20
abbrev M2:Stmt:=top 21
abbrev Mw:Stmt:=top 22
abbrev NB:Stmt:=top 24
abbrev Mh:Stmt:=top 27
abbrev NF:Stmt:=top 28
abbrev NC:Stmt:=top 29
abbrev NX:Stmt:=top 34
abbrev Ln:Stmt:=top 35
abbrev Oc:Stmt:=top 36
abbrev Mn:Stmt:=top 33
abbrev Lo:Stmt:=top 38
abbrev NQ:Stmt:=top 39
abbrev Mm:Stmt:=top 40
abbrev NK:Stmt:=top 41
abbrev NM:Stmt:=top 42
abbrev NN:Stmt:=top 43
abbrev NP:Stmt:=top 44
abbrev NR:Stmt:=top 45
abbrev Of:Stmt:=top 46
abbrev NG:Stmt:=top 47
abbrev Mv:Stmt:=top 48
abbrev NO:Stmt:=top 49
abbrev M0:Stmt:=top 50
abbrev Ms:Stmt:=top 51
abbrev M1:Stmt:=top 54
abbrev Oe:Stmt:=top 55
abbrev M4:Stmt:=top 57
abbrev N_:Stmt:=top 58
abbrev M3:Stmt:=top 59
abbrev NZ:Stmt:=top 60
abbrev Jx:Stmt:=top 61
def Nc(m:Nat):Sp:=λvs H Q _=>∃(v v':V)(d:DY),vs=[v,v']∧m≤9∧RepY H d v∧RepY H d v'∧HE d≤m∧∀H',Same H H'→Q (.bl true) H'
def Oz:Sp:=λvs H Q _=>∃(a:Addr)(p:List PP),vs=[.ref a]∧PieceAt H a p∧POk p∧∀H',Same H H'→Q (.bl true) H'
def spPoints:Sp:=λvs H Q _=>∃(a t:Addr)(fs:List Str)(lo sz wide:Int),vs=[.ref a,.ref t,.int wide]∧H a=some (.lst (fs.map V.str))∧fs.length≤3∧(∀f∈fs,FieldOk f)∧fs.Pairwise Iq∧H t=some (.tup [.int lo,.int sz])∧1≤sz∧sz≤10^10∧1≤wide∧wide≤9∧
 ∀(r:Addr)(qs:List (Addr×List PP))(H':Hp),Same H H'→H' r=some (.lst (qs.map λq=>V.ref q.1))→qs.length≤8000→(∀q∈qs,PieceAt H' q.1 q.2∧POk q.2)→Q (.ref r) H'
def O0:Sp:=λvs H Q _=>∃(a l c:Addr)(w:List WP)(os:List (Addr×List WP))(p:List PP),vs=[.ref a,.ref l,.ref c]∧WishAt H a w∧WsAt H l os∧PieceAt H c p∧POk p∧∀H',Same H H'→Q (.bl (IH w p && os.all λo=>!IH o.2 p)) H'
def JV(p:PP):DY:= .tup [.str p.1,.int p.2]
def JU(p:List PP):DY:= .tup (p.map JV)
theorem Q6:∀ps:List (Addr×PP),(∀p∈ps,H p.1=some (.tup [.str p.2.1,.int p.2.2]))→(∀p∈ps,p.2.1.length≤8)→RepYs H ((ps.map (·.2)).map JV) (ps.map λp=>V.ref p.1)
 | [],_,_=>RepYs.nil
 | p::ps,h,hl=>by refine RepYs.cons ?_ (Q6 ps (λx hx=>h x (Ao _ hx)) λx hx=>hl x (Ao _ hx));refine KS (h p Ar) (RepYs.cons ?_ (RepYs.cons (by rw[RepY]) RepYs.nil)) (by simp);rw[RepY];exact⟨rfl,AF (hl p Ar) (by decide)⟩
theorem TD{p:List PP}(h:PieceAt H a p)(ok:POk p):RepY H (JU p) (.ref a):=by obtain⟨ps,rfl,e,f⟩:=h;refine KS e (Q6 ps f λp hp=>?_) (by have:=ok.len;rw[Ab] at*;omega);exact(ok.ok p.2 (Bm hp)).eight
theorem UN(p:List PP):HE (JU p)≤2:=by
 unfold JU;rw[HE];have:Io (p.map JV)≤1:=JG λd hd=>by obtain⟨p,_,rfl⟩:=AU.mp hd;unfold JV;simp only[HE,Io];omega
 omega
def Sg:List (List WP)→DY
 | []=> .non
 | p::_=>JU (KR p)
theorem KW{v:V}{ps:List (List WP)}(h:TC H v ps)(ok:∀p∈ps,WOk p):RepY H (Sg ps) v:=by
 cases ps with
 | nil=> have:v= .non:=h;subst this;show RepY H .non .non;rw[RepY]
 | cons p ps=> obtain⟨t,rfl,h⟩:=h;exact TD h (VF (ok p Ar))
theorem K8(ps:List (List WP)):HE (Sg ps)≤2:=by
 cases ps with
 | nil=>show HE .non≤2;rw[HE];omega;all_goals simp
 | cons p ps=>exact UN _
section
variable{mg:Str→Option Value}{base:Heap}
theorem HB{N P:List Str}{sc:Scope}(h1:sc.kind= .function:=by rfl)(h2:sc.isCoroutine=false:=by rfl)(h3:sc.isGenerator=false:=by rfl)(h4:N.Nodup:=by decide+kernel)(h5:N.take P.length=P:=by rfl)(h6:∀x∈P,sc.names.lookup x=some .local∨sc.names.lookup x=some .cell:=by decide+kernel)(h7:∀y∈sc.names,y.2≠ .free:=by decide+kernel):FnScope N P sc:=⟨h1,h2,h3,h4,h5,h6,h7⟩
theorem WR:FnScope ["thing"] ["thing"] (Hj NL):=HB
theorem Wj:FnScope ["thing"] ["thing"] (Hj Ni):=HB
theorem FO:FnScope ["thing","low","high"] ["thing"] (Hj ND):=HB
theorem FP:FnScope ["span","number","low","high"] ["span","number"] (Hj Og):=HB
theorem Xi:FnScope ["thing"] ["thing"] (Hj Mk):=HB
theorem FQ:FnScope ["thing","field","low","high"] ["thing"] (Hj Od):=HB
theorem FR:FnScope ["thing","field","number"] ["thing"] (Hj NY):=HB
theorem X5:FnScope ["parts"] ["parts"] (Hj M5):=HB
theorem VM:FnScope ["thing"] ["thing"] (Hj Mr):=HB
theorem WQ:FnScope ["thing"] ["thing"] (Hj Ml):=HB
theorem X7:FnScope ["thing"] ["thing"] (Hj Oa):=HB
theorem Xk:FnScope ["thing"] ["thing"] (Hj Mz):=HB
theorem XF:FnScope ["thing"] ["thing"] (Hj Ol):=HB
theorem FT:FnScope ["wish","piece","numbers","field","low","high"] ["wish","piece"] (Hj M2):=HB
theorem WN:FnScope ["wishes","piece"] ["wishes","piece"] (Hj Mw):=HB
theorem VJ:FnScope ["thing"] ["thing"] (Hj NB):=HB
theorem Wk:FnScope ["thing"] ["thing"] (Hj Mh):=HB
theorem WM:FnScope ["thing"] ["thing"] (Hj NF):=HB
theorem VL:FnScope ["web","thing"] ["web","thing"] (Hj NC):=HB
theorem FU:FnScope ["web","thing","hand","place","wishes"] ["web","thing"] (Hj NX):=HB
theorem Xj:FnScope ["web","thing"] ["web","thing"] (Hj Ln):=HB
theorem XC:FnScope ["web","stands"] ["web","stands"] (Hj Oc):=HB
theorem WS:FnScope ["web","stands","piece"] ["web","stands","piece"] (Hj Mn):=HB
theorem FV:FnScope ["script","great","small","seed","number"] ["script"] (Hj Lo):=HB
theorem FW:FnScope ["well","many","number","cell"] ["well","many"] (Hj NQ):=HB
theorem FX:FnScope ["well","most","letters"] ["well","most"] (Hj Mm):=HB
theorem FY:FnScope ["well","many","letters","found","k","pick","first","letter","at","word"] ["well","many"] (Hj NK):=HB
theorem FZ:FnScope ["well","pick","sign","number"] ["well"] (Hj NM):=HB
theorem F_:FnScope ["well","pick","size"] ["well"] (Hj NN):=HB
theorem Ga:FnScope ["well","grid","wide","pick","low","high"] ["well","grid","wide"] (Hj NP):=HB
theorem Gb:FnScope ["well","names","grid","wide","parts","field","low","high"] ["well","names","grid","wide"] (Hj NR):=HB
theorem Gc:FnScope ["well","names","grid","wide","many","found","k","pick","wish","old","at"] ["well","names","grid","wide","many"] (Hj Of):=HB
theorem Gd:FnScope ["wish","piece","there","field","low","high"] ["wish","piece"] (Hj NG):=HB
theorem RJ:FnScope ["found","due"] ["found","due"] (Hj Mv):=HB
theorem Ge:FnScope ["well","names","grid","wide","many","found","wish"] ["well","names","grid","wide","many"] (Hj NO):=HB
theorem Gf:FnScope ["well","row","left","many"] ["well","row"] (Hj M0):=HB
theorem Gg:FnScope ["well","most","pick","many"] ["well","most"] (Hj Ms):=HB
theorem Gh:FnScope ["well","row","left"] ["well","row"] (Hj M1):=HB
theorem Gi:FnScope ["well","web","pool","many","found","hand"] ["well","web","pool","many"] (Hj Oe):=HB
theorem XH:FnScope ["stands"] ["stands"] (Hj M4):=HB
theorem Gj:FnScope ["well","names","grid","wide","found","field","low","pick","within"] ["well","names","grid","wide"] (Hj N_):=HB
theorem Gk:FnScope ["well","names","more"] ["well","names"] (Hj M3):=HB
theorem Gm:FnScope ["well","piece","at","number"] ["well","piece"] (Hj NZ):=HB
theorem Gn:FnScope ["script","well","large","web","names","grid","wide","pool","stands","own","others","hand","post","wishes","k","piece","due","some","handed"] ["script"] (Hj Jx):=HB
section
variable(P:Bb)(w:World)(K:Af)(mg:Str→Option Value)(base:Heap)
abbrev Γ0:=HA P w K mg base 1 "is_whole" ["thing"] (Qv K)
abbrev Γ1:=HA P w K mg base 2 "is_end" ["thing"] (Pe K)
abbrev Γ4:=HA P w K mg base 1 "is_field" ["thing"] (LX)
abbrev Γ2:=HA P w K mg base 3 "is_span" ["thing"] (QD K)
abbrev Γ7:=HA P w K mg base 1 "fields_ascend" ["parts"] (QA)
abbrev Γ5:=HA P w K mg base 4 "is_wish_part" ["thing"] (RT)
abbrev Γ6:=HA P w K mg base 2 "is_piece_part" ["thing"] (RB)
abbrev Γ9:=HA P w K mg base 3 "is_piece" ["thing"] (Ri)
abbrev Γ8:=HA P w K mg base 5 "is_wish" ["thing"] (QE)
abbrev Γ11:=HA P w K mg base 6 "are_wishes" ["thing"] (Qs)
abbrev Γ3:=HA P w K mg base 1 "span_holds" ["span","number"] (Lr)
abbrev Γ13:=HA P w K mg base 2 "wish_takes" ["wish","piece"] (LY)
abbrev Γ16:=HA P w K mg base 2 "is_web" ["thing"] (Qt)
abbrev Γ15:=HA P w K mg base 2 "is_name" ["thing"] (LX)
abbrev Γ18:=HA P w K mg base 2 "is_post" ["web","thing"] (QC)
abbrev Γ12:=HA P w K mg base 7 "are_unlike_wishes" ["thing"] (QI)
abbrev Γ19:=HA P w K mg base 8 "is_stand" ["web","thing"] (Rj)
abbrev Γ17:=HA P w K mg base 3 "check_web" ["thing"] (QB)
abbrev Γ20:=HA P w K mg base 9 "are_stands" ["web","thing"] (RN)
abbrev Γ21:=HA P w K mg base 10 "check_stands" ["web","stands"] (R9)
abbrev Γ10:=HA P w K mg base 4 "check_piece" ["thing"] (RP)
abbrev Γ14:=HA P w K mg base 3 "one_takes" ["wishes","piece"] (RS)
abbrev Γ24:=HA P w K mg base 1 "_law_take" ["well","many"] (PN)
abbrev Γ25:=HA P w K mg base 2 "_law_name" ["well","most"] (PL)
abbrev Γ27:=HA P w K mg base 2 "_law_base" ["well"] (PH)
abbrev Γ29:=HA P w K mg base 2 "_law_span" ["well","grid","wide"] (Qu)
abbrev Γ30:=HA P w K mg base 3 "_law_wish" ["well","names","grid","wide"] (Qw)
abbrev Γ31:=HA P w K mg base 4 "_law_wishes" ["well","names","grid","wide","many"] (R4)
abbrev Γ37:=HA P w K mg base 2 "_law_turned" ["well","row"] (QH)
abbrev Γ26:=HA P w K mg base 3 "_law_fields" ["well","many"] (Rh)
abbrev Γ35:=HA P w K mg base 2 "_law_picked" ["well","row"] (QF)
abbrev Γ23:=HA P w K mg base 1 "_law_well" ["script"] (PR K)
abbrev Γ36:=HA P w K mg base 2 "_law_web" ["well","most"] (PQ)
abbrev Γ28:=HA P w K mg base 3 "_law_grid" ["well"] (PJ)
abbrev Γ34:=HA P w K mg base 5 "_law_pool" ["well","names","grid","wide","many"] (PM)
abbrev Γ38:=HA P w K mg base 4 "_law_stands" ["well","web","pool","many"] (QG)
abbrev Γ41:=HA P w K mg base 3 "_law_more_names" ["well","names"] (RA)
abbrev Γ42:=HA P w K mg base 2 "_law_far_piece" ["well","piece"] (RQ)
abbrev Γ40:=HA P w K mg base 2 "_law_some_piece" ["well","names","grid","wide"] (RC)
abbrev Γ39:=HA P w K mg base 1 "_law_stands_kept" ["stands"] (PK)
abbrev Γ33:=HA P w K mg base 11 "_law_alike" ["found","due"] (MT 9 Nc)
abbrev Γ22:=HA P w K mg base 11 "who_gets" ["web","stands","piece"] (Rk)
abbrev Γ32:=HA P w K mg base 1 "_law_wants" ["wish","piece"] (LY)
end
theorem zq0:0≤As:=by decide
theorem OZ:1≤As:=by decide
theorem OY:4≤As:=by decide
theorem zq5:5≤As:=by decide
theorem zq6:6≤As:=by decide
theorem zq8:8≤As:=by decide
theorem OF:Bx (["sign"]:List Str):=by decide+kernel
theorem LC:Bx (["ahead","behind"]:List Str):=by decide+kernel
theorem L6:Bx (["part"]:List Str):=by decide+kernel
theorem OE:Bx (["wish"]:List Str):=by decide+kernel
theorem L5:Bx (["field","number"]:List Str):=by decide+kernel
theorem L4:Bx (["wish","piece"]:List Str):=by decide+kernel
theorem L3:Bx (["at","post"]:List Str):=by decide+kernel
theorem OD:Bx (["stand","web"]:List Str):=by decide+kernel
theorem K7:Bx (["hand","place","wishes"]:List Str):=by decide+kernel
theorem K6:Bx (["hand","place","wishes","piece"]:List Str):=by decide+kernel
theorem Kk:Bx (["cell"]:List Str):=by decide+kernel
theorem LB:Bx (["k","well","letters"]:List Str):=by decide+kernel
theorem LA:Bx (["k","found","due"]:List Str):=by decide+kernel
theorem Kj:Bx (["k","well","left"]:List Str):=by decide+kernel
theorem L9:Bx (["place","well","pick"]:List Str):=by decide+kernel
theorem Ju:Bx (["hand","post","wishes"]:List Str):=by decide+kernel
theorem L8:Bx (["k","well"]:List Str):=by decide+kernel
theorem L7:Bx (["one","piece"]:List Str):=by decide+kernel
theorem HX:2≤As:=by decide
theorem KG:3≤As:=by decide
variable{f:Addr}{fd:Bv}(B:Bl mg){tML':Tok}(qML':mg "MOST_LETTERS"=some (.int 8 tML')){tMR':Tok}(qMR':mg "MOST_ROADS"=some (.int 23 tMR')){tMH':Tok}(qMH':mg "MOST_HANDS"=some (.int 30 tMH')){tMW':Tok}(qMW':mg "MOST_WISHES"=some (.int 10 tMW'))
include B qML' qMR' qMH' qMW'
theorem W6(F:Fun K "is_whole" "is_whole" NL f fd)  :FnOk P w K mg base Hu 1 f fd ["thing"] (Qv K):=by
 refine F.ok WR (λvs H Q E h=>?_) (λcdv A outer s H vs Q E hr h=>?_)
 · obtain⟨v,t,rfl,hty,q⟩:=h;rfl
 obtain⟨v,t,rfl,hty,q⟩:=h;refine⟨_,(Hg (Ho (IM (Hl (Ik (n:="")) rfl B.isinstance_ Ih (GW (pv 0) (GW (Ia (v:= .ty "int") rfl B.int_ ML rfl) GX))) (IC (SO (Hl (Ik (n:="")) rfl B.isinstance_ Ih (GW (pv 0) (GW (Ia (v:= .ty "bool") rfl B.bool_ MW rfl) GX)))))))),?_⟩;cases hty
 all_goals first
  | exact⟨_,rfl,_,"int","int",true,rfl,.int _,rfl,_,rfl,Hc ⟨_,rfl,_,"int","bool",false,rfl,.int _,rfl,_,rfl,q⟩⟩
  | exact⟨_,rfl,_,"bool","int",true,rfl,.bl _,rfl,_,rfl,Hc ⟨_,rfl,_,"bool","bool",true,rfl,.bl _,rfl,_,rfl,q⟩⟩
  | exact⟨_,rfl,_,_,"int",false,rfl,(by first | exact .non | exact .str _ | exact .flt _ | (exact .lst (by assumption)) | (exact .frz (by assumption)) | (exact .tup (by assumption)) | (exact .dK (by assumption)) | (exact .dT (by assumption))),rfl,_,rfl,Ha q⟩
theorem Ve(F:Fun K "is_end" "is_end" Ni f fd)(Go:Γ0 P w K mg base):FnOk P w K mg base Hu 2 f fd ["thing"] (Pe K):=by
 refine F.ok Wj (λvs H Q E h=>?_) (λcdv A outer s H vs Q E hr h=>?_)
 · obtain⟨v,t,rfl,hty,q⟩:=h;rfl
 obtain⟨v,t,rfl,hty,q⟩:=h;refine⟨_,(Hg (Ho (Lb (Kw (JD (pv 0))) (IC (Hf Go (hr.mono (by decide)) rfl (GW (pv 0) GX)))))),?_⟩;refine⟨_,rfl,_,rfl,?_⟩;cases hty
 case non=>exact Hc q
 all_goals refine Ha ?_
 case int i=>exact⟨_,rfl,_,_,rfl,.int _,q⟩
 all_goals exact⟨_,rfl,_,_,rfl,(by first | exact .bl _ | exact .str _ | exact .flt _ | (exact .lst (by assumption)) | (exact .frz (by assumption)) | (exact .tup (by assumption)) | (exact .dK (by assumption)) | (exact .dT (by assumption))),q⟩
theorem V9(F:Fun K "is_span" "is_span" ND f fd)(Gp:Γ1 P w K mg base):FnOk P w K mg base Hu 3 f fd ["thing"] (QD K):=by
 refine F.ok FO (λvs H Q E h=>?_) (λcdv A outer s H vs Q E hr h=>?_)
 · obtain⟨v,t,rfl,hty,hp,q⟩:=h;rfl
 obtain⟨v,t,rfl,hty,hp,q⟩:=h;refine⟨_,(Hd (HG (PW.pt (IU (Im (Ii (Hl (Ik (n:="")) rfl B.isinstance_ Ih (GW (pv 0) (GW (Ia (v:= .ty "tuple") rfl B.tuple_ J3 rfl) GX))))) (IV (HI Ku (Hl HY rfl B.len_ HN (GW (pv 0) GX)) G_ (Hz _))))) (Hg (Ho Ij)) HF)
  (Hd (JE (pv 0) (J2 rfl (HH (Hq (i:=1) FO.nd rfl (Or.inl rfl)) (HH (Hq (i:=2) FO.nd rfl (Or.inl rfl)) IR))))
  (Hd (HG (PW.pt (IU (Im (Ii (Hf Gp (hr.mono (by decide)) rfl (GW (pv 1) GX)))) (IV (Im (Ii (Hf Gp (hr.mono (by decide)) rfl (GW (pv 2) GX))))))) (Hg (Ho Ij)) HF)
  (Hg (Ho (Lb (Kw (JD (pv 1))) (Lb (Kw (JD (pv 2))) (IC (J6 Jz (pv 1) (pv 2) (Hz _)))))))))),?_⟩
 have q0:Je H v=false→Q (.bl false) H:=λh=>by rw[←h];exact q
 cases hty
 case tup a xs e=>
  refine⟨_,rfl,_,"tuple","tuple",true,rfl,.tup e,rfl,_,rfl,Ha ⟨_,rfl,a,_,rfl,.inr (SqT.of e),rfl,_,rfl,?_⟩⟩;by_cases hl:xs.length=2
  · match xs,hl with
    | [x,y],_=>
     refine Ha ⟨_,rfl,a,_,rfl,SqT.of e,rfl,_,_,rfl,_,_,rfl,rfl,?_⟩;obtain⟨t1,t2,h1,h2⟩:=hp a x y rfl e;have es:Je H (.ref a)=(IJ x && IJ y && OJ x y):=by unfold Je;simp only[e]
     rw[es] at q;refine⟨_,rfl,_,_,rfl,h1,_,rfl,?_⟩;cases ex:IJ x with
     | false=> rw[ex] at q;exact Hc q
     | true=>
      rw[ex] at q;refine Ha ⟨_,rfl,_,_,rfl,h2,_,rfl,?_⟩;cases ey:IJ y with
      | false=> rw[ey] at q;exact Hc q
      | true=>
       rw[ey] at q;refine Ha ⟨_,rfl,_,rfl,?_⟩;cases x with
       | non=>exact Hc q
       | int i=>
        refine Ha ⟨_,rfl,_,rfl,?_⟩;cases y with
        | non=>exact Hc q
        | int j=>exact Ha ⟨_,rfl,_,rfl,_,_,rfl,rfl,q⟩
        | _=>exact absurd ey An
       | _=>exact absurd ex An
  · have es:Je H (.ref a)=false:=by
     unfold Je;simp only[e]
     match xs,hl with
     | [],_=>rfl
     | [_],_=>rfl
     | [_,_],h=>exact absurd rfl h
     | _::_::_::_,_=>rfl
    have ed:(!decide (V.int ((xs.length:Nat):Int)=V.int 2))=true:=by
     have:¬V.int ((xs.length:Nat):Int)=V.int 2:=λz=>by injection z with z;omega
     rw[decide_eq_false this];rfl
    rw[es] at q;show if(!decide (V.int ((xs.length:Nat):Int)=V.int 2))=true then _ else _
    rw[ed];exact Hc q
 case non=>exact⟨_,rfl,_,_,"tuple",false,rfl,.non,rfl,_,rfl,Hc (q0 rfl)⟩
 case bl b=>exact⟨_,rfl,_,_,"tuple",false,rfl,(.bl b),rfl,_,rfl,Hc (q0 rfl)⟩
 case int i=>exact⟨_,rfl,_,_,"tuple",false,rfl,(.int i),rfl,_,rfl,Hc (q0 rfl)⟩
 case str x=>exact⟨_,rfl,_,_,"tuple",false,rfl,(.str x),rfl,_,rfl,Hc (q0 rfl)⟩
 case flt x=>exact⟨_,rfl,_,_,"tuple",false,rfl,(.flt x),rfl,_,rfl,Hc (q0 rfl)⟩
 case lst a xs e=>exact⟨_,rfl,_,_,"tuple",false,rfl,(.lst e),rfl,_,rfl,Hc (q0 (by unfold Je;simp only[e]))⟩
 case frz a o xs e=>exact⟨_,rfl,_,_,"tuple",false,rfl,(.frz e),rfl,_,rfl,Hc (q0 (by unfold Je;simp only[e]))⟩
 case dK a kvs e=>exact⟨_,rfl,_,_,"tuple",false,rfl,(.dK e),rfl,_,rfl,Hc (q0 (by unfold Je;simp only[e]))⟩
 case dT a kvs e=>exact⟨_,rfl,_,_,"tuple",false,rfl,(.dT e),rfl,_,rfl,Hc (q0 (by unfold Je;simp only[e]))⟩
theorem Xw(F:Fun K "span_holds" "span_holds" Og f fd)  :FnOk P w K mg base Hu 1 f fd ["span","number"] (Lr):=by
 refine F.ok FP (λvs H Q E h=>?_) (λcdv A outer s H vs Q E hr h=>?_)
 · obtain⟨v,lo,hi,k,rfl,S1,q⟩:=h;rfl
 obtain⟨v,lo,hi,k,rfl,S1,q⟩:=h;refine⟨_,(Hd (JE (pv 0) (J2 rfl (HH (Hq (i:=2) FP.nd rfl (Or.inl rfl)) (HH (Hq (i:=3) FP.nd rfl (Or.inl rfl)) IR))))
  (Hg (Ho (IM (Lb (Kw (JD (pv 2))) (IC (J6 Jz (pv 2) (pv 1) (Hz _)))) (IC (Lb (Kw (JD (pv 3))) (IC (J6 Jz (pv 1) (pv 3) (Hz _))))))))),?_⟩
 obtain⟨a,rfl,e1⟩:=S1;refine⟨_,rfl,a,_,rfl,SqT.of e1,rfl,_,_,rfl,_,_,rfl,rfl,?_⟩;have up:∀(Q':VK),Q' (.bl (Km hi k)) H→Lp (λσ H Q=>Js 3 σ H λx H1=>Q (.bl (decide (x= .non))) H1) (Lq (JM λi j=>V.bl (decide (i≤j))) (Js 1) (Js 3)) [some (V.ref a),some (V.int k),some (eV lo),some (eV hi)] H Q':=λQ' h=>by
  refine⟨_,rfl,_,rfl,?_⟩;cases hi with
  | none=>exact Hc h
  | some u=>exact Ha ⟨_,rfl,_,rfl,_,_,rfl,rfl,h⟩
 cases lo with
 | none=>
  refine⟨_,rfl,_,rfl,Hc ⟨_,rfl,Hc (up _ ?_)⟩⟩;have z:Iw none hi k=Km hi k:=by simp only[Iw,Kl,E1]
  rw[z] at q;exact q
 | some l=>
  refine⟨_,rfl,_,rfl,Ha ⟨_,rfl,_,rfl,_,_,rfl,rfl,_,rfl,?_⟩⟩;cases hb:decide (l≤k) with
  | true=>
   have z:Iw (some l) hi k=Km hi k:=by simp only[Iw,Kl,hb,E1]
   rw[z] at q;exact Hc (up _ q)
  | false=>
   have z:Iw (some l) hi k=false:=by simp only[Iw,Kl,hb,Bool.false_and]
   rw[z] at q;exact Ha q
theorem W0(F:Fun K "is_field" "is_field" Mk f fd)  :FnOk P w K mg base Hu 1 f fd ["thing"] (LX):=by
 refine F.ok Xi (λvs H Q E h=>?_) (λcdv A outer s H vs Q E hr h=>?_)
 · obtain⟨x,rfl,F1,q⟩:=h;rfl
 obtain⟨x,rfl,F1,q⟩:=h;refine⟨_,(Hd (HG (PW.pt (IU (Im (Ii (Hl (Ik (n:="")) rfl B.isinstance_ Ih (GW (pv 0) (GW (Ia (v:= .ty "str") rfl B.str_ MS rfl) GX))))) (IV (Im (Uy Jz Jz G_ (Hl RG rfl B.len_ HN (GW (pv 0) GX)) (Mc (v:= .int 8) rfl qML' ⟨_,rfl⟩)))))) (Hg (Ho Ij)) HF)
  (Hg (Ho (Hl (Kg rfl) rfl B.all_ Ka (GW (IG (N':=["sign"]) (js:=[none]) rfl (Ig (N:=["thing"]) (outer:=Hj Mk) (by decide+kernel)) (SS (pv 0)) (λ_ _ _ _ _=>(Hq (i:=0) OF rfl (Or.inl rfl))) (λ_ _ _ _ _=>IB) (λ_ _ _ _ _=>(Nq Q_ Q_ Lf (pv 0) Lf))) GX))))),?_⟩
 have l1:(1:Int)≤(x.length:Int):=by have:=F1.one;omega
 have l8:(x.length:Int)≤8:=by have:=F1.eight;omega
 refine⟨_,rfl,_,"str","str",true,rfl,.str x,rfl,_,rfl,Ha ⟨_,rfl,x,rfl,Pd (by have:=F1.eight;omega),_,_,rfl,rfl,_,rfl,?_⟩⟩;rw[decide_eq_true l1];refine Hc ⟨_,_,rfl,rfl,_,rfl,?_⟩;rw[decide_eq_true l8];refine Ha ⟨_,rfl,x,rfl,λp hp=>?_⟩;have s0:=Hh hp (.lst []);have sl:(L2.signs x).length=x.length:=by unfold L2.signs;rw[Ab,Aj];rfl
 refine Tv (xs:=L2.signs x) (λi σ' ys H'=>(∃v,σ'=[v])∧Same H H'∧H' p=some (.lst ys)∧ys=AA i (V.bl true)) ⟨⟨none,rfl⟩,s0,Hb,rfl⟩ ?_ ?_ ?_
 · rintro i σ' ys H' hi ⟨_,_,h1,h2⟩;refine⟨h1,?_⟩;rw[h2,Bk];have:=F1.eight;exact HR (by omega)
 · rintro i y σ' ys H' N hy ⟨⟨v,rfl⟩,s,h1,h2⟩ hN;unfold L2.signs at hy;rw[Ah] at hy;cases hc:x.cps.toList[i]? with
   | none=>rw[hc] at hy;cases hy
   | some c=>
    rw[hc] at hy;obtain rfl:V.str ⟨#[c]⟩=y:=A7 hy;have ok:=F1.all c (Aq hc);refine⟨_,rfl,_,_,rfl,rfl,_,rfl,?_⟩;rw[OP ok];refine Hc ⟨_,_,rfl,rfl,?_⟩;rw[OI ok];refine⟨h1,hN _ _ _ ⟨⟨_,rfl⟩,?_,Hb,by rw[h2];exact By.symm⟩⟩;intro b o q';have:b≠p:=λz=>by rw[z,hp] at q';cases q'
    rw[Hm this];exact s b o q'
 · rintro σ' ys H' ⟨_,s,h1,h2⟩;refine⟨p,AA (L2.signs x).length true,rfl,SqL.of (by rw[h1,h2,Cm]),?_⟩;have:(AA (L2.signs x).length true).all id=true:=by simp
   rw[this];exact q H' s
theorem XB(F:Fun K "is_wish_part" "is_wish_part" Od f fd)(Gq:Γ4 P w K mg base)(Gr:Γ2 P w K mg base):FnOk P w K mg base Hu 4 f fd ["thing"] (RT):=by
 refine F.ok FQ (λvs H Q E h=>?_) (λcdv A outer s H vs Q E hr h=>?_)
 · obtain⟨p,f,lo,hi,rfl,hp,F1,hle,q⟩:=h;rfl
 obtain⟨p,f,lo,hi,rfl,hp,F1,hle,q⟩:=h;refine⟨_,(Hd (HG (PW.pt (IU (Im (Ii (Hl (Ik (n:="")) rfl B.isinstance_ Ih (GW (pv 0) (GW (Ia (v:= .ty "tuple") rfl B.tuple_ J3 rfl) GX))))) (IV (HI Ku (Hl HY rfl B.len_ HN (GW (pv 0) GX)) G_ (Hz _))))) (Hg (Ho Ij)) HF)
  (Hd (JE (pv 0) (J2 rfl (HH (Hq (i:=1) FQ.nd rfl (Or.inl rfl)) (HH (Hq (i:=2) FQ.nd rfl (Or.inl rfl)) (HH (Hq (i:=3) FQ.nd rfl (Or.inl rfl)) IR)))))
  (Hg (Ho (IM (Hf Gq (hr.mono (by decide)) rfl (GW (pv 1) GX)) (IC (Hf Gr (hr.mono (by decide)) rfl (GW (Iu (GW (pv 2) (GW (pv 3) GX))) GX)))))))),?_⟩
 refine⟨_,rfl,_,"tuple","tuple",true,rfl,.tup hp,rfl,_,rfl,Ha ⟨_,rfl,p,_,rfl,.inr (SqT.of hp),rfl,_,rfl,?_⟩⟩;refine Ha ⟨_,rfl,p,_,rfl,SqT.of hp,rfl,_,_,rfl,_,_,rfl,_,_,rfl,rfl,?_⟩;refine⟨_,rfl,f,rfl,F1,λH1 s1=>⟨_,rfl,Hc ⟨_,rfl,_,rfl,HX,λt ht=>?_⟩⟩⟩;have S:SpanAt (GY H1 t (.tup [eV lo,eV hi])) (.ref t) lo hi:=⟨t,rfl,Hb⟩;refine⟨.ref t,"tuple",rfl,S.ty.1,S.ty.2,?_⟩;rw[Vv S,hle];exact q _ (s1.trans (Hh ht _))
theorem X3(F:Fun K "is_piece_part" "is_piece_part" NY f fd)(Gq:Γ4 P w K mg base)(Go:Γ0 P w K mg base):FnOk P w K mg base Hu 2 f fd ["thing"] (RB):=by
 refine F.ok FR (λvs H Q E h=>?_) (λcdv A outer s H vs Q E hr h=>?_)
 · obtain⟨p,f,n,rfl,hp,F1,q⟩:=h;rfl
 obtain⟨p,f,n,rfl,hp,F1,q⟩:=h;refine⟨_,(Hd (HG (PW.pt (IU (Im (Ii (Hl (Ik (n:="")) rfl B.isinstance_ Ih (GW (pv 0) (GW (Ia (v:= .ty "tuple") rfl B.tuple_ J3 rfl) GX))))) (IV (HI Ku (Hl HY rfl B.len_ HN (GW (pv 0) GX)) G_ (Hz _))))) (Hg (Ho Ij)) HF)
  (Hd (JE (pv 0) (J2 rfl (HH (Hq (i:=1) FR.nd rfl (Or.inl rfl)) (HH (Hq (i:=2) FR.nd rfl (Or.inl rfl)) IR))))
  (Hg (Ho (IM (Hf Gq (hr.mono (by decide)) rfl (GW (pv 1) GX)) (IC (Hf Go (hr.mono (by decide)) rfl (GW (pv 2) GX)))))))),?_⟩
 refine⟨_,rfl,_,"tuple","tuple",true,rfl,.tup hp,rfl,_,rfl,Ha ⟨_,rfl,p,_,rfl,.inr (SqT.of hp),rfl,_,rfl,?_⟩⟩;refine Ha ⟨_,rfl,p,_,rfl,SqT.of hp,rfl,_,_,rfl,_,_,rfl,rfl,?_⟩;exact⟨_,rfl,f,rfl,F1,λH1 s1=>⟨_,rfl,Hc ⟨_,rfl,.int n,"int",rfl,.int n,q _ s1⟩⟩⟩
theorem X2(F:Fun K "fields_ascend" "fields_ascend" M5 f fd)  :FnOk P w K mg base Hu 1 f fd ["parts"] (QA):=by
 refine F.ok X5 (λvs H Q E h=>?_) (λcdv A outer s H vs Q E hr h=>?_)
 · obtain⟨a,ps,rfl,ha,hl,hp,hlt,q⟩:=h;rfl
 obtain⟨a,ps,rfl,ha,hl,hp,hlt,q⟩:=h;refine⟨_,(Hg (Ho (Hl (Kg rfl) rfl B.all_ Ka (GW (IG (N':=["ahead","behind"]) (js:=[none,none]) rfl (Ig (N:=["parts"]) (outer:=Hj M5) (by decide+kernel)) (SU rfl B.zip_ (GW (pv 0) (GW (Jp Qr (pv 0) (Jl G_) Jk) GX))) (λ_ _ _ _ _=>(KQ K rfl (n:=2) rfl (HH (Hq (i:=0) LC rfl (Or.inl rfl)) (HH (Hq (i:=1) LC rfl (Or.inl rfl)) IR)))) (λ_ _ _ _ _=>IB) (λ_ _ _ _ _=>(J6 Vg (HC (Ma K rfl) (pv 0) G_ (λ_ _=>rfl)) (HC (Ma K rfl) (pv 1) G_ (λ_ _=>rfl)) (Hz _)))) GX)))),?_⟩;refine⟨_,rfl,_,rfl,_,rfl,?_⟩;dsimp only[Qz];refine TK (SqT.of ha) λp1 H1 s1 q1=>?_;refine⟨a,p1,rfl,⟨_,s1.seqT (SqT.of ha)⟩,⟨_,q1⟩,λp hp'=>?_⟩;have s0:=Hh hp' (.lst []);have ld:((ps.map λp=>V.ref p.1).drop 1).length=ps.length - 1:=by rw[Db,Ab]
 refine Tw (n:=ps.length - 1) (xs:=ps.map λp=>V.ref p.1) (ys:=(ps.map λp=>V.ref p.1).drop 1) (by rw[Ab];omega) (by rw[ld];exact Ae _) (.inr (by rw[ld];exact Ae _))
  (λi σ' ys H'=>(∃v w,σ'=[v,w])∧Same H1 H'∧H' p=some (.lst ys)∧ys=AA i (V.bl true)) ⟨⟨none,none,rfl⟩,s0,Hb,rfl⟩ ?_ ?_ ?_
 · rintro i σ' zs H' hi ⟨_,s,h1,h2⟩;refine⟨(s1.trans s).seqT (SqT.of ha),s.seqT q1,h1,?_⟩;rw[h2,Bk];exact HR (by omega)
 · rintro i x y σ' zs H' r N hx hy hr' ⟨⟨v,w',rfl⟩,s,h1,h2⟩ hN;rw[Ah] at hx;rw[Em,Ah,Nat.add_comm] at hy;cases e1:ps[i]? with
   | none=>rw[e1] at hx;cases hx
   | some P1=>
    cases e2:ps[i+1]? with
    | none=>rw[e2] at hy;cases hy
    | some P2=>
     rw[e1] at hx;rw[e2] at hy;obtain rfl:V.ref P1.1=x:=A7 hx;obtain rfl:V.ref P2.1=y:=A7 hy;have s3:=Hh hr' (.tup [V.ref P1.1,V.ref P2.1]);have t3:=(s1.trans s).trans s3;have f1:=t3 _ _ (hp P1 (Aq e1));have f2:=t3 _ _ (hp P2 (Aq e2));refine⟨r,_,rfl,SqT.of Hb,rfl,_,_,rfl,_,_,rfl,rfl,?_⟩;refine⟨_,rfl,P1.1,_,0,_,rfl,rfl,SqT.of f1,OT,_,rfl,P2.1,_,0,_,rfl,rfl,SqT.of f2,OT,_,_,rfl,rfl,?_⟩;rw[decide_eq_true (show P1.2.1.cps.toList<P2.2.1.cps.toList from hlt i P1 P2 e1 e2)];refine⟨s3 _ _ h1,hN _ _ _ ⟨⟨_,_,rfl⟩,?_,Hb,by rw[h2];exact By.symm⟩⟩;intro b o q';have:b≠p:=λz=>by rw[z,hp'] at q';cases q'
     rw[Hm this];exact s3 _ _ (s b o q')
 · rintro σ' zs H' ⟨_,s,h1,h2⟩;refine⟨p,AA (ps.length - 1) true,rfl,SqL.of (by rw[h1,h2,Cm]),?_⟩;have:(AA (ps.length - 1) true).all id=true:=by simp
   rw[this];exact q H' (s1.trans s)
theorem VA(F:Fun K "is_wish" "is_wish" Mr f fd)(Gs:Γ7 P w K mg base)(Gu:Γ5 P w K mg base):FnOk P w K mg base Hu 5 f fd ["thing"] (QE):=by
 refine F.ok VM (λvs H Q E h=>?_) (λcdv A outer s H vs Q E hr h=>?_)
 · obtain⟨a,w',rfl,hw,wok,q⟩:=h;rfl
 obtain⟨a,w',rfl,hw,wok,q⟩:=h;refine⟨_,(Hd (HG (Im (Ii (Hl (Ik (n:="")) rfl B.isinstance_ Ih (GW (pv 0) (GW (Ia (v:= .ty "tuple") rfl B.tuple_ J3 rfl) GX))))) (Hg (Ho Ij)) HF)
  (Hg (Ho (IM (Hl (Kg rfl) rfl B.all_ Ka (GW (IG (N':=["part"]) (js:=[none]) rfl (Ig (N:=["thing"]) (outer:=Hj Mr) (by decide+kernel)) (Lg (pv 0)) (λ_ _ _ _ _=>(Hq (i:=0) L6 rfl (Or.inl rfl))) (λ_ _ _ _ _=>IB) (λ_ _ _ _ _=>(Hf Gu (hr.mono (by decide)) rfl (GW (pv 0) GX)))) GX)) (IC (Hf Gs (hr.mono (by decide)) rfl (GW (pv 0) GX))))))),?_⟩
 obtain⟨ps,rfl,hA,hP⟩:=hw;have ll:ps.length≤100:=by have:=wok.len;rw[Ab] at this;exact this
 refine⟨_,rfl,_,"tuple","tuple",true,rfl,.tup hA,rfl,_,rfl,Ha ?_⟩;refine⟨_,rfl,a,rfl,⟨_,SqT.of hA⟩,λp hp=>?_⟩;refine Pw (xs:=ps.map λp=>V.ref p.1) (λi σ' ys H'=>(∃v,σ'=[v])∧Same H H'∧H' p=some (.lst ys)∧ys=AA i (V.bl true)) ⟨⟨none,rfl⟩,Hh hp _,Hb,rfl⟩ ?_ ?_ ?_
 · rintro i σ' ys H' hi ⟨_,s,h1,h2⟩;refine⟨s.seqT (SqT.of hA),h1,?_⟩;rw[h2,Bk];rw[Ab] at hi;exact HR (by omega)
 · rintro i x σ' ys H' N hx ⟨⟨v,rfl⟩,s,h1,h2⟩ hN;obtain⟨P1,e1,rfl⟩:=Ip hx;have hm:=Aq e1;obtain⟨o1,o2⟩:=wok.ok P1.2 (Bm hm);refine⟨_,rfl,P1.1,P1.2.1,P1.2.2.1,P1.2.2.2,rfl,s _ _ (hP P1 hm),o1,o2,λH2 s2=>?_⟩;refine⟨s2 _ _ h1,hN _ _ _ ⟨⟨_,rfl⟩,Jn (s.trans s2) hp,Hb,by rw[h2];exact By.symm⟩⟩
 · rintro σ' ys H' ⟨_,s,h1,h2⟩;refine⟨p,AA (ps.map λp=>V.ref p.1).length true,rfl,SqL.of (by rw[h1,h2,Cm]),_,rfl,?_⟩;rw[show(AA (ps.map λp=>V.ref p.1).length true).all id=true by simp];refine Hc ⟨_,rfl,a,ps.map (λp=>(p.1,p.2.1,[eV p.2.2.1,eV p.2.2.2])),rfl,?_,by rw[Ab];exact ll,?_,?_,λH2 s2=>q H2 (s.trans s2)⟩
   · rw[BK];exact s _ _ hA
   · intro r hr;rw[List.mem_map] at hr;obtain⟨P1,hm,rfl⟩:=hr;exact s _ _ (hP P1 hm)
   · intro i r1 r2 h3 h4;rw[Ah] at h3 h4;cases e1:ps[i]? with
     | none=>rw[e1] at h3;cases h3
     | some P1=>
      cases e2:ps[i+1]? with
      | none=>rw[e2] at h4;cases h4
      | some P2=> rw[e1] at h3;rw[e2] at h4;obtain rfl:=A7 h3;obtain rfl:=A7 h4;have l2:=(Am.mp e2).1;have:=BP.mp wok.asc i (i+1) (by simp;omega) (by simp;omega) (by omega);simp only[DE] at this;rw[(Am.mp e1).2,(Am.mp e2).2] at this;exact this
theorem W1(F:Fun K "is_piece" "is_piece" Ml f fd)(Gs:Γ7 P w K mg base)(Gv:Γ6 P w K mg base):FnOk P w K mg base Hu 3 f fd ["thing"] (Ri):=by
 refine F.ok WQ (λvs H Q E h=>?_) (λcdv A outer s H vs Q E hr h=>?_)
 · obtain⟨a,w',rfl,hw,wok,q⟩:=h;rfl
 obtain⟨a,w',rfl,hw,wok,q⟩:=h;refine⟨_,(Hd (HG (Im (Ii (Hl (Ik (n:="")) rfl B.isinstance_ Ih (GW (pv 0) (GW (Ia (v:= .ty "tuple") rfl B.tuple_ J3 rfl) GX))))) (Hg (Ho Ij)) HF)
  (Hg (Ho (IM (Hl (Kg rfl) rfl B.all_ Ka (GW (IG (N':=["part"]) (js:=[none]) rfl (Ig (N:=["thing"]) (outer:=Hj Ml) (by decide+kernel)) (Lg (pv 0)) (λ_ _ _ _ _=>(Hq (i:=0) L6 rfl (Or.inl rfl))) (λ_ _ _ _ _=>IB) (λ_ _ _ _ _=>(Hf Gv (hr.mono (by decide)) rfl (GW (pv 0) GX)))) GX)) (IC (Hf Gs (hr.mono (by decide)) rfl (GW (pv 0) GX))))))),?_⟩
 obtain⟨ps,rfl,hA,hP⟩:=hw;have ll:ps.length≤100:=by have:=wok.len;rw[Ab] at this;exact this
 refine⟨_,rfl,_,"tuple","tuple",true,rfl,.tup hA,rfl,_,rfl,Ha ?_⟩;refine⟨_,rfl,a,rfl,⟨_,SqT.of hA⟩,λp hp=>?_⟩;refine Pw (xs:=ps.map λp=>V.ref p.1) (λi σ' ys H'=>(∃v,σ'=[v])∧Same H H'∧H' p=some (.lst ys)∧ys=AA i (V.bl true)) ⟨⟨none,rfl⟩,Hh hp _,Hb,rfl⟩ ?_ ?_ ?_
 · rintro i σ' ys H' hi ⟨_,s,h1,h2⟩;refine⟨s.seqT (SqT.of hA),h1,?_⟩;rw[h2,Bk];rw[Ab] at hi;exact HR (by omega)
 · rintro i x σ' ys H' N hx ⟨⟨v,rfl⟩,s,h1,h2⟩ hN;obtain⟨P1,e1,rfl⟩:=Ip hx;have hm:=Aq e1;have o1:=wok.ok P1.2 (Bm hm);refine⟨_,rfl,P1.1,P1.2.1,P1.2.2,rfl,s _ _ (hP P1 hm),o1,λH2 s2=>?_⟩;refine⟨s2 _ _ h1,hN _ _ _ ⟨⟨_,rfl⟩,Jn (s.trans s2) hp,Hb,by rw[h2];exact By.symm⟩⟩
 · rintro σ' ys H' ⟨_,s,h1,h2⟩;refine⟨p,AA (ps.map λp=>V.ref p.1).length true,rfl,SqL.of (by rw[h1,h2,Cm]),_,rfl,?_⟩;rw[show(AA (ps.map λp=>V.ref p.1).length true).all id=true by simp];refine Hc ⟨_,rfl,a,ps.map (λp=>(p.1,p.2.1,[V.int p.2.2])),rfl,?_,by rw[Ab];exact ll,?_,?_,λH2 s2=>q H2 (s.trans s2)⟩
   · rw[BK];exact s _ _ hA
   · intro r hr;rw[List.mem_map] at hr;obtain⟨P1,hm,rfl⟩:=hr;exact s _ _ (hP P1 hm)
   · intro i r1 r2 h3 h4;rw[Ah] at h3 h4;cases e1:ps[i]? with
     | none=>rw[e1] at h3;cases h3
     | some P1=>
      cases e2:ps[i+1]? with
      | none=>rw[e2] at h4;cases h4
      | some P2=> rw[e1] at h3;rw[e2] at h4;obtain rfl:=A7 h3;obtain rfl:=A7 h4;have l2:=(Am.mp e2).1;have:=BP.mp wok.asc i (i+1) (by simp;omega) (by simp;omega) (by omega);simp only[DE] at this;rw[(Am.mp e1).2,(Am.mp e2).2] at this;exact this
theorem XD(F:Fun K "check_piece" "check_piece" Oa f fd)(Gw:Γ9 P w K mg base):FnOk P w K mg base Hu 4 f fd ["thing"] (RP):=by
 refine F.ok X7 (λvs H Q E h=>?_) (λcdv A outer s H vs Q E hr h=>?_)
 · obtain⟨a,w',rfl,hw,wok,q⟩:=h;rfl
 obtain⟨a,w',rfl,hw,wok,q⟩:=h;refine⟨_,(Hg (HG (Im (Ii (Hf Gw (hr.mono (by decide)) rfl (GW (pv 0) GX)))) (Hg Nt) HF)),?_⟩;exact⟨_,rfl,a,w',rfl,hw,wok,λH' s=>⟨_,rfl,Ha (q H' s)⟩⟩
theorem Xq(F:Fun K "are_wishes" "are_wishes" Mz f fd)(Gx:Γ8 P w K mg base):FnOk P w K mg base Hu 6 f fd ["thing"] (Qs):=by
 refine F.ok Xk (λvs H Q E h=>?_) (λcdv A outer s H vs Q E hr h=>?_)
 · obtain⟨l,ws,rfl,hw,q⟩:=h;rfl
 obtain⟨l,ws,rfl,hw,q⟩:=h;refine⟨_,(Hg (Ho (IM (Hl (Ik (n:="")) rfl B.isinstance_ Ih (GW (pv 0) (GW (Ia (v:= .ty "list") rfl B.list_ Jc rfl) GX))) (IC (Hl (Kg rfl) rfl B.all_ Ka (GW (IG (N':=["wish"]) (js:=[none]) rfl (Ig (N:=["thing"]) (outer:=Hj Mz) (by decide+kernel)) (II (pv 0)) (λ_ _ _ _ _=>(Hq (i:=0) OE rfl (Or.inl rfl))) (λ_ _ _ _ _=>IB) (λ_ _ _ _ _=>(Hf Gx (hr.mono (by decide)) rfl (GW (pv 0) GX)))) GX)))))),?_⟩;have hA:=hw.at';refine⟨_,rfl,_,"list","list",true,rfl,.lst hA,rfl,_,rfl,Hc ?_⟩;refine⟨_,rfl,l,rfl,⟨_,SqL.of hA⟩,λp hp=>?_⟩;refine Kd (xs:=ws.map λx=>V.ref x.1) (λi σ' ys H'=>(∃v,σ'=[v])∧Same H H'∧H' p=some (.lst ys)∧ys=AA i (V.bl true)) ⟨⟨none,rfl⟩,Hh hp _,Hb,rfl⟩ ?_ ?_ ?_
 · rintro i σ' ys H' hi ⟨_,s,h1,h2⟩;refine⟨s.seq (SqL.of hA),h1,?_⟩;rw[h2,Bk];rw[Ab] at hi;have:=hw.len;exact HR (by omega)
 · rintro i x σ' ys H' N hx ⟨⟨v,rfl⟩,s,h1,h2⟩ hN;obtain⟨P1,e1,rfl⟩:=Ip hx;obtain⟨o1,o2⟩:=hw.ok P1 (Aq e1);refine⟨_,rfl,P1.1,P1.2,rfl,o1.same s,o2,λH2 s2=>?_⟩;refine⟨s2 _ _ h1,hN _ _ _ ⟨⟨_,rfl⟩,Jn (s.trans s2) hp,Hb,by rw[h2];exact By.symm⟩⟩
 · rintro σ' ys H' ⟨_,s,h1,h2⟩;refine⟨p,AA (ws.map λx=>V.ref x.1).length true,rfl,SqL.of (by rw[h1,h2,Cm]),?_⟩;rw[show(AA (ws.map λx=>V.ref x.1).length true).all id=true by simp];exact q _ s
theorem XE(F:Fun K "are_unlike_wishes" "are_unlike_wishes" Ol f fd)(Gy:Γ11 P w K mg base):FnOk P w K mg base Hu 7 f fd ["thing"] (QI):=by
 refine F.ok XF (λvs H Q E h=>?_) (λcdv A outer s H vs Q E hr h=>?_)
 · obtain⟨l,ws,rfl,hw,nd,le,q⟩:=h;rfl
 obtain⟨l,ws,rfl,hw,nd,le,q⟩:=h;refine⟨_,(Hg (Ho (IM (Hf Gy (hr.mono (by decide)) rfl (GW (pv 0) GX)) (IC (J6 IF (VC (K0 hr) rfl (pv 0) rfl B.len_ rfl B.set_) (Hl HY rfl B.len_ HN (GW (pv 0) GX)) (Hz _)))))),?_⟩;refine⟨_,rfl,l,ws,rfl,hw,λH1 s1=>?_⟩;have hw1:=hw.same s1;refine⟨_,rfl,Hc ?_⟩;refine⟨_,rfl,l,ws,rfl,hw1,nd,le,_,rfl,l,_,rfl,.inl (SqL.of hw1.at'),rfl,?_⟩;rw[Ab,decide_eq_true rfl];exact q H1 s1
theorem Xx(F:Fun K "wish_takes" "wish_takes" M2 f fd)(Gz:Γ3 P w K mg base):FnOk P w K mg base Hu 2 f fd ["wish","piece"] (LY):=by
 refine F.ok FT (λvs H Q E h=>?_) (λcdv A outer s H vs Q E hr h=>?_)
 · obtain⟨a,b,w',p,rfl,hw,hp,pok,q⟩:=h;rfl
 obtain⟨a,b,w',p,rfl,hw,hp,pok,q⟩:=h;refine⟨_,(Hd (Va (N':=["field","number"]) (js:=[none,none]) (i:=2) FT.nd rfl (Or.inl rfl) rfl (Ig (N:=["wish","piece","numbers","field","low","high"]) (outer:=Hj M2) (by decide+kernel)) (Lg (pv 1)) (λ_ _ _ _ _=>(KQ K rfl (n:=2) rfl (HH (Hq (i:=0) L5 rfl (Or.inl rfl)) (HH (Hq (i:=1) L5 rfl (Or.inl rfl)) IR)))) (λ_ _ _ _ _=>IB) (λ_ _ _ _ _=>(pv 0)) (λ_ _ _ _ _=>(pv 1)))
  (Hd (Jg Bz rfl (Lg (pv 0)) (J2 rfl (HH (Hq (i:=3) FT.nd rfl (Or.inl rfl)) (HH (Hq (i:=4) FT.nd rfl (Or.inl rfl)) (HH (Hq (i:=5) FT.nd rfl (Or.inl rfl)) IR)))) (Hg (HG (PW.pt (IU (KN (Ra (Ld hr) (pv 3) (pv 2)) (by with_unfolding_all rfl)) (IV (Im (Ii (Hf Gz (hr.mono (by decide)) rfl (GW (Iu (GW (pv 4) (GW (pv 5) GX))) (GW (Nf (Ld hr) (pv 2) (pv 3) (λ_ _=>rfl)) GX)))))))) (Hg (Ho Ij)) HF)))
  (Hg (Ho Ij)))),?_⟩
 obtain⟨ps,rfl,hA,hP⟩:=hp;have ll:ps.length≤100:=by have:=pok.len;rw[Ab] at this;exact this
 refine⟨_,rfl,b,rfl,⟨_,SqT.of hA⟩,λd hd=>?_⟩;refine Tk (xs:=ps.map λp=>V.ref p.1) (λi σ' kvs H'=>(∃v1 v2,σ'=[v1,v2])∧Same H H'∧H' d=some (.dK kvs)∧kvs.length≤i∧∀f:Str,Hv kvs (.inr f)=(IL ((ps.map (·.2)).take i) f).map V.int) ⟨⟨none,none,rfl⟩,Hh hd _,Hb,Br _,λf=>rfl⟩ ?_ ?_ ?_
 · rintro i σ' kvs H' hi ⟨_,s,h1,h2,_⟩;rw[Ab] at hi;exact⟨s.seqT (SqT.of hA),h1,HR (by omega)⟩
 · rintro i x σ' kvs H' N hx ⟨⟨v1,v2,rfl⟩,s,h1,h2,h3⟩ hN;obtain⟨P1,e1,rfl⟩:=Ip hx;have hm:=Aq e1;refine⟨P1.1,_,rfl,SqT.of (s _ _ (hP P1 hm)),rfl,_,_,rfl,_,_,rfl,rfl,?_⟩;refine⟨_,rfl,_,rfl,Sum.inr P1.2.1,rfl,h1,hN _ _ _ ⟨⟨_,_,rfl⟩,Jn s hd,Hb,?_,λf=>?_⟩⟩
   · have:=NT kvs (Sum.inr P1.2.1:Hs) (V.int P1.2.2);omega
   · have ew:(ps.map (·.2))[i]?=some P1.2:=by rw[Ah,e1];rfl
     have fr:=pok.fresh ew;rw[JL ew,Rz _ _ _ fr,QM];by_cases hf:f=P1.2.1
     · subst hf;rw[if_pos rfl,if_pos rfl];rfl
     · rw[if_neg hf,if_neg (λz=>hf (by injection z))];exact h3 f
 · rintro σ' kvs H1 ⟨_,s1,h1,h2,h3⟩;have et:(ps.map (·.2)).take (ps.map λp=>V.ref p.1).length=ps.map (·.2):=AZ (by simp);rw[et] at h3;obtain⟨ws,rfl,hB,hW⟩:=hw.same s1;refine⟨_,rfl,a,rfl,⟨_,SqT.of hB⟩,Qh (K:=K) (a:=a) (xs:=ws.map λp=>V.ref p.1) (λi σ H'=>(∃y3 y4 y5,σ=[some (.ref a),some (.ref b),some (.ref d),y3,y4,y5])∧Same H1 H'∧IH ((ws.map (·.2)).take i) (ps.map (·.2))=true) ⟨⟨none,none,none,rfl⟩,Same.refl _,rfl⟩ (λi σ H' _ ⟨_,s,_⟩=>s.seqT (SqT.of hB)) ?_ ?_⟩
   · rintro i x σ H' hx ⟨⟨y2,y3,y4,rfl⟩,s,hr'⟩;obtain⟨P1,e1,rfl⟩:=Ip hx;have hm:=Aq e1;have ew:(ws.map (·.2))[i]?=some P1.2:=by rw[Ah,e1];rfl
     have k1:=s _ _ h1;have kf:=h3 P1.2.1;refine⟨P1.1,_,rfl,SqT.of (s _ _ (hW P1 hm)),rfl,_,_,rfl,_,_,rfl,_,_,rfl,rfl,?_⟩;have out:Kc (ps.map (·.2)) P1.2=false→IH (ws.map (·.2)) (ps.map (·.2))=false:=λh=>RU (Bm hm) h;refine⟨_,rfl,_,rfl,d,_,rfl,DGet.k (k:=Sum.inr P1.2.1) k1,_,rfl,?_⟩;cases hs:IL (ps.map (·.2)) P1.2.1 with
     | none=> rw[hs] at kf;rw[kf];refine Hc ?_;have o1:=out (RE hs);rw[o1] at q;exact q _ (s1.trans s)
     | some n=>
      rw[hs] at kf;rw[kf];refine Ha ⟨_,rfl,_,rfl,HX,λu hu=>?_⟩;have su:=Hh hu (.tup [eV P1.2.2.1,eV P1.2.2.2]);have gd:DGet (GY H' u (.tup [eV P1.2.2.1,eV P1.2.2.2])) d (.str P1.2.1) (some (.int n)):=by have:=DGet.k (k:=Sum.inr P1.2.1) (su _ _ k1);rw[kf] at this;exact this
      refine⟨_,rfl,_,rfl,d,_,rfl,gd,.ref u,P1.2.2.1,P1.2.2.2,n,rfl,⟨u,rfl,Hb⟩,_,rfl,?_⟩;cases hb:Iw P1.2.2.1 P1.2.2.2 n with
      | false=> refine Hc ?_;have o1:=out ((NI hs).trans hb);rw[o1] at q;exact q _ (s1.trans (s.trans su))
      | true=> refine Ha ⟨⟨_,_,_,rfl⟩,s.trans su,?_⟩;rw[JL ew];unfold IH at*;rw[List.all_append,hr',E1,C2,List.all_nil,NI hs,hb];rfl
   · rintro σ H' ⟨_,s,hr'⟩;rw[show(ws.map (·.2)).take (ws.map λp=>V.ref p.1).length=ws.map (·.2) from AZ (by simp)] at hr';rw[hr'] at q;exact q _ (s1.trans s)
theorem WI(F:Fun K "one_takes" "one_takes" Mw f fd)(G0:Γ13 P w K mg base):FnOk P w K mg base Hu 3 f fd ["wishes","piece"] (RS):=by
 refine F.ok WN (λvs H Q E h=>?_) (λcdv A outer s H vs Q E hr h=>?_)
 · obtain⟨l,c,ws,p,rfl,hw,hp,pok,q⟩:=h;rfl
 obtain⟨l,c,ws,p,rfl,hw,hp,pok,q⟩:=h;refine⟨_,(Hg (Ho (Hl (QQ rfl) rfl B.any_ Pn (GW (IG (N':=["wish","piece"]) (js:=[none,some 1]) rfl (Ig (N:=["wishes","piece"]) (outer:=Hj Mw) (by decide+kernel)) (II (pv 0)) (λ_ _ _ _ _=>(Hq (i:=0) L4 rfl (Or.inl rfl))) (λ_ _ _ _ _=>IB) (λ_ _ _ _ _=>(Hf G0 (hr.mono (by decide)) rfl (GW (pv 0) (GW (pv 1) GX))))) GX)))),?_⟩;refine⟨_,rfl,l,rfl,⟨_,SqL.of hw.at'⟩,λr hr=>?_⟩;refine Kd (xs:=ws.map λx=>V.ref x.1) (λi σ' ys H'=>(∃v,σ'=[v,some (.ref c)])∧Same H H'∧H' r=some (.lst ys)∧ys=((ws.take i).map λw=>IH w.2 p).map V.bl) ⟨⟨none,rfl⟩,Hh hr _,Hb,rfl⟩ ?_ ?_ ?_
 · rintro i σ' ys H' hi ⟨_,s,h1,h2⟩;refine⟨SqL.of (s _ _ hw.at'),h1,?_⟩;rw[h2,Ab,Ab,AC];have:=hw.len;exact HR (by omega)
 · rintro i x σ' ys H' N hx ⟨⟨v,rfl⟩,s,h1,h2⟩ hN;rw[Ah] at hx;cases e1:ws[i]? with
   | none=>rw[e1] at hx;cases hx
   | some w1=>
    rw[e1] at hx;cases hx;refine⟨_,rfl,_,rfl,w1.1,c,w1.2,p,rfl,((hw.ok w1 (Aq e1)).1).same s,hp.same s,pok,λH2 s2=>⟨s2 _ _ h1,hN _ _ _ ⟨⟨_,rfl⟩,?_,Hb,?_⟩⟩⟩
    · exact Jn (s.trans s2) hr
    · rw[h2,JL e1,Au,Au];rfl
 · rintro σ' ys H' ⟨_,s,h1,h2⟩;rw[Ab,Bt] at h2;subst h2;refine⟨r,_,rfl,SqL.of h1,?_⟩;have:(ws.map λw=>IH w.2 p).any id=IZ ws p:=by
    rw[Du];rfl
   rw[this];exact q H' s
theorem V7(F:Fun K "is_name" "is_name" NB f fd)(Gq:Γ4 P w K mg base):FnOk P w K mg base Hu 2 f fd ["thing"] (LX):=by
 refine F.ok VJ (λvs H Q E h=>?_) (λcdv A outer s H vs Q E hr h=>?_)
 · obtain⟨x,rfl,hx,q⟩:=h;rfl
 obtain⟨x,rfl,hx,q⟩:=h;refine⟨_,(Hg (Ho (Hf Gq (hr.mono (by decide)) rfl (GW (pv 0) GX)))),?_⟩;exact⟨_,rfl,x,rfl,hx,λH' s=>q H' s⟩
theorem Vf(F:Fun K "is_web" "is_web" Mh f fd)(Go:Γ0 P w K mg base):FnOk P w K mg base Hu 2 f fd ["thing"] (Qt):=by
 refine F.ok Wk (λvs H Q E h=>?_) (λcdv A outer s H vs Q E hr h=>?_)
 · obtain⟨a,W,rfl,⟨ha,hW⟩,q⟩:=h;rfl
 obtain⟨a,W,rfl,⟨ha,hW⟩,q⟩:=h;refine⟨_,(Hd (HG (PW.pt (IU (Im (Ii (Hl (Ik (n:="")) rfl B.isinstance_ Ih (GW (pv 0) (GW (Ia (v:= .ty "list") rfl B.list_ Jc rfl) GX))))) (IV (HI KI (Hl HY rfl B.len_ HN (GW (pv 0) GX)) (Mc (v:= .int 23) rfl qMR' ⟨_,rfl⟩) (Hz _))))) (Hg (Ho Ij)) HF)
  (Hg (Ho (Hl (Kg rfl) rfl B.all_ Ka (GW (IG (N':=["at","post"]) (js:=[none,none]) rfl (Ig (N:=["thing"]) (outer:=Hj Mh) (by decide+kernel)) (Um rfl B.enumerate_ (GW (pv 0) GX)) (λ_ _ _ _ _=>(KQ K rfl (n:=2) rfl (HH (Hq (i:=0) L3 rfl (Or.inl rfl)) (HH (Hq (i:=1) L3 rfl (Or.inl rfl)) IR)))) (λ_ _ _ _ _=>IB) (λ_ _ _ _ _=>(IM (Hf Go (hr.mono (by decide)) rfl (GW (pv 1) GX)) (IC (Nq Jz Jz G_ (pv 1) (pv 0)))))) GX))))),?_⟩
 have h23:¬(23:Int)<((W.map V.int).length:Int):=by rw[Ab];have:=hW.1;omega
 refine⟨_,rfl,_,"list","list",true,rfl,.lst ha,rfl,_,rfl,Ha ⟨_,rfl,a,_,rfl,.inl (SqL.of ha),_,_,rfl,rfl,_,rfl,?_⟩⟩;rw[decide_eq_false h23];refine Ha ⟨_,rfl,a,rfl,⟨_,SqL.of ha⟩,λp hp=>?_⟩;have s0:=Hh hp (.lst []);refine Ug (xs:=W.map V.int) (λi σ' ys H'=>(∃v w,σ'=[v,w])∧Same H H'∧H' p=some (.lst ys)∧ys=AA i (V.bl true)) ⟨⟨none,none,rfl⟩,s0,Hb,rfl⟩ ?_ ?_ ?_
 · rintro i σ' ys H' hi ⟨_,s,h1,h2⟩;refine⟨SqL.of (s _ _ ha),h1,?_⟩;rw[h2,Bk];rw[Ab] at hi;have:=hW.1;exact HR (by omega)
 · rintro i y r σ' ys H' N hy hr' ⟨⟨v,w',rfl⟩,s,h1,h2⟩ hN;rw[Ah] at hy;cases e1:W[i]? with
   | none=>rw[e1] at hy;cases hy
   | some n=>
    rw[e1] at hy;obtain rfl:V.int n=y:=A7 hy;obtain⟨n0,n1⟩:=hW.2 i n e1;have s3:=Hh hr' (.tup [V.int i,V.int n]);refine⟨r,_,rfl,SqT.of Hb,rfl,_,_,rfl,_,_,rfl,rfl,?_⟩;refine⟨_,rfl,.int n,"int",rfl,.int n,_,rfl,Hc ⟨_,rfl,_,_,rfl,rfl,_,rfl,?_⟩⟩;rw[decide_eq_true n0];refine Hc ⟨_,rfl,_,_,rfl,rfl,?_⟩;dsimp only;rw[decide_eq_true n1];refine⟨s3 _ _ h1,hN _ _ _ ⟨⟨_,_,rfl⟩,?_,Hb,by rw[h2];exact By.symm⟩⟩;intro b o q';have:b≠p:=λz=>by rw[z,hp] at q';cases q'
    rw[Hm this];exact s3 _ _ (s b o q')
 · rintro σ' ys H' ⟨_,s,h1,h2⟩;refine⟨p,AA (W.map V.int).length true,rfl,SqL.of (by rw[h1,h2,Cm]),?_⟩;have:(AA (W.map V.int).length true).all id=true:=by simp
   rw[this];exact q H' s
theorem WF(F:Fun K "check_web" "check_web" NF f fd)(G1:Γ16 P w K mg base):FnOk P w K mg base Hu 3 f fd ["thing"] (QB):=by
 refine F.ok WM (λvs H Q E h=>?_) (λcdv A outer s H vs Q E hr h=>?_)
 · obtain⟨a,W,rfl,hw,q⟩:=h;rfl
 obtain⟨a,W,rfl,hw,q⟩:=h;refine⟨_,(Hg (HG (Im (Ii (Hf G1 (hr.mono (by decide)) rfl (GW (pv 0) GX)))) (Hg Nt) HF)),?_⟩;exact⟨_,rfl,a,W,rfl,hw,λH' s=>⟨_,rfl,Ha (q H' s)⟩⟩
theorem V8(F:Fun K "is_post" "is_post" NC f fd)(Go:Γ0 P w K mg base):FnOk P w K mg base Hu 2 f fd ["web","thing"] (QC):=by
 refine F.ok VL (λvs H Q E h=>?_) (λcdv A outer s H vs Q E hr h=>?_)
 · obtain⟨a,W,p,rfl,⟨ha,hW⟩,⟨p0,p1⟩,q⟩:=h;rfl
 obtain⟨a,W,p,rfl,⟨ha,hW⟩,⟨p0,p1⟩,q⟩:=h;refine⟨_,(Hg (Ho (IM (Hf Go (hr.mono (by decide)) rfl (GW (pv 1) GX)) (IC (Nq Jz Jz G_ (pv 1) (Hl HY rfl B.len_ HN (GW (pv 0) GX))))))),?_⟩;refine⟨_,rfl,.int p,"int",rfl,.int p,_,rfl,Hc ⟨_,rfl,_,_,rfl,rfl,_,rfl,?_⟩⟩;rw[decide_eq_true p0];refine Hc ⟨_,rfl,a,_,rfl,.inl (SqL.of ha),_,_,rfl,rfl,?_⟩;dsimp only;rw[decide_eq_true (by rw[Ab];exact p1)];exact q
theorem W2(F:Fun K "is_stand" "is_stand" NX f fd)(G2:Γ15 P w K mg base)(G3:Γ18 P w K mg base)(G4:Γ12 P w K mg base):FnOk P w K mg base Hu 8 f fd ["web","thing"] (Rj):=by
 refine F.ok FU (λvs H Q E h=>?_) (λcdv A outer s H vs Q E hr h=>?_)
 · obtain⟨a,W,x,rfl,hW,hx,q⟩:=h;rfl
 obtain⟨a,W,x,rfl,hW,hx,q⟩:=h;refine⟨_,(Hd (HG (PW.pt (IU (Im (Ii (Hl (Ik (n:="")) rfl B.isinstance_ Ih (GW (pv 1) (GW (Ia (v:= .ty "tuple") rfl B.tuple_ J3 rfl) GX))))) (IV (HI Ku (Hl HY rfl B.len_ HN (GW (pv 1) GX)) G_ (Hz _))))) (Hg (Ho Ij)) HF)
  (Hd (JE (pv 1) (J2 rfl (HH (Hq (i:=2) FU.nd rfl (Or.inl rfl)) (HH (Hq (i:=3) FU.nd rfl (Or.inl rfl)) (HH (Hq (i:=4) FU.nd rfl (Or.inl rfl)) IR)))))
  (Hg (Ho (IM (Hf G2 (hr.mono (by decide)) rfl (GW (pv 2) GX)) (IM (Hf G3 (hr.mono (by decide)) rfl (GW (pv 0) (GW (pv 3) GX))) (IM (Hf G4 (hr.mono (by decide)) rfl (GW (pv 4) GX)) (IC (J6 Jz (Hl HY rfl B.len_ HN (GW (pv 4) GX)) (Mc (v:= .int 10) rfl qMW' ⟨_,rfl⟩) (Hz _)))))))))),?_⟩
 refine⟨_,rfl,_,"tuple","tuple",true,rfl,.tup hx.at',rfl,_,rfl,Ha ⟨_,rfl,x.a,_,rfl,.inr (SqT.of hx.at'),rfl,_,rfl,?_⟩⟩;refine Ha ⟨_,rfl,x.a,_,rfl,SqT.of hx.at',rfl,_,_,rfl,_,_,rfl,_,_,rfl,rfl,?_⟩;refine⟨_,rfl,x.hand,rfl,hx.name,λH1 s1=>⟨_,rfl,Hc ⟨_,rfl,_,rfl,a,W,x.post,rfl,⟨s1 _ _ hW.1,hW.2⟩,hx.post,_,rfl,Hc ?_⟩⟩⟩;refine⟨_,rfl,x.l,x.ws,rfl,hx.ws.same s1,hx.nd,by have:=hx.few;omega,λH2 s2=>⟨_,rfl,Hc ⟨_,rfl,x.l,_,rfl,.inl (SqL.of ((hx.ws.same s1).same s2).at'),_,_,rfl,rfl,?_⟩⟩⟩;dsimp only;rw[decide_eq_true (by have:=hx.few;rw[Ab];omega)];exact q H2 (s1.trans s2)
theorem Xp(F:Fun K "are_stands" "are_stands" Ln f fd)(G5:Γ19 P w K mg base):FnOk P w K mg base Hu 9 f fd ["web","thing"] (RN):=by
 refine F.ok Xj (λvs H Q E h=>?_) (λcdv A outer s H vs Q E hr h=>?_)
 · obtain⟨a,l,W,xs,rfl,hW,hx,q⟩:=h;rfl
 obtain⟨a,l,W,xs,rfl,hW,hx,q⟩:=h;refine⟨_,(Hd (HG (PW.pt (IU (Im (Ii (Hl (Ik (n:="")) rfl B.isinstance_ Ih (GW (pv 1) (GW (Ia (v:= .ty "list") rfl B.list_ Jc rfl) GX))))) (IV (HI KI (Hl HY rfl B.len_ HN (GW (pv 1) GX)) (Mc (v:= .int 30) rfl qMH' ⟨_,rfl⟩) (Hz _))))) (Hg (Ho Ij)) HF)
  (Hd (HG (Im (Ii (Hl (Kg rfl) rfl B.all_ Ka (GW (IG (N':=["stand","web"]) (js:=[none,some 0]) rfl (Ig (N:=["web","thing"]) (outer:=Hj Ln) (by decide+kernel)) (II (pv 1)) (λ_ _ _ _ _=>(Hq (i:=0) OD rfl (Or.inl rfl))) (λ_ _ _ _ _=>IB) (λ_ _ _ _ _=>(Hf G5 (hr.mono (by decide)) rfl (GW (pv 1) (GW (pv 0) GX))))) GX)))) (Hg (Ho Ij)) HF)
  (Hg (Ho (J6 IF (UX (N':=["hand","place","wishes"]) (js:=[none,none,none]) rfl (Ig (N:=["web","thing"]) (outer:=Hj Ln) (by decide+kernel)) (II (pv 1)) (λ_ _ _ _ _=>(KQ K rfl (n:=3) rfl (HH (Hq (i:=0) K7 rfl (Or.inl rfl)) (HH (Hq (i:=1) K7 rfl (Or.inl rfl)) (HH (Hq (i:=2) K7 rfl (Or.inl rfl)) IR))))) (λ_ _ _ _ _=>IB) (λ_ _ _ _ _=>(pv 0)) rfl B.len_) (Hl HY rfl B.len_ HN (GW (pv 1) GX)) (Hz _)))))),?_⟩
 have h30:¬(30:Int)<((xs.map λx=>V.ref x.a).length:Int):=by rw[Ab];have:=hx.len;omega
 refine⟨_,rfl,_,"list","list",true,rfl,.lst hx.at',rfl,_,rfl,Ha ⟨_,rfl,l,_,rfl,.inl (SqL.of hx.at'),_,_,rfl,rfl,_,rfl,?_⟩⟩;rw[decide_eq_false h30];refine Ha ⟨_,rfl,l,rfl,⟨_,SqL.of hx.at'⟩,λr hr=>?_⟩;refine Kd (xs:=xs.map λx=>V.ref x.a) (λi σ' ys H'=>(∃v,σ'=[v,some (.ref a)])∧Same H H'∧H' r=some (.lst ys)∧ys=AA i (V.bl true)) ⟨⟨none,rfl⟩,Hh hr _,Hb,rfl⟩ ?_ ?_ ?_
 · rintro i σ' ys H' hi ⟨_,s,h1,h2⟩;refine⟨SqL.of (s _ _ hx.at'),h1,?_⟩;rw[h2,Bk];rw[Ab] at hi;have:=hx.len;exact HR (by omega)
 · rintro i y σ' ys H' N hy ⟨⟨v,rfl⟩,s,h1,h2⟩ hN;rw[Ah] at hy;cases e1:xs[i]? with
   | none=>rw[e1] at hy;cases hy
   | some x1=>
    rw[e1] at hy;cases hy;refine⟨_,rfl,_,rfl,a,W,x1,rfl,⟨s _ _ hW.1,hW.2⟩,(hx.ok x1 (Aq e1)).same s,λH2 s2=>⟨s2 _ _ h1,hN _ _ _ ⟨⟨_,rfl⟩,?_,Hb,?_⟩⟩⟩
    · exact Jn (s.trans s2) hr
    · rw[h2,By]
 · rintro σ' ys H' ⟨_,s,h1,h2⟩;rw[Ab] at h2;refine⟨r,AA xs.length true,rfl,SqL.of (by rw[h1,h2,Cm]),_,rfl,?_⟩;rw[show(AA xs.length true).all id=true by simp];refine Ha ?_;have hx':=hx.same s;refine⟨_,rfl,l,rfl,⟨_,SqL.of hx'.at'⟩,λz hz=>?_⟩;refine TJ (xs:=xs.map λx=>V.ref x.a) (λi σ' ks H2=>(∃v1 v2 v3,σ'=[v1,v2,v3])∧Same H' H2∧ks=(xs.map (·.hand)).take i) (λφ=>⟨⟨none,none,none,rfl⟩,Hh hz _,rfl⟩) ?_ ?_ ?_
   · rintro i σ' ks H2 hi ⟨_,s2,rfl⟩;refine⟨SqL.of (s2 _ _ hx'.at'),?_⟩;rw[AC,Ab];have:=hx.len;omega
   · rintro i y σ' ks H2 N hy ⟨⟨v1,v2,v3,rfl⟩,s2,rfl⟩ hN;rw[Ah] at hy;cases e1:xs[i]? with
     | none=>rw[e1] at hy;cases hy
     | some x1=> rw[e1] at hy;cases hy;have h1:=(hx'.ok x1 (Aq e1)).same s2;refine⟨x1.a,_,rfl,SqT.of h1.at',rfl,_,_,rfl,_,_,rfl,_,_,rfl,rfl,?_⟩;exact⟨_,rfl,x1.hand,rfl,rfl,λφ=>hN _ _ _ ⟨⟨_,_,_,rfl⟩,Jn s2 hz,Vj hx.nd e1⟩⟩
   · rintro σ' ks H2 ⟨_,s2,rfl⟩;refine⟨_,rfl,l,_,rfl,.inl (SqL.of (s2 _ _ hx'.at')),rfl,?_⟩;rw[AC,Ab,Ab,Nat.min_self,decide_eq_true rfl];exact q H2 (s.trans s2)
theorem XA(F:Fun K "check_stands" "check_stands" Oc f fd)(G6:Γ17 P w K mg base)(G7:Γ20 P w K mg base):FnOk P w K mg base Hu 10 f fd ["web","stands"] (R9):=by
 refine F.ok XC (λvs H Q E h=>?_) (λcdv A outer s H vs Q E hr h=>?_)
 · obtain⟨a,l,W,xs,rfl,hW,hx,q⟩:=h;rfl
 obtain⟨a,l,W,xs,rfl,hW,hx,q⟩:=h;refine⟨_,(Hd (Jm (Hf G6 (hr.mono (by decide)) rfl (GW (pv 0) GX)))
  (Hg (HG (Im (Ii (Hf G7 (hr.mono (by decide)) rfl (GW (pv 0) (GW (pv 1) GX))))) (Hg Nt) HF))),?_⟩
 refine⟨_,rfl,a,W,rfl,hW,λH1 s1=>?_⟩;dsimp only;exact⟨_,rfl,_,rfl,a,l,W,xs,rfl,⟨s1 _ _ hW.1,hW.2⟩,hx.same s1,λH2 s2=>⟨_,rfl,Ha (q H2 (s1.trans s2))⟩⟩
theorem Xg(F:Fun K "who_gets" "who_gets" Mn f fd)(G8:Γ21 P w K mg base)(G9:Γ10 P w K mg base)(GA:Γ14 P w K mg base):FnOk P w K mg base Hu 11 f fd ["web","stands","piece"] (Rk):=by
 refine F.ok WS (λvs H Q E h=>?_) (λcdv A outer s H vs Q E hr h=>?_)
 · obtain⟨a,l,c,W,xs,p,rfl,hW,hx,hp,pok,q⟩:=h;rfl
 obtain⟨a,l,c,W,xs,p,rfl,hW,hx,hp,pok,q⟩:=h;refine⟨_,(Hd (Jm (Hf G8 (hr.mono (by decide)) rfl (GW (pv 0) (GW (pv 1) GX))))
  (Hd (Jm (Hf G9 (hr.mono (by decide)) rfl (GW (pv 2) GX)))
  (Hg (Ho (Hl NJ rfl B.sorted_ Mp (GW (IG (N':=["hand","place","wishes","piece"]) (js:=[none,none,none,some 2]) rfl (Ig (N:=["web","stands","piece"]) (outer:=Hj Mn) (by decide+kernel)) (II (pv 1)) (λ_ _ _ _ _=>(KQ K rfl (n:=3) rfl (HH (Hq (i:=0) K6 rfl (Or.inl rfl)) (HH (Hq (i:=1) K6 rfl (Or.inl rfl)) (HH (Hq (i:=2) K6 rfl (Or.inl rfl)) IR))))) (λ_ _ _ _ _=>Mf (Ii (Hf GA (hr.mono (by decide)) rfl (GW (pv 2) (GW (pv 3) GX))))) (λ_ _ _ _ _=>(pv 0))) GX)))))),?_⟩
 refine⟨_,rfl,_,rfl,a,l,W,xs,rfl,hW,hx,λH1 s1=>?_⟩;dsimp only;refine⟨_,rfl,c,p,rfl,hp.same s1,pok,λH2 s2=>?_⟩;dsimp only;have S2:=s1.trans s2;refine⟨_,rfl,l,rfl,⟨_,SqL.of (hx.same S2).at'⟩,λr hr=>?_⟩;have hx2:=hx.same S2;refine Kd (xs:=xs.map λx=>V.ref x.a) (λi σ' ys H'=>(∃v1 v2 v3,σ'=[v1,v2,v3,some (.ref c)])∧Same H2 H'∧H' r=some (.lst ys)∧ys=(Ic (xs.take i) p).map V.str) ⟨⟨none,none,none,rfl⟩,Hh hr _,Hb,rfl⟩ ?_ ?_ ?_
 · rintro i σ' ys H' hi ⟨_,s,h1,h2⟩;refine⟨SqL.of (s _ _ hx2.at'),h1,?_⟩;rw[h2,Ab];have:=hx.len;have:=Ll (xs.take i) p;rw[AC] at this;exact HR (by omega)
 · rintro i x σ' ys H' N hy ⟨⟨v1,v2,v3,rfl⟩,s,h1,h2⟩ hN;rw[Ah] at hy;cases e1:xs[i]? with
   | none=>rw[e1] at hy;cases hy
   | some x1=>
    rw[e1] at hy;cases hy;have o1:=(hx2.ok x1 (Aq e1)).same s;refine⟨x1.a,_,rfl,SqT.of o1.at',rfl,_,_,rfl,_,_,rfl,_,_,rfl,rfl,?_⟩;refine⟨_,rfl,_,rfl,x1.l,c,x1.ws,p,rfl,o1.ws,(hp.same S2).same s,pok,λH3 s3=>⟨_,rfl,?_⟩⟩;have sn:=Rx p e1;by_cases hw:IZ x1.ws p=true
    · rw[if_pos hw] at sn;rw[hw];refine Hc ⟨_,rfl,s3 _ _ h1,hN _ _ _ ⟨⟨_,_,_,rfl⟩,Jn (s.trans s3) hr,Hb,?_⟩⟩;rw[h2,sn,Au];rfl
    · rw[if_neg hw,CK] at sn;rw[EO] at hw;rw[hw];refine Ha (hN _ _ _ ⟨⟨_,_,_,rfl⟩,s.trans s3,s3 _ _ h1,?_⟩);rw[h2,sn]
 · rintro σ' ys H' ⟨_,s,h1,h2⟩;rw[Ab,Bt] at h2;subst h2;refine⟨r,_,rfl,SqL.of h1,?_,λr2 ms pm so hr2=>?_⟩
   · have:=Ll xs p;have:=hx.len;omega
   · have hr3:=s.free hr2;exact q r2 ms _ (S2.trans (s.trans (Hh hr2 _))) (S2.free hr3) Hb pm so
theorem Xe(F:Fun K "_law_well" "_law_well" Lo f fd)  :FnOk P w K mg base Hu 1 f fd ["script"] (PR K):=by
 refine F.ok FV (λvs H Q E h=>?_) (λcdv A outer s H vs Q E hr h=>?_)
 · obtain⟨a,ns,rfl,hS,h63,q⟩:=h;rfl
 obtain⟨a,ns,rfl,hS,h63,q⟩:=h;refine⟨_,(Hd (Nu (N':=["cell"]) (js:=[none]) (i:=1) FV.nd rfl (Or.inl rfl) rfl (Ig (N:=["script","great","small","seed","number"]) (outer:=Hj Lo) (by decide+kernel)) (II (Jp Na (pv 0) Jk (Jl G_))) (λ_ _ _ _ _=>(Hq (i:=0) Kk rfl (Or.inl rfl))) (λ_ _ _ _ _=>Mf (HI SC (Hl Nw rfl B.abs_ MK (GW (pv 0) GX)) (Hi Jf G_ G_) (Hz _))) (λ_ _ _ _ _=>(Hi JB (Hl Nw rfl B.abs_ MK (GW (pv 0) GX)) (Hi KP (Hi Jf G_ G_) (Hi Jf G_ G_)))))
  (Hd (Nu (N':=["cell"]) (js:=[none]) (i:=2) FV.nd rfl (Or.inl rfl) rfl (Ig (N:=["script","great","small","seed","number"]) (outer:=Hj Lo) (by decide+kernel)) (II (Jp Na (pv 0) Jk (Jl G_))) (λ_ _ _ _ _=>(Hq (i:=0) Kk rfl (Or.inl rfl))) (λ_ _ _ _ _=>Mf (HI LQ (Hl Nw rfl B.abs_ MK (GW (pv 0) GX)) (Hi Jf G_ G_) (Hz _))) (λ_ _ _ _ _=>(Hi JB (pv 0) G_)))
  (Hd (Hr (i:=3) FV.nd rfl (Or.inl rfl) (Hi HP G_ (Hl HY rfl B.len_ HN (GW (pv 2) GX))))
  (Hd (Jg Bz rfl (II (pv 2)) (Hq (i:=4) FV.nd rfl (Or.inl rfl)) (Hg (Hr (i:=3) FV.nd rfl (Or.inl rfl) (Hi JB (Hi HP (Hi HP (Hi KP (pv 3) G_) (Hi KP (pv 4) G_)) G_) G_))))
  (Hg (Ho (Il (GW (pv 1) (GW (pv 2) (GW (pv 3) (GW G_ GX))))))))))),?_⟩
 have cut:HJ (ns.map V.int) none (some 63)=ns.map V.int:=by unfold HJ;rw[show HT.sIx (ns.map V.int).length 0 none=0 from rfl,show HT.sIx (ns.map V.int).length (ns.map V.int).length (some 63)=min 63 (ns.map V.int).length from HT.sIx_nat _ _ 63];rw[Eb];exact AZ (by rw[Ab];omega)
 have m60:Pl (10^(60:Int).toNat) (10^(60:Int).toNat):=⟨by decide,by decide⟩;refine⟨_,rfl,_,rfl,a,_,rfl,hS,λp1 hp1=>⟨p1,rfl,⟨_,SqL.of Hb⟩,λp hp=>?_⟩⟩;refine Ql (cap:=[]) ns (λn=>(if n<0 then -n else n)%(10^(60:Int).toNat*10^(60:Int).toNat)) (λn=>decide ((10:Int)^(18:Int).toNat≤(if n<0 then -n else n))) (by omega) (SqL.of (by rw[Hb,cut])) hp ?_ ?_ ?_ ?_
 · rfl
 · exact λn H' R s r=>⟨_,rfl,_,rfl,_,_,rfl,rfl,Iv (by decide) (by decide),_,_,rfl,rfl,_,rfl,r⟩
 · exact λn H' R s r=>⟨_,rfl,_,rfl,_,_,rfl,rfl,Iv (by decide) (by decide),_,_,rfl,rfl,Iv (by decide) (by decide),_,_,rfl,rfl,m60,_,_,rfl,rfl,(by show(0:Int)<10^(60:Int).toNat*10^(60:Int).toNat;decide),r⟩
 intro H1 s1 h1;have t1:Same H H1:=(Hh hp1 _).trans s1;have pn1:H p=none:=(Hh hp1 _).free hp;refine⟨_,rfl,_,rfl,a,_,rfl,t1.seq hS,λp2 hp2=>⟨p2,rfl,⟨_,SqL.of Hb⟩,λp' hp'=>?_⟩⟩;refine Ql (cap:=[]) ns (λn=>n%2147483563) (λn=>decide ((if n<0 then -n else n)<(10:Int)^(18:Int).toNat)) (by omega) (SqL.of (by rw[Hb,cut])) hp' ?_ ?_ ?_ ?_
 · rfl
 · exact λn H' R s r=>⟨_,rfl,_,rfl,_,_,rfl,rfl,Iv (by decide) (by decide),_,_,rfl,rfl,_,rfl,r⟩
 · exact λn H' R s r=>⟨_,rfl,_,_,rfl,rfl,(by show(0:Int)<2147483563;decide),r⟩
 intro H2 s2 h2;have t12:Same H1 H2:=(Hh hp2 _).trans s2;have t2:Same H H2:=t1.trans t12;have g2:=t12 _ _ h1;have n2:H1 p'=none:=(Hh hp2 _).free hp';have lb:∀x∈(ns.filter λn=>decide ((if n<0 then -n else n)<(10:Int)^(18:Int).toNat)).map (λn=>n%2147483563),0≤x∧x<wM:=λx hx=>by obtain⟨y,_,rfl⟩:=AU.mp hx;exact⟨BR _ (by decide),Bw _ (by decide)⟩
 have ll:=CV (λn=>decide ((if n<0 then -n else n)<(10:Int)^(18:Int).toNat)) ns
 have gg:=CV (λn=>decide ((10:Int)^(18:Int).toNat≤(if n<0 then -n else n))) ns
 generalize hls:(ns.filter λn=>decide ((if n<0 then -n else n)<(10:Int)^(18:Int).toNat)).map (λn=>n%2147483563)=ls at*
 have lz:ls.length≤63:=by rw[←hls,Ab];omega
 generalize hgs:(ns.filter λn=>decide ((10:Int)^(18:Int).toNat≤(if n<0 then -n else n))).map (λn=>(if n<0 then -n else n)%(10^(60:Int).toNat*10^(60:Int).toNat))=gs at*
 have gz:gs.length≤63:=by rw[←hgs,Ab];omega
 refine⟨_,rfl,p',_,rfl,.inl (SqL.of h2),_,_,rfl,rfl,?_⟩;refine⟨_,rfl,p',rfl,⟨_,SqL.of h2⟩,K1 (K:=K) (a:=p') (xs:=ls.map V.int) (λi σ H'=>∃(st:Int)(x4:Option V),σ=[some (.ref a),some (.ref p),some (.ref p'),some (.int st),x4]∧H'=H2∧0≤st∧st<wM) ⟨_,none,rfl,rfl,by omega,by rw[Ab];unfold wM;omega⟩ (λi σ H' _ ⟨_,_,_,e,_⟩=>by rw[e];exact SqL.of h2) ?_ ?_⟩
 · rintro i x σ H' hx ⟨st,x4,rfl,rfl,z0,z1⟩;rw[Ah] at hx;cases hn:ls[i]? with
   | none=>rw[hn] at hx;cases hx
   | some y=> rw[hn] at hx;obtain rfl:V.int y=x:=A7 hx;obtain⟨y0,y1⟩:=lb y (Aq hn);have sm:∀z:Int,z.natAbs<2^100→z.natAbs<2^1000:=λz h=>Ay h (by decide);refine⟨_,rfl,_,_,rfl,rfl,⟨sm _ (by unfold wM at z1;omega),by decide⟩,_,rfl,_,_,rfl,rfl,⟨sm _ (by unfold wM at y1;omega),by decide⟩,_,_,rfl,rfl,_,_,rfl,rfl,_,_,rfl,rfl,(by show(0:Int)<2147483563;decide),_,_,rfl,rfl,BR _ (by decide),Bw _ (by decide)⟩
 · rintro σ H' ⟨st,x4,rfl,rfl,z0,z1⟩;refine⟨_,rfl,_,rfl,_,rfl,OY,λp5 hp5=>?_⟩;have s5:=Hh hp5 (.lst [V.ref p,V.ref p',V.int st,V.int 0]);exact q p5 p p' _ ⟨⟨gs,ls,st,0,Hb,s5 _ _ g2,s5 _ _ h2,gz,lz,lb,z0,z1,by decide,by decide⟩,IA h1 n2,(IA g2 hp5).symm,(IA h2 hp5).symm⟩ (t2.trans s5) (t2.free hp5) pn1
theorem Xd(F:Fun K "_law_take" "_law_take" NQ f fd)  :FnOk P w K mg base Hu 1 f fd ["well","many"] (PN):=by
 refine F.ok FW (λvs H Q E h=>?_) (λcdv A outer s H vs Q E hr h=>?_)
 · obtain⟨b,g,l,n,many,rfl,Bg,hn,hm,hm2,q⟩:=h;rfl
 obtain⟨b,g,l,n,many,rfl,Bg,hn,hm,hm2,q⟩:=h;refine⟨_,(Hd (HG (HI (Pz (K0 hr)) (HC HZ (pv 0) G_ (λ_ _=>rfl)) (Il GX) (Hz _)) (Hd (Hr (i:=2) FW.nd rfl (Or.inl rfl) (HC HZ (HC HZ (pv 0) G_ (λ_ _=>rfl)) G_ (λ_ _=>rfl)))
  (Hd (JE (Hi Np (pv 2) (pv 1)) (MO (HC HZ (pv 0) G_ (λ_ _=>rfl)) G_ Nj))
  (Hd (HG (HI LQ (pv 2) (pv 1) (Hz _)) (Hg (Jm (J0 Bc DG DH No (HC HZ (pv 0) G_ (λ_ _=>rfl)) (GW G_ GX)))) HF)
  (Hg (Ho (Hi JB (pv 2) (pv 1))))))) HF)
  (Hd (JE (Hi HP (HC HZ (pv 0) G_ (λ_ _=>rfl)) G_) (MO (pv 0) G_ Nj))
  (Hd (Hr (i:=3) FW.nd rfl (Or.inl rfl) G_)
  (Hd (HG (HI (Pz (K0 hr)) (HC HZ (pv 0) G_ (λ_ _=>rfl)) (Il GX) (Hz _)) (Hg (Hr (i:=3) FW.nd rfl (Or.inl rfl) (Hi HP (HC HZ (HC HZ (pv 0) G_ (λ_ _=>rfl)) (Hi JB (HC HZ (pv 0) G_ (λ_ _=>rfl)) (Hl HY rfl B.len_ HN (GW (HC HZ (pv 0) G_ (λ_ _=>rfl)) GX))) (λ_ _=>rfl)) G_))) HF)
  (Hd (Hr (i:=2) FW.nd rfl (Or.inl rfl) (Hi JB (Hi Jf (Hi HP (HC HZ (pv 0) G_ (λ_ _=>rfl)) (Hi KP (pv 3) (Hi HP (Hi KP (HC HZ (pv 0) G_ (λ_ _=>rfl)) G_) G_))) G_) G_))
  (Hd (JE (Hi JB (Hi HP (Hi HP (Hi KP (HC HZ (pv 0) G_ (λ_ _=>rfl)) G_) (pv 2)) (HC HZ (pv 0) G_ (λ_ _=>rfl))) G_) (MO (pv 0) G_ Nj))
  (Hg (Ho (Hi JB (Hi Np (pv 2) G_) (pv 1)))))))))),?_⟩
 obtain⟨gs,ls,sd,c,e1,e2,e3,z1,z2,z4,z5,z6,z7,z8⟩:=id Bg.ex;refine⟨_,rfl,b,_,0,_,rfl,rfl,SqL.of e1,rfl,I_,λp hp=>?_⟩;have s1:=Hh hp (.lst []);have B2:=Bg.same s1;have e1':=s1 _ _ e1;have e2':=s1 _ _ e2;have e3':=s1 _ _ e3;refine Pk (SqL.of e2') (SqL.of Hb) ⟨_,rfl,?_⟩;generalize GY H p (.lst [])=H2 at*;have S2:SameB b g H H2:=s1.sameB;clear s1;have bg:=Bg.bg;have bl:=Bg.bl;have gl:=Bg.gl;cases gs with
 | cons x r=>
  refine Hc ?_;refine⟨_,rfl,b,_,0,_,rfl,rfl,SqL.of e1',rfl,g,_,0,_,rfl,rfl,SqL.of e2',OT,?_⟩;refine⟨_,rfl,_,rfl,_,_,rfl,rfl,⟨hm,Int.lt_of_lt_of_le hm2 (by decide)⟩,_,rfl,b,_,0,_,rfl,rfl,SqL.of e1',rfl,g,_,0,0,rfl,rfl,e2',Se,?_⟩;have f2:(GY H2 g (.lst (((x::r).map V.int).set 0 (V.int (x / many))))) g=some (.lst (((x / many)::r).map V.int)):=Hb;have f1:(GY H2 g (.lst (((x::r).map V.int).set 0 (V.int (x / many))))) b=some (.lst [V.ref g,V.ref l,V.int sd,V.int c]):=by rw[Hm bg];exact e1'
  have f3:(GY H2 g (.lst (((x::r).map V.int).set 0 (V.int (x / many))))) l=some (.lst (ls.map V.int)):=by rw[Hm (Ch gl)];exact e3'
  have S3:SameB b g H (GY H2 g (.lst (((x::r).map V.int).set 0 (V.int (x / many))))):=λa o h1 h2 h3=>by rw[Hm h3];exact S2 a o h1 h2 h3
  dsimp only;generalize GY H2 g (.lst (((x::r).map V.int).set 0 (V.int (x / many))))=H3 at*;refine⟨_,rfl,_,rfl,_,_,rfl,rfl,_,rfl,HD (λ_=>?_) (λ_=>?_)⟩
  · refine⟨_,rfl,b,_,0,_,rfl,rfl,SqL.of f1,rfl,.inl ⟨rfl,_,SqL.of f2⟩,g,_,0,0,_,rfl,rfl,f2,by decide,by decide,(MX (Se (x:=V.int (x / many)) (r:=r.map V.int))).1,rfl,?_⟩;refine⟨_,rfl,_,rfl,_,_,rfl,rfl,hm,q _ _ (BR _ (by omega)) (Bw _ hm) ⟨⟨r,ls,sd,c,?_,Hb,?_,by simp only[A5] at z1;omega,z2,z4,z5,z6,z7,by omega⟩,gl,bg,bl⟩ ?_⟩
    · rw[Hm bg];exact f1
    · rw[Hm (Ch gl)];exact f3
    · intro a o h1 h2 h3;rw[Hm h3];exact S3 a o h1 h2 h3
  · exact⟨_,rfl,_,rfl,_,_,rfl,rfl,hm,q _ _ (BR _ (by omega)) (Bw _ hm) ⟨⟨x / many::r,ls,sd,c,f1,f2,f3,by simp only[A5] at z1 ⊢;omega,z2,z4,z5,z6,z7,by omega⟩,gl,bg,bl⟩ S3⟩
 | nil=>
  refine Ha ?_;refine⟨_,rfl,b,_,3,_,rfl,rfl,SqL.of e1',rfl,_,_,rfl,rfl,_,rfl,b,_,3,3,rfl,rfl,e1',rfl,?_⟩;have f1:(GY H2 b (.lst ([V.ref g,V.ref l,V.int sd,V.int c].set 3 (V.int (c+1))))) b=some (.lst [V.ref g,V.ref l,V.int sd,V.int (c+1)]):=Hb;have f2:(GY H2 b (.lst ([V.ref g,V.ref l,V.int sd,V.int c].set 3 (V.int (c+1))))) g=some (.lst []):=by rw[Hm (Ch bg)];exact e2'
  have f3:(GY H2 b (.lst ([V.ref g,V.ref l,V.int sd,V.int c].set 3 (V.int (c+1))))) l=some (.lst (ls.map V.int)):=by rw[Hm (Ch bl)];exact e3'
  have S3:SameB b g H (GY H2 b (.lst ([V.ref g,V.ref l,V.int sd,V.int c].set 3 (V.int (c+1))))):=λa o h1 h2 h3=>by rw[Hm h2];exact S2 a o h1 h2 h3
  dsimp only;generalize GY H2 b (.lst ([V.ref g,V.ref l,V.int sd,V.int c].set 3 (V.int (c+1))))=H3 at*;have c1:0≤c+1:=by omega
  have c2:c+1≤2^41:=by omega
  refine HQ ?_;dsimp only;refine J4 (λσ' H'=>∃(cell:Int),σ'=[some (.ref b),some (.int many),none,some (.int cell)]∧1≤cell∧cell≤wM∧H' b=some (.lst [V.ref g,V.ref l,V.int sd,V.int (c+1)])∧H' g=some (.lst [])∧H' l=some (.lst (ls.map V.int))∧SameB b g H H') (λZ hZ=>?_) ?_
  · refine⟨_,rfl,b,_,1,_,rfl,rfl,SqL.of f1,rfl,I_,λp4 hp4=>?_⟩;have s4:=Hh hp4 (.lst []);have k1:=s4 _ _ f1;have k2:=s4 _ _ f2;have k3:=s4 _ _ f3;have S4:=S3.trans s4.sameB;refine Pk (SqL.of k3) (SqL.of Hb) ⟨_,rfl,?_⟩;generalize GY H3 p4 (.lst [])=H4 at*;cases ls with
    | nil=>exact Ha (hZ _ _ ⟨1,rfl,by decide,by decide,k1,k2,k3,S4⟩)
    | cons y ys=>
     refine Hc ?_;have lpos:(0:Int)<(((y::ys).map V.int).length:Int):=by rw[Ab,A5];omega
     have i0:=BR (c+1) (Int.ne_of_gt lpos);have i1:=Bw (c+1) lpos;obtain⟨v,hv,hvm⟩:=Tg (ls:=y::ys) i0 (by rw[Ab] at i1 ⊢;exact i1);obtain⟨v0,v1⟩:=z4 v hvm;refine⟨_,rfl,b,_,1,_,rfl,rfl,SqL.of k1,rfl,_,rfl,b,_,3,_,rfl,rfl,SqL.of k1,rfl,_,rfl,b,_,1,_,rfl,rfl,SqL.of k1,rfl,l,_,rfl,.inl (SqL.of k3),_,_,rfl,rfl,lpos,l,_,_,_,rfl,rfl,SqL.of k3,hv,_,_,rfl,rfl,?_⟩;exact hZ _ _ ⟨v+1,rfl,by omega,by omega,k1,k2,k3,S4⟩
  rintro σ' H4 ⟨cell,rfl,l0,l1,k1,k2,k3,S4⟩;have sm:∀z:Int,z.natAbs<2^900→z.natAbs<2^1000:=λz h=>Ay h (by decide);have b3:(c+1).natAbs<2^900:=Cj (show(c+1).natAbs≤2^41 by omega) (by decide);have b4:((c+1)*3163+1).natAbs<2^900:=Cj (show((c+1)*3163+1).natAbs≤2^60 by omega) (by decide);have b5:cell.natAbs<2^900:=Cj (show cell.natAbs≤2^60 by unfold wM at l1;omega) (by decide);have big:(sd+cell*((c+1)*3163+1)).natAbs<2^1000:=by
   have a5:cell*((c+1)*3163+1)≤2^60*2^60:=Fz (by unfold wM at l1;omega) (by omega) (by omega) (by decide);have a6:0≤cell*((c+1)*3163+1):=Int.mul_nonneg (by omega) (by omega);generalize cell*((c+1)*3163+1)=y at*;have a8:(sd+y).natAbs<2^125:=by unfold wM at z6;omega
   exact Ay a8 (by decide)
  refine⟨_,rfl,b,_,2,_,rfl,rfl,SqL.of k1,rfl,_,rfl,_,rfl,b,_,3,_,rfl,rfl,SqL.of k1,rfl,_,_,rfl,rfl,⟨sm _ b3,by decide⟩,_,_,rfl,rfl,_,_,rfl,rfl,⟨sm _ b5,sm _ b4⟩,_,_,rfl,rfl,_,_,rfl,rfl,⟨by decide,by decide,big⟩,_,_,rfl,rfl,(by show(0:Int)<2147483563;decide),?_⟩;dsimp only;generalize(sd+cell*((c+1)*3163+1))^(5:Int).toNat=y;have y0:=BR y (show(2147483563:Int)≠0 by decide);have y1:=Bw y (show(0:Int)<2147483563 by decide);generalize y%2147483563=u at*;have b6:sd.natAbs<2^1000:=sm _ (Cj (show sd.natAbs≤2^60 by unfold wM at z6;omega) (by decide));refine⟨_,rfl,b,_,2,_,rfl,rfl,SqL.of k1,rfl,_,_,rfl,rfl,⟨b6,by decide⟩,_,rfl,_,_,rfl,rfl,_,rfl,b,_,3,_,rfl,rfl,SqL.of k1,rfl,_,_,rfl,rfl,_,_,rfl,rfl,(by show(0:Int)<2147483563;decide),?_⟩;refine⟨_,rfl,b,_,2,2,rfl,rfl,k1,rfl,?_⟩;dsimp only;generalize sd*40692+u+(c+1)=v;have v0:=BR v (show(2147483563:Int)≠0 by decide);have v1:=Bw v (show(0:Int)<2147483563 by decide);generalize v%2147483563=t at*;refine⟨_,rfl,_,_,rfl,rfl,⟨by decide,by decide⟩,_,rfl,_,_,rfl,rfl,hm,?_⟩;refine q _ _ (BR _ (by omega)) (Bw _ hm) ⟨⟨[],ls,t,c+1,Hb,?_,?_,by simp,z2,z4,v0,v1,c1,by omega⟩,gl,bg,bl⟩ ?_
  · rw[Hm (Ch bg)];exact k2
  · rw[Hm (Ch bl)];exact k3
  · intro a o h1 h2 h3;rw[Hm h2];exact S4 a o h1 h2 h3
theorem W9(F:Fun K "_law_name" "_law_name" Mm f fd)(GB:Γ24 P w K mg base):FnOk P w K mg base Hu 2 f fd ["well","most"] (PL):=by
 refine F.ok FX (λvs H Q E h=>?_) (λcdv A outer s H vs Q E hr h=>?_)
 · obtain⟨b,g,l,n,most,rfl,Bg,hn,m1,m8,q⟩:=h;rfl
 obtain⟨b,g,l,n,most,rfl,Bg,hn,m1,m8,q⟩:=h;refine⟨_,(Hd (Hr (i:=2) FX.nd rfl (Or.inr rfl) Lf)
  (Hg (Ho (J0 PySem.F.plainAttrs_str PySem.F.slot_str_join PySem.F.type_str_join Uj Lf (GW (IG (N':=["k","well","letters"]) (js:=[none,some 0,some 2]) rfl (Ig (N:=["well","most","letters"]) (outer:=Hj Mm) (by decide+kernel)) (JJ rfl B.range_ (GW (Hi HP G_ (Hf GB (hr.mono (by decide)) rfl (GW (pv 0) (GW (pv 1) GX)))) GX)) (λ_ _ _ _ _=>(Hq (i:=0) LB rfl (Or.inl rfl))) (λ_ _ _ _ _=>IB) (λ_ _ _ _ _=>(HC Pt (pv 2) (Hf GB (hr.mono (by decide)) rfl (GW (pv 1) (GW G_ GX))) (λ_ _=>rfl)))) GX))))),?_⟩
 refine HQ ?_;refine⟨rfl,_,rfl,_,rfl,b,g,l,n,most,rfl,Bg,by omega,by omega,IE (by omega),λr H2 r0 r1 B2 S2=>?_⟩;refine⟨_,_,rfl,rfl,_,rfl,by omega,by omega,λp hp=>?_⟩;obtain⟨pb,pg,pl⟩:=B2.free hp;have s3:=Hh hp (.lst []);have np:H p=none:=B2.back S2 p hp;refine K2 (n:=(1+r).toNat) (λi σ' ys H'=>(∃v,σ'=[v,some (.ref b),some (.str "abcdefghijklmnopqrstuvwxyz")])∧SameB b g H H'∧Well H' b g l (n+1+i)∧H' p=some (.lst ys)∧∃cs:List Nat,ys=(cs.map λc=>(⟨#[c]⟩:Str)).map V.str∧cs.length=i∧∀c∈cs,Kh c=true) ?_ ?_ ?_ ?_
 · exact⟨⟨none,rfl⟩,S2.trans s3.sameB,(B2.same s3).mono (by omega),Hb,[],rfl,rfl,λc hc=>by simp at hc⟩
 · rintro i σ' ys H' hi ⟨_,_,_,h1,cs,rfl,h2,_⟩;exact⟨h1,by rw[Ab,Ab,h2];exact HR (by omega)⟩
 · rintro i σ' ys H4 N hi ⟨⟨v,rfl⟩,S4,B4,h1,cs,rfl,h2,h3⟩ hN;refine⟨_,rfl,_,rfl,b,g,l,_,26,rfl,B4,by omega,by decide,by decide,λk H5 k0 k1 B5 S5=>?_⟩;obtain⟨c,hc,ok⟩:=Pg k0 k1;have h5:=S5 _ _ h1 pb pg;refine⟨_,_,c,rfl,rfl,(by show 26≤As;decide),hc,h5,hN _ _ _ ⟨⟨_,rfl⟩,?_,?_,Hb,cs++[c],?_,?_,?_⟩⟩
   · exact(S4.trans S5).off np
   · exact(B5.off pb pg pl).mono (by omega)
   · rw[Au,Au];rfl
   · rw[AG,h2];rfl
   · intro c' hc';rcases AM.mp hc' with z | z
     · exact h3 c' z
     · rw[Aw.mp z];exact ok
 · rintro σ' ys H4 ⟨_,S4,B4,h1,cs,rfl,h2,h3⟩;refine⟨_,_,_,rfl,rfl,SqL.of h1,Ue cs (by omega),q _ _ (V4 (by omega) (by omega) h3) (B4.mono (by omega)) S4⟩
theorem Xr(F:Fun K "_law_fields" "_law_fields" NK f fd)(GC:Γ25 P w K mg base)(GB:Γ24 P w K mg base):FnOk P w K mg base Hu 3 f fd ["well","many"] (Rh):=by
 refine F.ok FY (λvs H Q E h=>?_) (λcdv A outer s H vs Q E hr h=>?_)
 · obtain⟨b,g,l,n,many,rfl,Bg,hn,m1,m6,q⟩:=h;rfl
 obtain⟨b,g,l,n,many,rfl,Bg,hn,m1,m6,q⟩:=h;refine⟨_,(Hd (Hr (i:=2) FY.nd rfl (Or.inl rfl) Lf)
  (Hd (Hr (i:=3) FY.nd rfl (Or.inl rfl) (Il (GW (Hf GC (hr.mono (by decide)) rfl (GW (pv 0) (GW G_ GX))) GX)))
  (Hd (Jg Bz rfl (JJ rfl B.range_ (GW (Hf GB (hr.mono (by decide)) rfl (GW (pv 0) (GW (pv 1) GX))) GX)) (Hq (i:=4) FY.nd rfl (Or.inl rfl)) (Hd (Hr (i:=5) FY.nd rfl (Or.inl rfl) (Hf GB (hr.mono (by decide)) rfl (GW (pv 0) (GW G_ GX))))
  (Hd (Hr (i:=6) FY.nd rfl (Or.inl rfl) (HC HZ (pv 3) (Hf GB (hr.mono (by decide)) rfl (GW (pv 0) (GW (Hl HY rfl B.len_ HN (GW (pv 3) GX)) GX))) (λ_ _=>rfl)))
  (Hd (Hr (i:=7) FY.nd rfl (Or.inl rfl) (HC Pt (pv 2) (Hf GB (hr.mono (by decide)) rfl (GW (pv 0) (GW G_ GX))) (λ_ _=>rfl)))
  (Hd (Hr (i:=8) FY.nd rfl (Or.inl rfl) (Hf GB (hr.mono (by decide)) rfl (GW (pv 0) (GW (Hl RG rfl B.len_ HN (GW (pv 6) GX)) GX))))
  (Hd (Hr (i:=9) FY.nd rfl (Or.inl rfl) (Jp Nb (HC HZ (Il (GW (Hi Mi (pv 7) (pv 6)) (GW (Hi Mi (pv 6) (pv 7)) (GW (Hi Mi (Hi Mi (Jp Nb (pv 6) Jk (Jl (pv 8))) (pv 7)) (Jp Nb (pv 6) (Jl (Hi HP (pv 8) G_)) Jk)) (GW (pv 7) GX))))) (pv 5) (λ_ _=>rfl)) Jk (Jl G_)))
  (Hd (HG (HI IF (pv 5) G_ (Hz _)) (Hg (Hr (i:=9) FY.nd rfl (Or.inl rfl) (Hf GC (hr.mono (by decide)) rfl (GW (pv 0) (GW G_ GX))))) HF)
  (Hg (HG (HI WJ (pv 9) (pv 3) (by with_unfolding_all rfl)) (Hg (Jm (J0 Bc BC BD Ke (pv 3) (GW (pv 9) GX)))) HF)))))))))
  (Hg (Ho (Hl NJ rfl B.sorted_ Mp (GW (pv 3) GX))))))),?_⟩
 refine HQ ?_;refine⟨_,rfl,b,g,l,n,7,rfl,Bg,by omega,by decide,by decide,λx0 H1 ok0 B1 S1=>?_⟩;refine⟨OZ,λr hr'=>?_⟩;obtain⟨rb,rg,rl⟩:=B1.free hr';have nr:H r=none:=B1.back S1 r hr';have s2:=Hh hr' (.lst [V.str x0]);have e2:(GY H1 r (.lst [V.str x0])) r=some (.lst [V.str x0]):=Hb;have B2:=B1.same s2;have S2:=S1.trans s2.sameB;generalize GY H1 r (.lst [V.str x0])=H2 at*;refine⟨_,rfl,_,rfl,b,g,l,_,many,rfl,B2,by omega,by omega,IE (by omega),λc H3 c0 c1 B3 S3=>?_⟩;have e3:=S3 _ _ e2 rb rg;have S03:=S2.trans S3;refine⟨c,rfl,by omega,by omega,N5 (lo:=0) (n:=c.toNat) (λi σ H'=>(∃y4 y5 y6 y7 y8 y9,σ=[some (.ref b),some (.int many),some (.str "abcdefghijklmnopqrstuvwxyz"),some (.ref r),y4,y5,y6,y7,y8,y9])∧SameB b g H H'∧Well H' b g l (n+13+20*i)∧∃ts:List Str,H' r=some (.lst (ts.map V.str))∧ts.Nodup∧1≤ts.length∧ts.length≤i+1∧∀t∈ts,FieldOk t) ?_ ?_ ?_⟩
 · exact⟨⟨none,none,none,none,none,none,rfl⟩,S03,B3.mono (by omega),[x0],e3,by simp,by simp,by simp,λt ht=>by rw[Aw.mp ht];exact ok0⟩
 · rintro i σ H4 hi ⟨⟨y4,y5,y6,y7,y8,y9,rfl⟩,S4,B4,ts,e4,nd,l1,l2,ok⟩;refine⟨_,rfl,b,g,l,_,4,rfl,B4,by omega,by decide,by decide,λpick H5 p0 p1 B5 S5=>?_⟩;have e5:=S5 _ _ e4 rb rg;refine⟨_,rfl,_,rfl,_,rfl,r,_,rfl,.inl (SqL.of e5),b,g,l,_,_,rfl,B5,by omega,by rw[Ab];omega,IE (by rw[Ab];omega),λk H6 k0 k1 B6 S6=>?_⟩;have e6:=S6 _ _ e5 rb rg;rw[Ab] at k1;obtain⟨j,rfl⟩:∃j:Nat,k=(j:Int):=⟨k.toNat,by omega⟩;obtain⟨first,ef⟩:∃f,ts[j]?=some f:=⟨ts[j]'(by omega),AB (by omega)⟩
   have hf:Ie (ts.map V.str) (j:Int)=some (V.str first):=J5 (by rw[Ah,ef];rfl)
   have okf:=ok first (Aq ef)
   refine⟨r,_,_,_,rfl,rfl,SqL.of e6,hf,?_⟩;refine⟨_,rfl,_,rfl,b,g,l,_,26,rfl,B6,by omega,by decide,by decide,λk H7 k0 k1 B7 S7=>?_⟩;have e7:=S7 _ _ e6 rb rg;obtain⟨c,hc,okc⟩:=Pg k0 k1;refine⟨_,_,c,rfl,rfl,(by show 26≤As;decide),hc,?_⟩;have okl:FieldOk (⟨#[c]⟩:Str):=⟨by show 1≤1;decide,by show 1≤8;decide,λc' hc'=>by
    have:c'=c:=by simpa using hc'
    rw[this];exact okc⟩
   generalize(⟨#[c]⟩:Str)=letter at*;have f1:=okf.one;have f8:=okf.eight;have g1:=okl.one;have g8:=okl.eight;have sz:(100:Nat)≤As:=by decide
   refine⟨_,rfl,_,rfl,_,rfl,by omega,b,g,l,_,_,rfl,B7,by omega,by omega,IE (by omega),λat' H8 a0 a1 B8 S8=>?_⟩;have e8:=S8 _ _ e7 rb rg;have S48:=S4.trans (S5.trans (S6.trans (S7.trans S8)));refine⟨_,rfl,_,rfl,_,_,rfl,rfl,by omega,_,rfl,_,rfl,_,_,rfl,rfl,by omega,_,rfl,_,rfl,_,rfl,first,rfl,by omega,λz1 a1' _ a3 _=>?_⟩
   refine⟨_,rfl,_,_,rfl,rfl,by omega,_,rfl,_,rfl,_,_,rfl,rfl,_,rfl,first,rfl,by omega,λz2 b1 _ b3 _=>?_⟩
   have la:(z1++letter).length=z1.length+letter.length:=by show(z1.cps++letter.cps).size=_;rw[E7];rfl
   refine⟨_,_,rfl,rfl,by omega,_,rfl,OY,λwl hwl=>?_⟩;have s9:=Hh hwl (.lst [V.str (letter++first),V.str (first++letter),V.str (z1++letter++z2),V.str letter])
   have e9:(GY H8 wl (.lst [V.str (letter++first),V.str (first++letter),V.str (z1++letter++z2),V.str letter])) wl=some (.lst [V.str (letter++first),V.str (first++letter),V.str (z1++letter++z2),V.str letter]):=Hb
   have e8:=s9 _ _ e8;have B9:=B8.same s9;have S49:=S48.trans s9.sameB;generalize GY H8 wl (.lst [V.str (letter++first),V.str (first++letter),V.str (z1++letter++z2),V.str letter])=H9 at*
   have mem2:∀(x y:Str)(c:Nat),c∈(x++y).cps.toList→c∈x.cps.toList∨c∈y.cps.toList:=λx y c hc=>by have:c∈(x.cps++y.cps).toList:=hc;rw[Array.toList_append] at this;exact AM.mp this
   have len2:∀x y:Str,(x++y).length=x.length+y.length:=λx y=>by show(x.cps++y.cps).size=_;rw[E7];rfl
   obtain⟨W,hW,w1,w100,wl'⟩:∃W:Str,Ie [V.str (letter++first),V.str (first++letter),V.str (z1++letter++z2),V.str letter] pick=some (.str W)∧1≤W.length∧W.length≤100∧∀c∈W.cps.toList,Kh c=true:=by
    have:pick=0∨pick=1∨pick=2∨pick=3:=by omega
    rcases this with rfl | rfl | rfl | rfl
    · refine⟨_,rfl,by rw[len2];omega,by rw[len2];omega,λc hc=>?_⟩;rcases mem2 _ _ c hc with z | z
      · exact okl.all c z
      · exact okf.all c z
    · refine⟨_,rfl,by rw[len2];omega,by rw[len2];omega,λc hc=>?_⟩;rcases mem2 _ _ c hc with z | z
      · exact okf.all c z
      · exact okl.all c z
    · refine⟨_,rfl,by rw[len2,len2];omega,by rw[len2,len2];omega,λc hc=>?_⟩;rcases mem2 _ _ c hc with z | z
      · rcases mem2 _ _ c z with z | z
        · exact okf.all c (a3 c z)
        · exact okl.all c z
      · exact okf.all c (b3 c z)
    · exact⟨_,rfl,g1,by omega,okl.all⟩
   refine⟨_,rfl,wl,_,_,_,rfl,rfl,SqL.of e9,hW,_,rfl,W,rfl,by omega,λword v1 v2 v3 v4=>?_⟩;have okw:FieldOk word:=⟨v4 8 rfl rfl (by decide) w1,by have:=v2 8 rfl (by decide);omega,λc hc=>wl' c (v3 c hc)⟩;refine HQ ?_;dsimp only;refine J4 (λσ' H'=>∃word:Str,σ'=[some (.ref b),some (.int many),some (.str "abcdefghijklmnopqrstuvwxyz"),some (.ref r),some (.int (0+(i:Int))),some (.int pick),some (.str first),some (.str letter),some (.int at'),some (.str word)]∧FieldOk word∧SameB b g H H'∧Well H' b g l (n+13+20*i+17)∧H' r=some (.lst (ts.map V.str))) (λZ hZ=>?_) ?_
   · refine⟨_,rfl,rfl,_,rfl,HD (λ_=>?_) (λ_=>?_)⟩
     · exact⟨_,rfl,b,g,l,_,8,rfl,B9,by omega,by decide,by decide,λx H10 ok10 B10 S10=>hZ _ _ ⟨x,rfl,ok10,S49.trans S10,B10.mono (by omega),S10 _ _ e8 rb rg⟩⟩
     · exact hZ _ _ ⟨word,rfl,okw,S49,B9.mono (by omega),e8⟩
   rintro σ' H10 ⟨word',rfl,okw',S10,B10,e10⟩;have fl:(ts.map V.str).all J9=true:=by rw[List.all_map];exact List.all_eq_true.mpr λx _=>rfl
   refine⟨_,rfl,_,rfl,r,_,rfl,.inl (SqL.of e10),rfl,fl,_,rfl,?_⟩;have inE:M6 (.str word') (ts.map V.str)=decide (word'∈ts):=by
    unfold M6;rw[Du,BO,List.any_eq_true,decide_eq_true_iff];constructor
    · rintro⟨x,hx,e⟩;have:x=word':=by simpa [J8] using e
      exact this ▸ hx
    · exact λh=>⟨word',h,by simp[J8]⟩
   rw[inE];by_cases hm:word'∈ts
   · rw[decide_eq_true hm];exact Ha ⟨⟨_,_,_,_,_,_,rfl⟩,S10,B10.mono (by omega),ts,e10,nd,l1,by omega,ok⟩
   · rw[decide_eq_false hm];refine Hc ⟨_,rfl,.inl ⟨rfl,_,SqL.of e10⟩,_,rfl,r,_,_,rfl,rfl,e10,(by rw[Ab];exact HR (by omega)),?_⟩;refine⟨⟨_,_,_,_,_,_,rfl⟩,S10.off nr,(B10.off rb rg rl).mono (by omega),ts++[word'],by rw[Hb,Au];rfl,?_,by rw[AG];omega,by rw[AG];simp;omega,λt ht=>?_⟩
     · rw[EA];exact⟨nd,by simp,λa ha b hb=>by rw[Aw.mp hb];exact λz=>hm (z ▸ ha)⟩
     · rcases AM.mp ht with z | z
       · exact ok t z
       · rw[Aw.mp z];exact okw'
 · rintro σ H4 ⟨⟨y4,y5,y6,y7,y8,y9,rfl⟩,S4,B4,ts,e4,nd,l1,l2,ok⟩;refine⟨_,rfl,r,ts,rfl,SqL.of e4,by omega,λz ms mp mso hz=>?_⟩;have s5:=Hh hz (.lst (ms.map V.str));exact q z ms _ (B4.back S4 z hz) Hb (Mt mso (mp.nodup_iff.mpr nd)) (λf hf=>ok f (mp.mem_iff.mp hf)) (by rw[mp.length_eq];exact l1) (by rw[mp.length_eq];omega) ((B4.same s5).mono (by omega)) (S4.trans s5.sameB)
theorem W7(F:Fun K "_law_base" "_law_base" NM f fd)(GB:Γ24 P w K mg base):FnOk P w K mg base Hu 2 f fd ["well"] (PH):=by
 refine F.ok FZ (λvs H Q E h=>?_) (λcdv A outer s H vs Q E hr h=>?_)
 · obtain⟨b,g,l,n,rfl,Bg,hn,q⟩:=h;rfl
 obtain⟨b,g,l,n,rfl,Bg,hn,q⟩:=h;refine⟨_,(Hd (Hr (i:=1) FZ.nd rfl (Or.inl rfl) (Hf GB (hr.mono (by decide)) rfl (GW (pv 0) (GW G_ GX))))
  (Hd (Hr (i:=2) FZ.nd rfl (Or.inl rfl) (Hi Kb G_ (Hi JC G_ (Hf GB (hr.mono (by decide)) rfl (GW (pv 0) (GW G_ GX))))))
  (Hd (HG (HI IF (pv 1) G_ (Hz _)) (Hg (Ho G_)) HF)
  (Hd (Hr (i:=3) FZ.nd rfl (Or.inl rfl) (Hf GB (hr.mono (by decide)) rfl (GW (pv 0) (GW G_ GX))))
  (Hd (HG (HI IF (pv 1) G_ (Hz _)) (Hg (Hr (i:=3) FZ.nd rfl (Or.inl rfl) (Hi HP (Hi JC (Hi HP (Hi JC (pv 3) G_) (Hf GB (hr.mono (by decide)) rfl (GW (pv 0) (GW G_ GX)))) G_) (Hf GB (hr.mono (by decide)) rfl (GW (pv 0) (GW G_ GX)))))) HF)
  (Hg (Ho (Hi JC (pv 2) (Hi JB (pv 3) (Hi Kb (Hi Jf G_ G_) G_)))))))))),?_⟩
 have M8:(10:Int)^(15:Int).toNat=1000000000000000:=by decide
 refine⟨_,rfl,b,g,l,n,3,rfl,Bg,by omega,by decide,by decide,λpick H1 p0 p1 B1 S1=>?_⟩;refine⟨_,rfl,b,g,l,_,2,rfl,B1,by omega,by decide,by decide,λc H2 c0 c1 B2 S2=>?_⟩;have S02:=S1.trans S2;refine⟨_,_,rfl,rfl,.inl ⟨by decide,by decide⟩,_,_,rfl,rfl,?_⟩;refine⟨_,rfl,rfl,_,rfl,HD (λ_=>q _ _ (by decide) (by decide) (B2.mono (by omega)) S02) (λ_=>?_)⟩;refine⟨_,rfl,b,g,l,_,100000,rfl,B2,by omega,by decide,by decide,λm H3 m0 m1 B3 S3=>?_⟩;have S03:=S02.trans S3;refine HQ ?_;dsimp only;refine J4 (λσ' H'=>∃m:Int,σ'=[some (.ref b),some (.int pick),some (.int (1 - 2*c)),some (.int m)]∧0≤m∧SameB b g H H'∧Well H' b g l (n+5)) (λZ hZ=>?_) ?_
 · refine⟨_,rfl,rfl,_,rfl,HD (λ_=>?_) (λ_=>hZ _ _ ⟨m,rfl,m0,S03,B3.mono (by omega)⟩)⟩;refine⟨_,rfl,_,_,rfl,rfl,.inl ⟨by omega,by omega⟩,_,rfl,b,g,l,_,100000,rfl,B3,by omega,by decide,by decide,λm2 H4 m20 m21 B4 S4=>?_⟩;refine⟨_,_,rfl,rfl,_,_,rfl,rfl,.inl ⟨by omega,by omega⟩,_,rfl,b,g,l,_,100000,rfl,B4,by omega,by decide,by decide,λm3 H5 m30 m31 B5 S5=>?_⟩;exact⟨_,_,rfl,rfl,hZ _ _ ⟨_,rfl,by omega,S03.trans (S4.trans S5),B5.mono (by omega)⟩⟩
 rintro σ' H4 ⟨m,rfl,m0,S4,B4⟩;refine⟨_,rfl,_,rfl,_,_,rfl,rfl,Iv (by decide) (by decide),_,_,rfl,rfl,_,_,rfl,rfl,(by show(0:Int)<10^(15:Int).toNat - 1000;decide),?_⟩;dsimp only;rw[M8];have y0:=BR m (show(1000000000000000 - 1000:Int)≠0 by decide);have y1:=Bw m (show(0:Int)<1000000000000000 - 1000 by decide);generalize m%(1000000000000000 - 1000)=y at*;have hc:c=0∨c=1:=by omega
 refine⟨_,_,rfl,rfl,.inl ⟨by omega,by omega⟩,q _ _ ?_ ?_ B4 S4⟩
 all_goals
  rcases hc with rfl | rfl
  all_goals omega
theorem W8(F:Fun K "_law_grid" "_law_grid" NN f fd)(GB:Γ24 P w K mg base)(GD:Γ27 P w K mg base):FnOk P w K mg base Hu 3 f fd ["well"] (PJ):=by
 refine F.ok F_ (λvs H Q E h=>?_) (λcdv A outer s H vs Q E hr h=>?_)
 · obtain⟨b,g,l,n,rfl,Bg,hn,q⟩:=h;rfl
 obtain⟨b,g,l,n,rfl,Bg,hn,q⟩:=h;refine⟨_,(Hd (Hr (i:=1) F_.nd rfl (Or.inl rfl) (Hf GB (hr.mono (by decide)) rfl (GW (pv 0) (GW G_ GX))))
  (Hd (Hr (i:=2) F_.nd rfl (Or.inl rfl) G_)
  (Hd (HG (HI IF (pv 1) G_ (Hz _)) (Hg (Hr (i:=2) F_.nd rfl (Or.inl rfl) (Hi HP G_ (Hf GB (hr.mono (by decide)) rfl (GW (pv 0) (GW G_ GX)))))) HF)
  (Hd (HG (HI IF (pv 1) G_ (Hz _)) (Hg (Hr (i:=2) F_.nd rfl (Or.inl rfl) (Hi HP G_ (Hi JC (Hf GB (hr.mono (by decide)) rfl (GW (pv 0) (GW G_ GX))) (Hf GB (hr.mono (by decide)) rfl (GW (pv 0) (GW G_ GX))))))) HF)
  (Hg (Ho (Iu (GW (Hl (V0 rfl) rfl B.max_ Ti (GW (Hi Kb (Hi Jf G_ G_) (Hi Jf G_ G_)) (GW (Hl (N2 rfl) rfl B.min_ MM (GW (Hi Kb (Hi Jf G_ G_) (Hi Jf G_ G_)) (GW (Hf GD (hr.mono (by decide)) rfl (GW (pv 0) GX)) GX))) GX))) (GW (pv 2) GX))))))))),?_⟩
 have M8:(10:Int)^(15:Int).toNat=1000000000000000:=by decide
 have e13:(10:Int)^(13:Int).toNat=10000000000000:=by decide
 refine⟨_,rfl,b,g,l,n,4,rfl,Bg,by omega,by decide,by decide,λpick H1 p0 p1 B1 S1=>?_⟩;refine HQ ?_;dsimp only;refine U6 ?_;refine J4 (λσ' H'=>∃m:Int,σ'=[some (.ref b),some (.int pick),some (.int m)]∧1≤m∧m≤10^10∧SameB b g H H'∧Well H' b g l (n+2)) (λZ hZ=>?_) ?_
 · refine⟨_,rfl,rfl,_,rfl,HD (λ_=>?_) (λ_=>hZ _ _ ⟨1,rfl,by decide,by decide,S1,B1.mono (by omega)⟩)⟩;exact⟨_,rfl,b,g,l,_,1000,rfl,B1,by omega,by decide,by decide,λm2 H4 m20 m21 B4 S4=>⟨_,_,rfl,rfl,hZ _ _ ⟨_,rfl,by omega,by omega,S1.trans S4,B4.mono (by omega)⟩⟩⟩
 rintro σ' H2 ⟨m,rfl,m0,m1,S2,B2⟩;refine J4 (λσ' H'=>∃m:Int,σ'=[some (.ref b),some (.int pick),some (.int m)]∧1≤m∧m≤10^10∧SameB b g H H'∧Well H' b g l (n+4)) (λZ hZ=>?_) ?_
 · refine⟨_,rfl,rfl,_,rfl,HD (λ_=>?_) (λ_=>hZ _ _ ⟨m,rfl,m0,m1,S2,B2.mono (by omega)⟩)⟩;refine⟨_,rfl,b,g,l,_,100000,rfl,B2,by omega,by decide,by decide,λm2 H4 m20 m21 B4 S4=>?_⟩;refine⟨_,rfl,b,g,l,_,100000,rfl,B4,by omega,by decide,by decide,λm3 H5 m30 m31 B5 S5=>?_⟩;have x1:m2*m3≤99999*99999:=Fz (by omega) (by omega) m30 (by decide);have x0:0≤m2*m3:=Int.mul_nonneg m20 m30;exact⟨_,_,rfl,rfl,.inl ⟨by omega,by omega⟩,_,_,rfl,rfl,hZ _ _ ⟨_,rfl,by show 1≤1+m2*m3;omega,by show 1+m2*m3≤_;omega,S2.trans (S4.trans S5),B5.mono (by omega)⟩⟩
 rintro σ' H3 ⟨m,rfl,m0,m1,S3,B3⟩;refine⟨_,_,rfl,rfl,Iv (by decide) (by decide),_,_,rfl,rfl,Iv (by decide) (by decide),_,_,rfl,rfl,_,_,rfl,rfl,Iv (by decide) (by decide),_,_,rfl,rfl,Iv (by decide) (by decide),_,_,rfl,rfl,_,rfl,b,g,l,_,rfl,B3,by omega,λx H4 x0 x1 B4 S4=>?_⟩;dsimp only;rw[M8,e13];refine⟨_,_,rfl,_,_,rfl,_,rfl,HX,λt ht=>?_⟩;have s5:=Hh ht (.tup [V.int (if(if x<1000000000000000 - 10000000000000 then x else 1000000000000000 - 10000000000000)>10000000000000 - 1000000000000000 then(if x<1000000000000000 - 10000000000000 then x else 1000000000000000 - 10000000000000) else 10000000000000 - 1000000000000000),V.int m])
 refine q t _ m _ Hb ?_ ?_ m0 m1 ((B4.same s5).mono (by omega)) ((S3.trans S4).trans s5.sameB)
 · split<;>split<;>omega
 · split<;>split<;>omega
theorem WC(F:Fun K "_law_span" "_law_span" NP f fd)(GB:Γ24 P w K mg base):FnOk P w K mg base Hu 2 f fd ["well","grid","wide"] (Qu):=by
 refine F.ok Ga (λvs H Q E h=>?_) (λcdv A outer s H vs Q E hr h=>?_)
 · obtain⟨b,g,l,t,n,lo,sz,wide,rfl,Bg,hn,et,s1,s2,w1,w2,q⟩:=h;rfl
 obtain⟨b,g,l,t,n,lo,sz,wide,rfl,Bg,hn,et,s1,s2,w1,w2,q⟩:=h;refine⟨_,(Hd (Hr (i:=3) Ga.nd rfl (Or.inl rfl) (Hf GB (hr.mono (by decide)) rfl (GW (pv 0) (GW G_ GX))))
  (Hd (Hr (i:=4) Ga.nd rfl (Or.inl rfl) (Hi HP (HC IX (pv 1) G_ (λ_ _=>rfl)) (Hi JC (HC IX (pv 1) G_ (λ_ _=>rfl)) (Hf GB (hr.mono (by decide)) rfl (GW (pv 0) (GW (pv 2) GX))))))
  (Hd (Hr (i:=5) Ga.nd rfl (Or.inl rfl) (Hi Kb (Hi HP (pv 4) (Hi JC (HC IX (pv 1) G_ (λ_ _=>rfl)) (Hi HP G_ (Hf GB (hr.mono (by decide)) rfl (GW (pv 0) (GW (pv 2) GX)))))) G_))
  (Hd (HG (HI IF (pv 3) G_ (Hz _)) (Hg (Ho (Iu (GW LR (GW LR GX))))) HF)
  (Hd (HG (HI IF (pv 3) G_ (Hz _)) (Hg (Ho (Iu (GW LR (GW (pv 5) GX))))) HF)
  (Hg (Ho (Nr (HI IF (pv 3) G_ (Hz _)) (Iu (GW (pv 4) (GW LR GX))) (Iu (GW (pv 4) (GW (pv 5) GX))))))))))),?_⟩
 refine⟨_,rfl,b,g,l,n,8,rfl,Bg,by omega,by decide,by decide,λpick H1 p0 p1 B1 S1=>?_⟩;have e1:=Bg.tup S1 et;refine⟨_,rfl,t,_,0,_,rfl,rfl,SqT.of e1,rfl,_,rfl,t,_,1,_,rfl,rfl,SqT.of e1,rfl,_,rfl,_,rfl,b,g,l,_,wide,rfl,B1,by omega,by omega,IE (by omega),λx H2 x0 x1 B2 S2=>?_⟩;have e2:=B1.tup S2 e1;refine⟨_,_,rfl,rfl,.inl ⟨by omega,by omega⟩,_,_,rfl,rfl,?_⟩;refine⟨_,rfl,_,rfl,t,_,1,_,rfl,rfl,SqT.of e2,rfl,_,rfl,_,rfl,b,g,l,_,wide,rfl,B2,by omega,by omega,IE (by omega),λy H3 y0 y1 B3 S3=>?_⟩;have S03:=S1.trans (S2.trans S3);refine⟨_,_,rfl,rfl,_,_,rfl,rfl,.inl ⟨by omega,by omega⟩,_,_,rfl,rfl,_,_,rfl,rfl,?_⟩;have hp:1≤sz*(1+y):=by have:1*1≤sz*(1+y):=Fz s1 (by omega) (by decide) (by omega);omega
 dsimp only;generalize sz*(1+y)=d at*;generalize lo+sz*x=L at*;have fin:∀(a b':Option Int),JO a b'=true→∀r,H3 r=none→Q (.ref r) (GY H3 r (.tup [eV a,eV b'])):=λa b' h r hr=>q r a b' _ Hb h ((B3.same (Hh hr _)).mono (by omega)) (S03.trans (Hh hr _).sameB);refine⟨_,rfl,rfl,_,rfl,HD (λ_=>⟨HX,fin none none rfl⟩) (λ_=>?_)⟩;refine⟨_,rfl,rfl,_,rfl,HD (λ_=>⟨_,rfl,HX,fin none (some (L+d - 1)) rfl⟩) (λ_=>?_)⟩;refine⟨_,rfl,rfl,_,rfl,HD (λ_=>⟨_,rfl,HX,fin (some L) none rfl⟩) (λ_=>⟨_,rfl,_,rfl,HX,fin (some L) (some (L+d - 1)) (decide_eq_true (by omega))⟩)⟩
theorem Xf(F:Fun K "_law_wish" "_law_wish" NR f fd)(GB:Γ24 P w K mg base)(GE:Γ29 P w K mg base):FnOk P w K mg base Hu 3 f fd ["well","names","grid","wide"] (Qw):=by
 refine F.ok Gb (λvs H Q E h=>?_) (λcdv A outer s H vs Q E hr h=>?_)
 · obtain⟨b,g,l,a,t,n,lo,sz,wide,fs,rfl,Bg,hn,FA,et,s1,s2,w1,w2,q⟩:=h;rfl
 obtain⟨b,g,l,a,t,n,lo,sz,wide,fs,rfl,Bg,hn,FA,et,s1,s2,w1,w2,q⟩:=h;refine⟨_,(Hd (Hr (i:=4) Gb.nd rfl (Or.inl rfl) (Il GX))
  (Hd (Jg Bz rfl (II (pv 1)) (Hq (i:=5) Gb.nd rfl (Or.inl rfl)) (Hg (HG (HI KI (Hf GB (hr.mono (by decide)) rfl (GW (pv 0) (GW G_ GX))) G_ (Hz _)) (Hd (JE (Hf GE (hr.mono (by decide)) rfl (GW (pv 0) (GW (pv 2) (GW (pv 3) GX)))) (J2 rfl (HH (Hq (i:=6) Gb.nd rfl (Or.inl rfl)) (HH (Hq (i:=7) Gb.nd rfl (Or.inl rfl)) IR))))
  (Hg (Jm (J0 Bc BC BD Ke (pv 4) (GW (Iu (GW (pv 5) (GW (pv 6) (GW (pv 7) GX)))) GX))))) HF)))
  (Hg (Ho (Kz RW rfl B.tuple_ J3 (GW (pv 4) GX)))))),?_⟩
 refine⟨I_,λr hr'=>?_⟩;obtain⟨rb,rg,rl⟩:=Bg.free hr';have s0:=Hh hr' (.lst []);have FA0:=FA.sameB s0.sameB;have rf:r≠a:=λe=>by rw[e,FA.at'] at hr';cases hr'
 refine⟨_,rfl,a,rfl,⟨_,SqL.of FA0.at'⟩,K1 (K:=K) (a:=a) (xs:=fs.map V.str) (λi σ H'=>(∃y5 y6 y7,σ=[some (.ref b),some (.ref a),some (.ref t),some (.int wide),some (.ref r),y5,y6,y7])∧SameB b g H H'∧Well H' b g l (n+4*i)∧NamesAt H' b g a fs∧H' t=some (.tup [.int lo,.int sz])∧
  ∃qs:List (Addr×WP),H' r=some (.lst (qs.map λq=>V.ref q.1))∧(∀q∈qs,H' q.1=some (.tup [.str q.2.1,eV q.2.2.1,eV q.2.2.2])∧JO q.2.2.1 q.2.2.2=true)∧(qs.map (·.2.1)).Sublist (fs.take i)) ?_ ?_ ?_ ?_⟩
 · exact⟨⟨none,none,none,rfl⟩,s0.sameB,(Bg.same s0).mono (by omega),FA0,s0 _ _ et,[],Hb,λq hq=>by simp at hq,by simp⟩
 · rintro i σ H' _ ⟨_,_,_,F1,_⟩;exact SqL.of F1.at'
 · rintro i x σ H1 hx ⟨⟨y5,y6,y7,rfl⟩,S1,B1,F1,t1,qs,e1,a1,u1⟩;rw[Ah] at hx;cases ef:fs[i]? with
   | none=>rw[ef] at hx;cases hx
   | some f'=>
    rw[ef] at hx;obtain rfl:V.str f'=x:=A7 hx;have li:i<6:=by have:=(Am.mp ef).1;have:=FA.len;omega
    refine⟨_,rfl,b,g,l,_,4,rfl,B1,by omega,by decide,by decide,λc H2 c0 c1 B2 S2=>?_⟩;have e2:=S2 _ _ e1 rb rg;have F2:=F1.sameB S2;have t2:=B1.tup S2 t1;have a2:∀q∈qs,H2 q.1=some (.tup [.str q.2.1,eV q.2.2.1,eV q.2.2.2])∧JO q.2.2.1 q.2.2.2=true:=λq hq=>⟨B1.tup S2 (a1 q hq).1,(a1 q hq).2⟩;have u2:(qs.map (·.2.1)).Sublist (fs.take (i+1)):=u1.trans (List.take_sublist_take_left (by omega));refine⟨_,_,rfl,rfl,_,rfl,HD (λ_=>?_) (λ_=>?_)⟩
    · refine⟨_,rfl,_,rfl,_,rfl,b,g,l,t,_,lo,sz,wide,rfl,B2,by omega,t2,s1,s2,w1,w2,λv lo' hi' H3 sp le3 B3 S3=>?_⟩;have e3:=S3 _ _ e2 rb rg;have F3:=F2.sameB S3;have t3:=B2.tup S3 t2;have S03:=S1.trans (S2.trans S3);have a3:∀q∈qs,H3 q.1=some (.tup [.str q.2.1,eV q.2.2.1,eV q.2.2.2])∧JO q.2.2.1 q.2.2.2=true:=λq hq=>⟨B2.tup S3 (a2 q hq).1,(a2 q hq).2⟩;refine⟨v,_,rfl,SqT.of sp,rfl,_,_,rfl,_,_,rfl,rfl,?_⟩;refine⟨_,rfl,.inl ⟨rfl,_,SqL.of e3⟩,_,rfl,_,rfl,_,rfl,KG,λt' ht=>?_⟩;have st:=Hh ht (.tup [V.str f',eV lo',eV hi']);have e4:=st _ _ e3;refine⟨r,_,_,rfl,rfl,e4,(by rw[Ab];have:=u1.length_le;simp at this;exact HR (by omega)),?_⟩;have tl:=QK (o:= .lst (qs.map (λq=>V.ref q.1)++[V.ref t'])) e4;have nr:H r=none:=hr';refine⟨⟨_,_,_,rfl⟩,(S03.trans st.sameB).off nr,((B3.same st).off rb rg rl).mono (by omega),?_,tl _ _ (st _ _ t3),qs++[(t',f',lo',hi')],?_,?_,?_⟩
      · have F4:=F3.sameB st.sameB;exact⟨by rw[Hm rf.symm];exact F4.at',F4.nb,F4.ng,F4.len,F4.ok,F4.asc⟩
      · rw[Hb,Au];rfl
      · intro q hq;rcases AM.mp hq with z | z
        · exact⟨tl _ _ (st _ _ (a3 q z).1),(a3 q z).2⟩
        · rw[Aw.mp z];exact⟨tl _ _ Hb,le3⟩
      · rw[Au,JL ef];exact u1.append (EB _)
    · exact⟨⟨_,_,_,rfl⟩,S1.trans S2,B2.mono (by omega),F2,t2,qs,e2,a2,u2⟩
 · rintro σ H1 ⟨⟨y5,y6,y7,rfl⟩,S1,B1,F1,t1,qs,e1,a1,u1⟩;rw[show fs.take (fs.map V.str).length=fs from AZ (by simp)] at u1;have ll:qs.length≤6:=by have h1:=u1.length_le;have h2:=FA.len;rw[Ab] at h1;omega
   refine⟨_,rfl,r,_,rfl,.inl ⟨SqL.of e1,λt ht=>?_⟩⟩;have st:=Hh ht (.tup (qs.map λq=>V.ref q.1));have sub:∀q∈qs,q.2.1∈fs:=λq hq=>u1.subset (Bm (f:=λ(x:Addr×WP)=>x.2.1) hq);refine q t (qs.map (·.2)) _ ⟨qs,rfl,Hb,λq hq=>st _ _ (a1 q hq).1⟩ ⟨by rw[Ab];omega,λp hp=>?_,?_⟩ (λp hp=>?_) (by rw[Ab];exact ll) ((B1.same st).mono (by rw[Ab];have:=FA.len;omega)) (S1.trans st.sameB)
   · obtain⟨q',hq',rfl⟩:=AU.mp hp;exact⟨FA.ok _ (sub q' hq'),(a1 q' hq').2⟩
   · rw[BK];exact FA.asc.sublist u1
   · obtain⟨q',hq',rfl⟩:=AU.mp hp;exact sub q' hq'
theorem Xv(F:Fun K "_law_wishes" "_law_wishes" Of f fd)(GB:Γ24 P w K mg base)(GF:Γ30 P w K mg base):FnOk P w K mg base Hu 4 f fd ["well","names","grid","wide","many"] (R4):=by
 refine F.ok Gc (λvs H Q E h=>?_) (λcdv A outer s H vs Q E hr h=>?_)
 · obtain⟨b,g,l,a,t,n,lo,sz,wide,many,fs,rfl,Bg,hn,FA,et,s1,s2,w1,w2,m0,m1,q⟩:=h;rfl
 obtain⟨b,g,l,a,t,n,lo,sz,wide,many,fs,rfl,Bg,hn,FA,et,s1,s2,w1,w2,m0,m1,q⟩:=h;refine⟨_,(Hd (Hr (i:=5) Gc.nd rfl (Or.inl rfl) (Il GX))
  (Hd (Jg Bz rfl (JJ rfl B.range_ (GW (pv 4) GX)) (Hq (i:=6) Gc.nd rfl (Or.inl rfl)) (Hd (Hr (i:=7) Gc.nd rfl (Or.inl rfl) (Hf GB (hr.mono (by decide)) rfl (GW (pv 0) (GW G_ GX))))
  (Hd (Hr (i:=8) Gc.nd rfl (Or.inl rfl) (Hf GF (hr.mono (by decide)) rfl (GW (pv 0) (GW (pv 1) (GW (pv 2) (GW (pv 3) GX))))))
  (Hd (HG (PW.pt (MP (HI (SM (K0 hr)) (pv 5) (Il GX) (Hz _)) (Ng (HI LQ (pv 7) G_ (Hz _))))) (Hd (Hr (i:=9) Gc.nd rfl (Or.inl rfl) (HC HZ (pv 5) (Hf GB (hr.mono (by decide)) rfl (GW (pv 0) (GW (Hl HY rfl B.len_ HN (GW (pv 5) GX)) GX))) (λ_ _=>rfl)))
  (Hd (Hr (i:=10) Gc.nd rfl (Or.inl rfl) (Hf GB (hr.mono (by decide)) rfl (GW (pv 0) (GW (Hi HP (Hl HY rfl B.len_ HN (GW (pv 9) GX)) G_) GX))))
  (Hg (Hr (i:=8) Gc.nd rfl (Or.inl rfl) (Nr (HI IF (pv 7) G_ (Hz _)) (pv 9) (Hi Nd (Jp LW (pv 9) Jk (Jl (pv 10))) (Jp LW (pv 9) (Jl (Hi HP (pv 10) G_)) Jk))))))) HF)
  (Hg (Jm (J0 Bc BC BD Ke (pv 5) (GW (pv 8) GX))))))))
  (Hg (Ho (pv 5))))),?_⟩
 refine⟨I_,λr hr'=>?_⟩;obtain⟨rb,rg,rl⟩:=Bg.free hr';have s0:=Hh hr' (.lst []);have e0:(GY H r (.lst [])) r=some (.lst []):=Hb;have FA0:=FA.sameB s0.sameB;have rf:r≠a:=λe=>by rw[e,FA.at'] at hr';cases hr'
 have nr:H r=none:=hr';have B0:=Bg.same s0;have t0:=s0 _ _ et;generalize GY H r (.lst [])=H0 at*;obtain⟨N,rfl,N1⟩:∃N:Nat,many=(N:Int)∧N≤400:=⟨many.toNat,by omega,by omega⟩;refine⟨_,rfl,_,rfl,by omega,by omega,N5 (lo:=0) (n:=N) (λi σ H'=>(∃y6 y7 y8 y9 y10,σ=[some (.ref b),some (.ref a),some (.ref t),some (.int wide),some (.int (N:Int)),some (.ref r),y6,y7,y8,y9,y10])∧SameB b g H H'∧Well H' b g l (n+40*i)∧NamesAt H' b g a fs∧H' t=some (.tup [.int lo,.int sz])∧
  ∃ws:List (Addr×List WP),H' r=some (.lst (ws.map λx=>V.ref x.1))∧ws.length=i∧∀x∈ws,WishAt H' x.1 x.2∧WOk x.2∧KZ fs x.2∧x.2.length≤6) ?_ ?_ ?_⟩
 · exact⟨⟨none,none,none,none,none,rfl⟩,s0.sameB,B0.mono (by omega),FA0,t0,[],e0,rfl,λx hx=>by simp at hx⟩
 · rintro i σ H1 hi ⟨⟨y6,y7,y8,y9,y10,rfl⟩,S1,B1,F1,t1,ws,e1,lw,g1⟩;refine⟨_,rfl,b,g,l,_,6,rfl,B1,by omega,by decide,by decide,λpick H2 p0 p1 B2 S2=>?_⟩;refine⟨_,rfl,_,rfl,_,rfl,_,rfl,b,g,l,a,t,_,lo,sz,wide,fs,rfl,B2,by omega,F1.sameB S2,B1.tup S2 t1,s1,s2,w1,w2,λwr w H3 W3 ok3 in3 len3 B3 S3=>?_⟩;have S13:=S2.trans S3;have e3:=S13 _ _ e1 rb rg;have F3:=F1.sameB S13;have t3:=B2.tup S3 (B1.tup S2 t1);have g3:∀x∈ws,WishAt H3 x.1 x.2∧WOk x.2∧KZ fs x.2∧x.2.length≤6:=λx hx=>⟨((g1 x hx).1.sameW B1 S2).sameW B2 S3,(g1 x hx).2⟩;refine HQ ?_;dsimp only;refine J4 (λσ' H'=>∃(wr:Addr)(w:List WP)(y9 y10:Option V),σ'=[some (.ref b),some (.ref a),some (.ref t),some (.int wide),some (.int (N:Int)),some (.ref r),some (.int (0+(i:Int))),some (.int pick),some (.ref wr),y9,y10]∧WishAt H' wr w∧WOk w∧KZ fs w∧w.length≤6∧SameB b g H3 H'∧Well H' b g l (n+40*i+35)) (λZ hZ=>?_) ?_
   · refine⟨_,rfl,I_,λep hep=>?_⟩;have s4:=Hh hep (.lst []);have e4:=s4 _ _ e3;have g4:∀x∈ws,WishAt (GY H3 ep (.lst [])) x.1 x.2∧WOk x.2∧KZ fs x.2∧x.2.length≤6:=λx hx=>⟨(g3 x hx).1.same s4,(g3 x hx).2⟩;have B4:=B3.same s4;have W4:=W3.same s4;have h4:(GY H3 ep (.lst [])) ep=some (.lst []):=Hb;generalize GY H3 ep (.lst [])=H4 at*;have nope:Z [some (.ref b),some (.ref a),some (.ref t),some (.int wide),some (.int (N:Int)),some (.ref r),some (.int (0+(i:Int))),some (.int pick),some (.ref wr),y9,y10] H4:=hZ _ _ ⟨wr,w,y9,y10,rfl,W4,ok3,in3,len3,s4.sameB,B4.mono (by omega)⟩;refine⟨r,ep,_,rfl,rfl,e4,h4,_,rfl,?_⟩;by_cases hw:ws=[]
     · subst hw;exact Ha (Ha nope)
     · have wpos:0<ws.length:=FM.mpr hw;have ne:(ws.map λx=>V.ref x.1).isEmpty=false:=by
        cases ws with
        | nil=>exact absurd rfl hw
        | cons x0 r0=>rfl
       rw[ne];refine Hc ⟨_,rfl,_,_,rfl,rfl,_,rfl,HD (λ_=>?_) (λ_=>nope)⟩;refine⟨_,rfl,_,rfl,_,rfl,r,_,rfl,.inl (SqL.of e4),b,g,l,_,_,rfl,B4,by omega,by rw[Ab];omega,IE (by rw[Ab];omega),λk H5 k0 k1 B5 S5=>?_⟩;have e5:=S5 _ _ e4 rb rg;rw[Ab] at k1;obtain⟨j,rfl⟩:∃j:Nat,k=(j:Int):=⟨k.toNat,by omega⟩;obtain⟨X1,eX⟩:∃X1,ws[j]?=some X1:=⟨ws[j]'(by omega),AB (by omega)⟩;have hX:Ie (ws.map λx=>V.ref x.1) (j:Int)=some (V.ref X1.1):=J5 (by rw[Ah,eX];rfl);obtain⟨x1,x2,x3,x4⟩:=g4 X1 (Aq eX);have x5:=x1.sameW B4 S5;refine⟨r,_,_,_,rfl,rfl,SqL.of e5,hX,?_⟩;obtain⟨xs1,ex1,lx1⟩:=x5.tyN;refine⟨_,rfl,_,rfl,X1.1,_,rfl,.inr (SqT.of ex1),_,_,rfl,rfl,b,g,l,_,_,rfl,B5,by omega,by omega,IE (by omega),λat' H6 a0 a1 B6 S6=>?_⟩;have x6:=x5.sameW B5 S6;have S36:=s4.sameB.trans (S5.trans S6);refine⟨_,rfl,rfl,_,rfl,HD (λ_=>⟨_,rfl,hZ _ _ ⟨X1.1,X1.2,_,_,rfl,x6,x2,x3,x4,S36,B6.mono (by omega)⟩⟩) (λ_=>?_)⟩;obtain⟨k',rfl⟩:∃k':Nat,at'=(k':Int):=⟨at'.toNat,by omega⟩;obtain⟨ps,hps,hA,hP⟩:=x6;have lps:ps.length≤6:=by rw[←hps,Ab] at x4;exact x4
       refine⟨_,rfl,_,rfl,_,rfl,X1.1,_,rfl,hA,λp1 H12 s12 e12=>?_⟩;rw[N4 rfl,←E2] at e12;refine⟨_,rfl,_,rfl,_,_,rfl,rfl,_,rfl,X1.1,_,rfl,s12 _ _ hA,λp2 H13 s13 e13=>?_⟩;rw[Rs (n:=k'+1) (by omega),←List.map_drop] at e13;refine⟨p1,p2,_,_,rfl,rfl,s13 _ _ e12,e13,(by rw[Ab,AC,Ab,Db];exact Pd (by omega)),λr2 H14 s14 e14=>?_⟩;rw[←Au] at e14;have tt:=s12.trans (s13.trans s14);have sub:(ps.take k'++ps.drop (k'+1)).Sublist ps:=by rw[←List.eraseIdx_eq_take_drop_succ];exact List.eraseIdx_sublist ..
       have subw:((ps.take k'++ps.drop (k'+1)).map (·.2)).Sublist X1.2:=by rw[←hps];exact sub.map _
       refine hZ _ _ ⟨r2,(ps.take k'++ps.drop (k'+1)).map (·.2),_,_,rfl,⟨_,rfl,e14,λx hx=>tt _ _ (hP x (sub.subset hx))⟩,⟨AF subw.length_le x2.len,λp hp=>x2.ok p (subw.subset hp),x2.asc.sublist (subw.map _)⟩,λp hp=>x3 p (subw.subset hp),AF subw.length_le x4,S36.trans tt.sameB,(B6.same tt).mono (by omega)⟩
   rintro σ' H5 ⟨wr,w,y9,y10,rfl,W5,ok5,in5,len5,S5,B5⟩;have e5:=S5 _ _ e3 rb rg;have F5:=F3.sameB S5;refine⟨_,rfl,.inl ⟨rfl,_,SqL.of e5⟩,_,rfl,r,_,_,rfl,rfl,e5,(by rw[Ab];exact HR (by omega)),?_⟩;have tl:=QK (o:= .lst (ws.map (λq=>V.ref q.1)++[V.ref wr])) e5;refine⟨⟨_,_,_,_,_,rfl⟩,((S1.trans S13).trans S5).off nr,(B5.off rb rg rl).mono (by omega),⟨by rw[Hm rf.symm];exact F5.at',F5.nb,F5.ng,F5.len,F5.ok,F5.asc⟩,tl _ _ (B3.tup S5 t3),ws++[(wr,w)],by rw[Hb,Au];rfl,by rw[AG,lw];rfl,λx hx=>?_⟩;rcases AM.mp hx with z | z
   · exact⟨((g3 x z).1.sameW B3 S5).keep tl,(g3 x z).2⟩
   · rw[Aw.mp z];exact⟨W5.keep tl,ok5,in5,len5⟩
 · rintro σ H1 ⟨⟨y6,y7,y8,y9,y10,rfl⟩,S1,B1,F1,t1,ws,e1,lw,g1⟩;exact⟨_,rfl,q r ws _ nr ⟨e1,λx hx=>⟨(g1 x hx).1,(g1 x hx).2.1⟩,by omega⟩ (by omega) (λx hx=>(g1 x hx).2.2) (B1.mono (by omega)) S1⟩
theorem WH(F:Fun K "_law_wants" "_law_wants" NG f fd)  :FnOk P w K mg base Hu 1 f fd ["wish","piece"] (LY):=by
 refine F.ok Gd (λvs H Q E h=>?_) (λcdv A outer s H vs Q E hr h=>?_)
 · obtain⟨a,b,w',p,rfl,hw,hp,pok,q⟩:=h;rfl
 obtain⟨a,b,w',p,rfl,hw,hp,pok,q⟩:=h;refine⟨_,(Hd (Hr (i:=2) Gd.nd rfl (Or.inl rfl) (Kz (Wa rfl) rfl B.dict_ TV (GW (pv 1) GX)))
  (Hd (Jg Bz rfl (Lg (pv 0)) (J2 rfl (HH (Hq (i:=3) Gd.nd rfl (Or.inl rfl)) (HH (Hq (i:=4) Gd.nd rfl (Or.inl rfl)) (HH (Hq (i:=5) Gd.nd rfl (Or.inl rfl)) IR)))) (Hd (HG (KN (Ra (Ld hr) (pv 3) (pv 2)) (by with_unfolding_all rfl)) (Hg (Ho Ij)) HF)
  (Hg (HG (PW.pt (IU (PW.pt (MP (KN (PY (pv 4))) (Ng (HI LQ (Nf (Ld hr) (pv 2) (pv 3) (λ_ _=>rfl)) (pv 4) (Hz _))))) (IV (PW.pt (MP (KN (PY (pv 5))) (Ng (HI KI (Nf (Ld hr) (pv 2) (pv 3) (λ_ _=>rfl)) (pv 5) (Hz _)))))))) (Hg (Ho Ij)) HF))))
  (Hg (Ho Ij)))),?_⟩
 obtain⟨ps,rfl,hA,hP⟩:=hp;have ll:ps.length≤100:=by have:=pok.len;rw[Ab] at this;exact this
 refine⟨_,rfl,b,Ji ps,rfl,?_,?_,λd hd=>?_⟩
 · unfold Ji;rw[BK];exact hA
 · intro r hr';unfold Ji at hr';obtain⟨P1,hm,rfl⟩:=AU.mp hr';exact hP P1 hm
 have s1:=Hh hd (.dK ((Ji ps).foldl (λacc p=>Hw acc p.2.1 p.2.2) []));have h1:(GY H d (.dK ((Ji ps).foldl (λacc p=>Hw acc p.2.1 p.2.2) []))) d=some (.dK ((Ji ps).foldl (λacc p=>Hw acc p.2.1 p.2.2) [])):=Hb;have h3:∀f:Str,Hv ((Ji ps).foldl (λacc p=>Hw acc p.2.1 p.2.2) []) (.inr f:Hs)=(IL (ps.map (·.2)) f).map V.int:=Ws ps pok;generalize(Ji ps).foldl (λacc p=>Hw acc p.2.1 p.2.2) []=kvs at*;generalize GY H d (.dK kvs)=H1 at*;obtain⟨ws,rfl,hB,hW⟩:=hw.same s1;refine⟨_,rfl,a,rfl,⟨_,SqT.of hB⟩,Qh (K:=K) (a:=a) (xs:=ws.map λp=>V.ref p.1) (λi σ H'=>(∃y3 y4 y5,σ=[some (.ref a),some (.ref b),some (.ref d),y3,y4,y5])∧Same H1 H'∧IH ((ws.map (·.2)).take i) (ps.map (·.2))=true) ⟨⟨none,none,none,rfl⟩,Same.refl _,rfl⟩ (λi σ H' _ ⟨_,s,_⟩=>s.seqT (SqT.of hB)) ?_ ?_⟩
 · rintro i x σ H' hx ⟨⟨y2,y3,y4,rfl⟩,s,hr'⟩;obtain⟨P1,e1,rfl⟩:=Ip hx;have hm:=Aq e1;have ew:(ws.map (·.2))[i]?=some P1.2:=by rw[Ah,e1];rfl
   have k1:=s _ _ h1;have kf:=h3 P1.2.1;refine⟨P1.1,_,rfl,SqT.of (s _ _ (hW P1 hm)),rfl,_,_,rfl,_,_,rfl,_,_,rfl,rfl,?_⟩;have out:Kc (ps.map (·.2)) P1.2=false→IH (ws.map (·.2)) (ps.map (·.2))=false:=λh=>RU (Bm hm) h;refine⟨_,rfl,_,rfl,d,_,rfl,DGet.k (k:=Sum.inr P1.2.1) k1,_,rfl,?_⟩;cases hs:IL (ps.map (·.2)) P1.2.1 with
   | none=> rw[hs] at kf;rw[kf];refine Hc ?_;have o1:=out (RE hs);rw[o1] at q;exact q _ (s1.trans s)
   | some n=>
    rw[hs] at kf;rw[kf];refine Ha ?_;have gd:DGet H' d (.str P1.2.1) (some (.int n)):=by have:=DGet.k (k:=Sum.inr P1.2.1) k1;rw[kf] at this;exact this
    have tp:=NI hs;have bad:Iw P1.2.2.1 P1.2.2.2 n=false→Q (.bl false) H':=λhb=>by have o1:=out (tp.trans hb);rw[o1] at q;exact q _ (s1.trans s)
    have good:Iw P1.2.2.1 P1.2.2.2 n=true→IH ((ws.map (·.2)).take (i+1)) (ps.map (·.2))=true:=λhb=>by rw[JL ew];unfold IH at*;rw[List.all_append,hr',E1,C2,List.all_nil,tp,hb];rfl
    obtain⟨pa,f',lo,hi⟩:=P1;dsimp only at gd bad good;have low:∀l,lo=some l→n<l→Iw lo hi n=false:=λl e h=>by subst e;unfold Iw;rw[show Kl (some l) n=false from decide_eq_false (by omega)];rfl
    have high:∀h',hi=some h'→h'<n→Iw lo hi n=false:=λh' e h=>by subst e;unfold Iw;rw[show Km (some h') n=false from decide_eq_false (by omega),CU]
    cases lo with
    | none=>
     refine⟨_,rfl,_,rfl,Ha (Ha ?_)⟩;cases hi with
     | none=>exact⟨_,rfl,_,rfl,Ha (Ha ⟨⟨_,_,_,rfl⟩,s,good rfl⟩)⟩
     | some h'=>
      refine⟨_,rfl,_,rfl,Hc ⟨_,rfl,_,rfl,d,_,rfl,gd,_,rfl,_,_,rfl,rfl,_,rfl,HD (λh=>?_) (λh=>?_)⟩⟩
      · exact bad (high h' rfl (of_decide_eq_true h))
      · refine⟨⟨_,_,_,rfl⟩,s,good ?_⟩;have:¬n>h':=λz=>h (decide_eq_true z);simp[Iw,Kl,Km];omega
    | some l'=>
     refine⟨_,rfl,_,rfl,Hc ⟨_,rfl,_,rfl,d,_,rfl,gd,_,rfl,_,_,rfl,rfl,_,rfl,HD (λh=>?_) (λh=>?_)⟩⟩
     · exact Hc (bad (low l' rfl (of_decide_eq_true h)))
     · have hl':¬n<l':=λz=>h (decide_eq_true z);cases hi with
       | none=> refine⟨_,rfl,_,rfl,Ha (Ha ⟨⟨_,_,_,rfl⟩,s,good ?_⟩)⟩;simp[Iw,Kl,Km];omega
       | some h'=>
        refine⟨_,rfl,_,rfl,Hc ⟨_,rfl,_,rfl,d,_,rfl,gd,_,rfl,_,_,rfl,rfl,_,rfl,HD (λh=>?_) (λh=>?_)⟩⟩
        · exact bad (high h' rfl (of_decide_eq_true h))
        · refine⟨⟨_,_,_,rfl⟩,s,good ?_⟩;have:¬n>h':=λz=>h (decide_eq_true z);simp[Iw,Kl,Km];omega
 · rintro σ H' ⟨_,s,hr'⟩;rw[show(ws.map (·.2)).take (ws.map λp=>V.ref p.1).length=ws.map (·.2) from AZ (by simp)] at hr';rw[hr'] at q;exact q _ (s1.trans s)
theorem WG(F:Fun K "_law_alike" "_law_alike" Mv f fd)  (M_self:mg "_law_alike"=some (.ref f)):FnOk P w K mg base Hu 11 f fd ["found","due"] (MT 9 Nc):=by
 have b_self:=F.binds (ps:=["found","due"]) λ_ _ _ _ _ _=>lS λ_=>lS λ_=>l0 rfl
 refine TQ (L:=0) (D:=9) (P3 F RJ b_self M_self 0 (Nc) λn sp0 hsp GG=>?_);refine F.ok RJ (λvs H Q E h=>?_) (λcdv A outer s H vs Q E hr h=>?_)
 · obtain⟨v,v',d,rfl,n9,h1,h2,hn,q⟩:=h;rfl
 obtain⟨v,v',d,rfl,n9,h1,h2,hn,q⟩:=h;refine⟨_,(Hd (HG (Ii (Hl RF rfl B.isinstance_ Ih (GW (pv 1) (GW (Iu (GW (Ia (v:= .ty "list") rfl B.list_ Jc rfl) (GW (Ia (v:= .ty "tuple") rfl B.tuple_ J3 rfl) GX))) GX)))) (Hd (HG (PW.pt (IU (Im (Ii (Hl RF rfl B.isinstance_ Ih (GW (pv 0) (GW (Iu (GW (Ia (v:= .ty "list") rfl B.list_ Jc rfl) (GW (Ia (v:= .ty "tuple") rfl B.tuple_ J3 rfl) GX))) GX))))) (IV (HI Ku (Hl (Ik (n:="")) rfl B.isinstance_ Ih (GW (pv 0) (GW (Ia (v:= .ty "list") rfl B.list_ Jc rfl) GX))) (Hl (Ik (n:="")) rfl B.isinstance_ Ih (GW (pv 1) (GW (Ia (v:= .ty "list") rfl B.list_ Jc rfl) GX))) (Hz _))))) (Hg (Ho Ij)) HF)
  (Hg (Ho (IM (J6 IF (Hl HY rfl B.len_ HN (GW (pv 0) GX)) (Hl HY rfl B.len_ HN (GW (pv 1) GX)) (Hz _)) (IC (Hl (Kg rfl) rfl B.all_ Ka (GW (IG (N':=["k","found","due"]) (js:=[none,some 0,some 1]) rfl (Ig (N:=["found","due"]) (outer:=Hj Mv) (by decide+kernel)) (JJ rfl B.range_ (GW (Hl HY rfl B.len_ HN (GW (pv 1) GX)) GX)) (λ_ _ _ _ _=>(Hq (i:=0) LA rfl (Or.inl rfl))) (λ_ _ _ _ _=>IB) (λ_ _ _ _ _=>(Hf GG (hr.mono (by omega)) rfl (GW (HC (Qj K rfl) (pv 1) (pv 0) (λ_ _=>rfl)) (GW (HC (Qj K rfl) (pv 2) (pv 0) (λ_ _=>rfl)) GX))))) GX))))))) HF)
  (Hd (HG (PW.pt (IU (KN (JD (pv 1))) (IV (KN (JD (pv 0)))))) (Hg (Ho (IM (Kw (JD (pv 1))) (IC (Kw (JD (pv 0))))))) HF)
  (Hd (HG (PW.pt (IU (HI Ku (Hl (Ik (n:="")) rfl B.isinstance_ Ih (GW (pv 1) (GW (Ia (v:= .ty "bool") rfl B.bool_ MW rfl) GX))) (Hl (Ik (n:="")) rfl B.isinstance_ Ih (GW (pv 0) (GW (Ia (v:= .ty "bool") rfl B.bool_ MW rfl) GX))) (Hz _)) (IV (HI Ku (Hl (Ik (n:="")) rfl B.isinstance_ Ih (GW (pv 1) (GW (Ia (v:= .ty "int") rfl B.int_ ML rfl) GX))) (Hl (Ik (n:="")) rfl B.isinstance_ Ih (GW (pv 0) (GW (Ia (v:= .ty "int") rfl B.int_ ML rfl) GX))) (Hz _))))) (Hg (Ho Ij)) HF)
  (Hg (Ho (IM (J6 IF (Hl (Ik (n:="")) rfl B.isinstance_ Ih (GW (pv 0) (GW (Ia (v:= .ty "str") rfl B.str_ MS rfl) GX))) (Hl (Ik (n:="")) rfl B.isinstance_ Ih (GW (pv 1) (GW (Ia (v:= .ty "str") rfl B.str_ MS rfl) GX))) (Hz _)) (IC (J6 (SL (K0 hr)) (pv 0) (pv 1) (Hz _))))))))),?_⟩
 cases d with
 | non=> rw[RepY] at h1 h2;subst h1 h2;refine⟨_,rfl,HX,λt1 ht1=>?_⟩;have s1:=Hh ht1 (.tup [V.ty "list",V.ty "tuple"]);have c1:(GY H t1 (.tup [V.ty "list",V.ty "tuple"])) t1=some (.tup [V.ty "list",V.ty "tuple"]):=Hb;generalize GY H t1 (.tup [V.ty "list",V.ty "tuple"])=H1 at*;refine⟨_,"NoneType",t1,_,false,rfl,.non,c1,rfl,rfl,_,rfl,Ha ?_⟩;exact⟨_,rfl,_,rfl,Hc (Hc ⟨_,rfl,_,rfl,Hc ⟨_,rfl,q H1 s1⟩⟩)⟩
 | bl x=> have r1:=h1;have r2:=h2;rw[RepY] at h1 h2;subst h1 h2;refine⟨_,rfl,HX,λt1 ht1=>?_⟩;have s1:=Hh ht1 (.tup [V.ty "list",V.ty "tuple"]);have c1:(GY H t1 (.tup [V.ty "list",V.ty "tuple"])) t1=some (.tup [V.ty "list",V.ty "tuple"]):=Hb;generalize GY H t1 (.tup [V.ty "list",V.ty "tuple"])=H1 at*;refine⟨_,"bool",t1,_,false,rfl,.bl x,c1,rfl,rfl,_,rfl,Ha ?_⟩;refine⟨_,rfl,_,rfl,Ha ⟨_,rfl,_,rfl,Ha ?_⟩⟩;refine⟨_,rfl,_,"bool","bool",true,rfl,.bl x,rfl,_,rfl,_,"bool","bool",true,rfl,.bl x,rfl,rfl,_,rfl,Ha ?_⟩;refine⟨_,rfl,_,"bool","int",true,rfl,.bl x,rfl,_,rfl,_,"bool","int",true,rfl,.bl x,rfl,rfl,_,rfl,Ha ?_⟩;refine⟨_,rfl,_,"bool","str",false,rfl,.bl x,rfl,_,rfl,_,"bool","str",false,rfl,.bl x,rfl,rfl,_,rfl,Hc ?_⟩;exact⟨_,rfl,_,rfl,_,RepY.same s1 _ r1,RepY.same s1 _ r2,by omega,q H1 s1⟩
 | int x=> have r1:=h1;have r2:=h2;rw[RepY] at h1 h2;subst h1 h2;refine⟨_,rfl,HX,λt1 ht1=>?_⟩;have s1:=Hh ht1 (.tup [V.ty "list",V.ty "tuple"]);have c1:(GY H t1 (.tup [V.ty "list",V.ty "tuple"])) t1=some (.tup [V.ty "list",V.ty "tuple"]):=Hb;generalize GY H t1 (.tup [V.ty "list",V.ty "tuple"])=H1 at*;refine⟨_,"int",t1,_,false,rfl,.int x,c1,rfl,rfl,_,rfl,Ha ?_⟩;refine⟨_,rfl,_,rfl,Ha ⟨_,rfl,_,rfl,Ha ?_⟩⟩;refine⟨_,rfl,_,"int","bool",false,rfl,.int x,rfl,_,rfl,_,"int","bool",false,rfl,.int x,rfl,rfl,_,rfl,Ha ?_⟩;refine⟨_,rfl,_,"int","int",true,rfl,.int x,rfl,_,rfl,_,"int","int",true,rfl,.int x,rfl,rfl,_,rfl,Ha ?_⟩;refine⟨_,rfl,_,"int","str",false,rfl,.int x,rfl,_,rfl,_,"int","str",false,rfl,.int x,rfl,rfl,_,rfl,Hc ?_⟩;exact⟨_,rfl,_,rfl,_,RepY.same s1 _ r1,RepY.same s1 _ r2,by omega,q H1 s1⟩
 | str x=> have r1:=h1;have r2:=h2;rw[RepY] at h1 h2;obtain⟨rfl,hx⟩:=h1;obtain⟨rfl,_⟩:=h2;refine⟨_,rfl,HX,λt1 ht1=>?_⟩;have s1:=Hh ht1 (.tup [V.ty "list",V.ty "tuple"]);have c1:(GY H t1 (.tup [V.ty "list",V.ty "tuple"])) t1=some (.tup [V.ty "list",V.ty "tuple"]):=Hb;generalize GY H t1 (.tup [V.ty "list",V.ty "tuple"])=H1 at*;refine⟨_,"str",t1,_,false,rfl,.str x,c1,rfl,rfl,_,rfl,Ha ?_⟩;refine⟨_,rfl,_,rfl,Ha ⟨_,rfl,_,rfl,Ha ?_⟩⟩;refine⟨_,rfl,_,"str","bool",false,rfl,.str x,rfl,_,rfl,_,"str","bool",false,rfl,.str x,rfl,rfl,_,rfl,Ha ?_⟩;refine⟨_,rfl,_,"str","int",false,rfl,.str x,rfl,_,rfl,_,"str","int",false,rfl,.str x,rfl,rfl,_,rfl,Ha ?_⟩;refine⟨_,rfl,_,"str","str",true,rfl,.str x,rfl,_,rfl,_,"str","str",true,rfl,.str x,rfl,rfl,_,rfl,Hc ?_⟩;exact⟨_,rfl,_,rfl,_,RepY.same s1 _ r1,RepY.same s1 _ r2,by omega,q H1 s1⟩
 | dic=> have r1:=h1;have r2:=h2;rw[RepY] at h1 h2;obtain⟨a,rfl,ha⟩:=h1;obtain⟨a',rfl,ha'⟩:=h2;refine⟨_,rfl,HX,λt1 ht1=>?_⟩;have s1:=Hh ht1 (.tup [V.ty "list",V.ty "tuple"]);have c1:(GY H t1 (.tup [V.ty "list",V.ty "tuple"])) t1=some (.tup [V.ty "list",V.ty "tuple"]):=Hb;generalize GY H t1 (.tup [V.ty "list",V.ty "tuple"])=H1 at*;refine⟨_,"dict",t1,_,false,rfl,.dK (s1 _ _ ha'),c1,rfl,rfl,_,rfl,Ha ?_⟩;refine⟨_,rfl,_,rfl,Ha ⟨_,rfl,_,rfl,Ha ?_⟩⟩;refine⟨_,rfl,_,"dict","bool",false,rfl,.dK (s1 _ _ ha'),rfl,_,rfl,_,"dict","bool",false,rfl,.dK (s1 _ _ ha),rfl,rfl,_,rfl,Ha ?_⟩;refine⟨_,rfl,_,"dict","int",false,rfl,.dK (s1 _ _ ha'),rfl,_,rfl,_,"dict","int",false,rfl,.dK (s1 _ _ ha),rfl,rfl,_,rfl,Ha ?_⟩;refine⟨_,rfl,_,"dict","str",false,rfl,.dK (s1 _ _ ha),rfl,_,rfl,_,"dict","str",false,rfl,.dK (s1 _ _ ha'),rfl,rfl,_,rfl,Hc ?_⟩;exact⟨_,rfl,_,rfl,_,RepY.same s1 _ r1,RepY.same s1 _ r2,by omega,q H1 s1⟩
 | da d=> have r1:=h1;have r2:=h2;rw[RepY] at h1 h2;obtain⟨a,u,rfl,ha,hu⟩:=h1;obtain⟨a',u',rfl,ha',hu'⟩:=h2;refine⟨_,rfl,HX,λt1 ht1=>?_⟩;have s1:=Hh ht1 (.tup [V.ty "list",V.ty "tuple"]);have c1:(GY H t1 (.tup [V.ty "list",V.ty "tuple"])) t1=some (.tup [V.ty "list",V.ty "tuple"]):=Hb;generalize GY H t1 (.tup [V.ty "list",V.ty "tuple"])=H1 at*;refine⟨_,"dict",t1,_,false,rfl,.dK (s1 _ _ ha'),c1,rfl,rfl,_,rfl,Ha ?_⟩;refine⟨_,rfl,_,rfl,Ha ⟨_,rfl,_,rfl,Ha ?_⟩⟩;refine⟨_,rfl,_,"dict","bool",false,rfl,.dK (s1 _ _ ha'),rfl,_,rfl,_,"dict","bool",false,rfl,.dK (s1 _ _ ha),rfl,rfl,_,rfl,Ha ?_⟩;refine⟨_,rfl,_,"dict","int",false,rfl,.dK (s1 _ _ ha'),rfl,_,rfl,_,"dict","int",false,rfl,.dK (s1 _ _ ha),rfl,rfl,_,rfl,Ha ?_⟩;refine⟨_,rfl,_,"dict","str",false,rfl,.dK (s1 _ _ ha),rfl,_,rfl,_,"dict","str",false,rfl,.dK (s1 _ _ ha'),rfl,rfl,_,rfl,Hc ?_⟩;exact⟨_,rfl,_,rfl,_,RepY.same s1 _ r1,RepY.same s1 _ r2,by omega,q H1 s1⟩
 | lst ds=>
  rw[RepY] at h1 h2;obtain⟨a,xs,rfl,ha,h9,hx⟩:=h1;obtain⟨a',xs',rfl,ha',_,hx'⟩:=h2;obtain⟨m,rfl⟩:∃m,n=m+1:=⟨n - 1,by rw[HE] at hn;omega⟩;have e0:=hsp m rfl;subst e0;rw[HE] at hn;have hl:=hx.length;have hl':=hx'.length;refine⟨_,rfl,HX,λt1 ht1=>?_⟩;have s1:=Hh ht1 (.tup [V.ty "list",V.ty "tuple"]);have c1:(GY H t1 (.tup [V.ty "list",V.ty "tuple"])) t1=some (.tup [V.ty "list",V.ty "tuple"]):=Hb;generalize GY H t1 (.tup [V.ty "list",V.ty "tuple"])=H1 at*;refine⟨_,"list",t1,_,true,rfl,.lst (s1 _ _ ha'),c1,rfl,rfl,_,rfl,Hc ⟨_,rfl,HX,λt2 ht2=>?_⟩⟩;have s2:=Hh ht2 (.tup [V.ty "list",V.ty "tuple"]);have c2:(GY H1 t2 (.tup [V.ty "list",V.ty "tuple"])) t2=some (.tup [V.ty "list",V.ty "tuple"]):=Hb;generalize GY H1 t2 (.tup [V.ty "list",V.ty "tuple"])=H2 at*;have S:=s1.trans s2;have ka:=S _ _ ha;have ka':=S _ _ ha';refine⟨_,"list",t2,_,true,rfl,.lst ka,c2,rfl,rfl,_,rfl,Ha ⟨_,rfl,_,"list","list",true,rfl,.lst ka,rfl,_,rfl,_,"list","list",true,rfl,.lst ka',rfl,rfl,_,rfl,Ha ?_⟩⟩;refine⟨_,rfl,a,_,rfl,.inl (SqL.of ka),_,rfl,a',_,rfl,.inl (SqL.of ka'),rfl,_,rfl,?_⟩;rw[decide_eq_true (show V.int ((xs.length:Nat):Int)=V.int ((xs'.length:Nat):Int) by rw[hl,hl'])];refine Hc ⟨_,rfl,a',_,rfl,.inl (SqL.of ka'),_,rfl,by omega,by omega,λp hp=>?_⟩;have s3:=Hh hp (.lst []);refine K2 (n:=((xs'.length:Nat):Int).toNat) (λi σ' ys H'=>(∃v,σ'=[v,some (.ref a),some (.ref a')])∧Same H2 H'∧H' p=some (.lst ys)∧ys=(AA i true).map V.bl) ⟨⟨none,rfl⟩,s3,Hb,rfl⟩ ?_ ?_ ?_
  · rintro i σ' ys H' hi ⟨_,_,h1,h2⟩;exact⟨h1,by rw[h2,Ab,Bk];exact HR (by omega)⟩
  · rintro i σ' ys H4 N hi ⟨⟨v,rfl⟩,s4,h1,h2⟩ hN;have hi2:i<xs'.length:=by omega
    obtain⟨x,ex⟩:∃x,xs[i]?=some x:=⟨xs[i]'(by omega),by simp[hl,hl',hi2]⟩;obtain⟨x',ex'⟩:∃x,xs'[i]?=some x:=⟨xs'[i],by simp[hi2]⟩;obtain⟨d,ed,rd⟩:=hx.get ex;obtain⟨d',ed',rd'⟩:=hx'.get ex';rw[ed] at ed';injection ed' with ed';subst ed';have e0:(0:Int)+(i:Int)=(i:Int):=by omega
    have at1:Ie xs (0+(i:Int))=some x:=by rw[e0];exact J5 ex
    have at2:Ie xs' (0+(i:Int))=some x':=by rw[e0];exact J5 ex'
    have S4:=S.trans s4;refine⟨_,rfl,_,rfl,a,xs,_,x,rfl,rfl,.inl (SqL.of (S4 _ _ ha)),at1,_,rfl,_,rfl,a',xs',_,x',rfl,rfl,.inl (SqL.of (S4 _ _ ha')),at2,x,x',d,rfl,by omega,RepY.same S4 d rd,RepY.same S4 d rd',by have:=Ny (Aq ed);omega,λH5 s5=>⟨s5 _ _ h1,hN _ _ _ ⟨⟨_,rfl⟩,?_,Hb,?_⟩⟩⟩
    · intro b o q;have:b≠p:=λz=>by rw[z,hp] at q;cases q
      rw[Hm this];exact s5 _ _ (s4 b o q)
    · rw[h2,By,Au];rfl
  · rintro σ' ys H4 ⟨_,s4,h1,h2⟩;refine⟨p,_,rfl,SqL.of (by rw[h1,h2]),?_⟩;have e:(AA ((xs'.length:Nat):Int).toNat true).all id=true:=by simp
    rw[e];exact q H4 (S.trans s4)
 | tup ds=>
  rw[RepY] at h1 h2;obtain⟨a,xs,rfl,ha,h9,hx⟩:=h1;obtain⟨a',xs',rfl,ha',_,hx'⟩:=h2;obtain⟨m,rfl⟩:∃m,n=m+1:=⟨n - 1,by rw[HE] at hn;omega⟩;have e0:=hsp m rfl;subst e0;rw[HE] at hn;have hl:=hx.length;have hl':=hx'.length;refine⟨_,rfl,HX,λt1 ht1=>?_⟩;have s1:=Hh ht1 (.tup [V.ty "list",V.ty "tuple"]);have c1:(GY H t1 (.tup [V.ty "list",V.ty "tuple"])) t1=some (.tup [V.ty "list",V.ty "tuple"]):=Hb;generalize GY H t1 (.tup [V.ty "list",V.ty "tuple"])=H1 at*;refine⟨_,"tuple",t1,_,true,rfl,.tup (s1 _ _ ha'),c1,rfl,rfl,_,rfl,Hc ⟨_,rfl,HX,λt2 ht2=>?_⟩⟩;have s2:=Hh ht2 (.tup [V.ty "list",V.ty "tuple"]);have c2:(GY H1 t2 (.tup [V.ty "list",V.ty "tuple"])) t2=some (.tup [V.ty "list",V.ty "tuple"]):=Hb;generalize GY H1 t2 (.tup [V.ty "list",V.ty "tuple"])=H2 at*;have S:=s1.trans s2;have ka:=S _ _ ha;have ka':=S _ _ ha';refine⟨_,"tuple",t2,_,true,rfl,.tup ka,c2,rfl,rfl,_,rfl,Ha ⟨_,rfl,_,"tuple","list",false,rfl,.tup ka,rfl,_,rfl,_,"tuple","list",false,rfl,.tup ka',rfl,rfl,_,rfl,Ha ?_⟩⟩;refine⟨_,rfl,a,_,rfl,.inr (SqT.of ka),_,rfl,a',_,rfl,.inr (SqT.of ka'),rfl,_,rfl,?_⟩;rw[decide_eq_true (show V.int ((xs.length:Nat):Int)=V.int ((xs'.length:Nat):Int) by rw[hl,hl'])];refine Hc ⟨_,rfl,a',_,rfl,.inr (SqT.of ka'),_,rfl,by omega,by omega,λp hp=>?_⟩;have s3:=Hh hp (.lst []);refine K2 (n:=((xs'.length:Nat):Int).toNat) (λi σ' ys H'=>(∃v,σ'=[v,some (.ref a),some (.ref a')])∧Same H2 H'∧H' p=some (.lst ys)∧ys=(AA i true).map V.bl) ⟨⟨none,rfl⟩,s3,Hb,rfl⟩ ?_ ?_ ?_
  · rintro i σ' ys H' hi ⟨_,_,h1,h2⟩;exact⟨h1,by rw[h2,Ab,Bk];exact HR (by omega)⟩
  · rintro i σ' ys H4 N hi ⟨⟨v,rfl⟩,s4,h1,h2⟩ hN;have hi2:i<xs'.length:=by omega
    obtain⟨x,ex⟩:∃x,xs[i]?=some x:=⟨xs[i]'(by omega),by simp[hl,hl',hi2]⟩;obtain⟨x',ex'⟩:∃x,xs'[i]?=some x:=⟨xs'[i],by simp[hi2]⟩;obtain⟨d,ed,rd⟩:=hx.get ex;obtain⟨d',ed',rd'⟩:=hx'.get ex';rw[ed] at ed';injection ed' with ed';subst ed';have e0:(0:Int)+(i:Int)=(i:Int):=by omega
    have at1:Ie xs (0+(i:Int))=some x:=by rw[e0];exact J5 ex
    have at2:Ie xs' (0+(i:Int))=some x':=by rw[e0];exact J5 ex'
    have S4:=S.trans s4;refine⟨_,rfl,_,rfl,a,xs,_,x,rfl,rfl,.inr (SqT.of (S4 _ _ ha)),at1,_,rfl,_,rfl,a',xs',_,x',rfl,rfl,.inr (SqT.of (S4 _ _ ha')),at2,x,x',d,rfl,by omega,RepY.same S4 d rd,RepY.same S4 d rd',by have:=Ny (Aq ed);omega,λH5 s5=>⟨s5 _ _ h1,hN _ _ _ ⟨⟨_,rfl⟩,?_,Hb,?_⟩⟩⟩
    · intro b o q;have:b≠p:=λz=>by rw[z,hp] at q;cases q
      rw[Hm this];exact s5 _ _ (s4 b o q)
    · rw[h2,By,Au];rfl
  · rintro σ' ys H4 ⟨_,s4,h1,h2⟩;refine⟨p,_,rfl,SqL.of (by rw[h1,h2]),?_⟩;have e:(AA ((xs'.length:Nat):Int).toNat true).all id=true:=by simp
    rw[e];exact q H4 (S.trans s4)
theorem WA(F:Fun K "_law_pool" "_law_pool" NO f fd)(GH:Γ31 P w K mg base):FnOk P w K mg base Hu 5 f fd ["well","names","grid","wide","many"] (PM):=by
 refine F.ok Ge (λvs H Q E h=>?_) (λcdv A outer s H vs Q E hr h=>?_)
 · obtain⟨b,g,l,a,t,n,lo,sz,wide,many,fs,rfl,Bg,hn,hN,ht,z1,z2,w1,w2,m0,m1,q⟩:=h;rfl
 obtain⟨b,g,l,a,t,n,lo,sz,wide,many,fs,rfl,Bg,hn,hN,ht,z1,z2,w1,w2,m0,m1,q⟩:=h;refine⟨_,(Hd (Hr (i:=5) Ge.nd rfl (Or.inl rfl) (Il GX))
  (Hd (Jg Bz rfl (II (Hf GH (hr.mono (by decide)) rfl (GW (pv 0) (GW (pv 1) (GW (pv 2) (GW (pv 3) (GW (pv 4) GX))))))) (Hq (i:=6) Ge.nd rfl (Or.inl rfl)) (Hg (HG (HI (Vh (K0 hr)) (pv 6) (pv 5) (by with_unfolding_all rfl)) (Hg (Jm (J0 Bc BC BD Ke (pv 5) (GW (pv 6) GX)))) HF)))
  (Hg (Ho (pv 5))))),?_⟩
 refine⟨I_,λr hr'=>?_⟩;obtain⟨rb,rg,rl⟩:=Bg.free hr';have s0:=Hh hr' (.lst []);have e0:(GY H r (.lst [])) r=some (.lst []):=Hb;have FA0:=hN.sameB s0.sameB;have nr:H r=none:=hr';have B0:=Bg.same s0;have t0:=s0 _ _ ht;have S0:SameB b g H (GY H r (.lst [])):=s0.sameB;generalize GY H r (.lst [])=H0 at*;refine⟨_,rfl,_,rfl,_,rfl,_,rfl,_,rfl,b,g,l,a,t,n,lo,sz,wide,many,fs,rfl,B0,by omega,FA0,t0,z1,z2,w1,w2,m0,by omega,λc ws H1 hc hw lw al B1 S1=>?_⟩;have cr:c≠r:=λe=>by rw[e,e0] at hc;cases hc
 have e1:=S1 _ _ e0 rb rg;refine⟨c,rfl,⟨_,SqL.of hw.at'⟩,K1 (K:=K) (a:=c) (xs:=ws.map λx=>V.ref x.1) (λi σ H'=>(∃y,σ=[some (.ref b),some (.ref a),some (.ref t),some (.int wide),some (.int many),some (.ref r),y])∧SameB b g H H'∧Well H' b g l (n+40*many)∧H' c=some (.lst (ws.map λx=>V.ref x.1))∧(∀x∈ws,WishAt H' x.1 x.2)∧∃ks:List (Addr×List WP),H' r=some (.lst (ks.map λx=>V.ref x.1))∧(∀k∈ks,k∈ws)∧(ks.map (·.2)).Nodup∧ks.length≤i) ?_ ?_ ?_ ?_⟩
 · exact⟨⟨none,rfl⟩,S0.trans S1,B1.mono (by omega),hw.at',λx hx=>(hw.ok x hx).1,[],e1,λk hk=>(by simp at hk),Fu,Ae _⟩
 · rintro i σ H' hi ⟨_,_,_,h,_⟩;exact SqL.of h
 · rintro i x σ H' hx ⟨⟨y,rfl⟩,S2,B2,c2,g2,ks,e2,sub,nd,le⟩;rw[Ah] at hx;cases ew:ws[i]? with
   | none=>rw[ew] at hx;cases hx
   | some X1=>
    rw[ew] at hx;cases hx;have mX:=Aq ew;have x1:=g2 X1 mX;refine HQ ?_;refine⟨_,rfl,_,rfl,r,ks.map λk=>(k.1,dW k.2),dW X1.2,rfl,SqL.of (by rw[BK];exact e2),λp hp=>?_,Pc x1,?_⟩
    · obtain⟨k,hk,rfl⟩:=AU.mp hp;exact⟨Pc (g2 k (sub k hk)),AF (TY _) (by decide)⟩
    · have ea:((ks.map λk=>(k.1,dW k.2)).any λp=>Hk p.2 (dW X1.2))=ks.any λk=>decide (k.2=X1.2):=by
       rw[Du];exact congrArg (λf=>ks.any f) (funext λk=>SV k.2 X1.2)
      rw[ea];cases cc:ks.any λk=>decide (k.2=X1.2) with
      | true=>exact⟨_,rfl,Ha ⟨⟨_,rfl⟩,S2,B2,c2,g2,ks,e2,sub,nd,by omega⟩⟩
      | false=>
       have hwl:=hw.len;have hil:i<ws.length:=(Am.mp ew).1;refine⟨_,rfl,Hc ⟨_,rfl,.inl ⟨rfl,_,SqL.of e2⟩,_,rfl,r,_,_,rfl,rfl,e2,?_,?_⟩⟩
       · rw[Ab];exact HR (by omega)
       · have tu:Iz H' (GY H' r (.lst ((ks.map λx=>V.ref x.1)++[V.ref X1.1]))):=λx xs e=>by
          rw[Hm (λq=>by rw[q,e2] at e;cases e)];exact e
         refine⟨⟨_,rfl⟩,S2.off nr,B2.off rb rg rl,by rw[Hm cr];exact c2,λx hx=>(g2 x hx).keep tu,ks++[X1],by rw[Hb,Au];rfl,λk hk=>?_,?_,by simp;omega⟩
         · rcases AM.mp hk with z | z
           · exact sub k z
           · rw[Aw.mp z];exact mX
         · rw[Au,EA];refine⟨nd,by simp,λu hu v hv=>?_⟩;obtain⟨k,hk,rfl⟩:=AU.mp hu;have ev:v=X1.2:=by simpa using hv
           subst ev;intro z;have:=List.any_eq_false.mp cc k hk;exact this (decide_eq_true z)
 · rintro σ H' ⟨⟨y,rfl⟩,S2,B2,c2,g2,ks,e2,sub,nd,le⟩;rw[Ab] at le;have hwl:=hw.len;exact⟨_,rfl,q r ks H' nr ⟨e2,λx hx=>⟨g2 x (sub x hx),(hw.ok x (sub x hx)).2⟩,by omega⟩ (by omega) nd B2 S2⟩
theorem Xs(F:Fun K "_law_picked" "_law_picked" M0 f fd)(GB:Γ24 P w K mg base):FnOk P w K mg base Hu 2 f fd ["well","row"] (QF):=by
 refine F.ok Gf (λvs H Q E h=>?_) (λcdv A outer s H vs Q E hr h=>?_)
 · obtain⟨b,g,l,a,n,xs,rfl,Bg,hn,ha,ab,ag,lx,q⟩:=h;rfl
 obtain⟨b,g,l,a,n,xs,rfl,Bg,hn,ha,ab,ag,lx,q⟩:=h;refine⟨_,(Hd (Hr (i:=2) Gf.nd rfl (Or.inr rfl) (Kz Mx rfl B.list_ Jc (GW (pv 1) GX)))
  (Hd (Hr (i:=3) Gf.nd rfl (Or.inl rfl) (Hf GB (hr.mono (by decide)) rfl (GW (pv 0) (GW G_ GX))))
  (Hd (HG (HI IF (Hf GB (hr.mono (by decide)) rfl (GW (pv 0) (GW G_ GX))) G_ (Hz _)) (Hg (Hr (i:=3) Gf.nd rfl (Or.inl rfl) (Hl HY rfl B.len_ HN (GW (pv 2) GX)))) HF)
  (Hg (Ho (IG (N':=["k","well","left"]) (js:=[none,some 0,some 2]) rfl (Ig (N:=["well","row","left","many"]) (outer:=Hj M0) (by decide+kernel)) (JJ rfl B.range_ (GW (Hl (N2 rfl) rfl B.min_ MM (GW (pv 3) (GW (Hl HY rfl B.len_ HN (GW (pv 1) GX)) GX))) GX)) (λ_ _ _ _ _=>(Hq (i:=0) Kj rfl (Or.inl rfl))) (λ_ _ _ _ _=>IB) (λ_ _ _ _ _=>(P0 K rfl Bc DG DH No (pv 2) (GW (Hf GB (hr.mono (by decide)) rfl (GW (pv 1) (GW (Hl (RV K rfl) rfl B.len_ HN (GW (pv 2) GX)) GX))) GX))))))))),?_⟩
 refine⟨_,rfl,a,_,rfl,.inl (SqL.of ha),λlf hlf=>?_⟩;have s0:=Hh hlf (.lst xs);have e0:(GY H lf (.lst xs)) lf=some (.lst xs):=Hb;have B0:=Bg.same s0;obtain⟨fb,fg,fl⟩:=Bg.free hlf;have ha0:=s0 _ _ ha;have S0:SameB b g H (GY H lf (.lst xs)):=s0.sameB;generalize GY H lf (.lst xs)=H0 at*;refine⟨_,rfl,b,g,l,_,4,rfl,B0,by omega,by decide,by decide,λm H1 m0 m3 B1 S1=>?_⟩;have e1:=S1 _ _ e0 fb fg;have ha1:=S1 _ _ ha0 ab ag;have S01:=S0.trans S1;dsimp only;refine J4 (λσ' H'=>∃k:Int,σ'=[some (.ref b),some (.ref a),some (.ref lf),some (.int k)]∧0≤k∧SameB b g H1 H'∧Well H' b g l (n+2)) (λZ hZ=>?_) ?_
 · refine⟨_,rfl,b,g,l,_,8,rfl,B1,by omega,by decide,by decide,λc H2 c0 c1 B2 S2=>⟨rfl,_,rfl,HD (λh=>?_) (λh=>?_)⟩⟩
   · exact⟨_,rfl,lf,_,rfl,.inl (SqL.of (S2 _ _ e1 fb fg)),hZ _ _ ⟨_,rfl,by omega,S2,B2.mono (by omega)⟩⟩
   · exact hZ _ _ ⟨m,rfl,m0,S2,B2.mono (by omega)⟩
 rintro σ' H2 ⟨k,rfl,k0,S2,B2⟩;have e2:=S2 _ _ e1 fb fg;have ha2:=S2 _ _ ha1 ab ag;have S02:=S01.trans S2;have nf:∀x,H2 x=none→H x=none:=λx hx=>B2.back S02 x hx;refine⟨_,rfl,_,rfl,a,_,rfl,.inl (SqL.of ha2),_,_,rfl,?_⟩;obtain⟨M,hM,hM2⟩:∃M:Nat,(if(xs.length:Int)<k then(xs.length:Int) else k)=(M:Int)∧M≤xs.length:=by
  by_cases h:(xs.length:Int)<k
  · exact⟨xs.length,by rw[if_pos h],Ae _⟩
  · exact⟨k.toNat,by rw[if_neg h];omega,by omega⟩
 rw[hM];refine⟨_,rfl,(by omega),(by omega),λp hp=>?_⟩;have sp:=Hh hp (.lst []);obtain⟨pb,pg,pl⟩:=B2.free hp;have npf:p≠lf:=λe=>by rw[e,e2] at hp;cases hp
 refine K2 (lo:=0) (n:=M) (λi σ' ys H'=>(∃v,σ'=[v,some (.ref b),some (.ref lf)])∧(SameB b g H H'∧Well H' b g l (n+2+(i:Int)))∧H' p=some (.lst ys)∧∃zs:List V,H' lf=some (.lst zs)∧zs.length=xs.length - i∧(ys++zs).Perm xs) ⟨⟨none,rfl⟩,⟨S02.trans sp.sameB,(B2.same sp).mono (by omega)⟩,Hb,xs,sp _ _ e2,by simp,C_ _⟩ ?_ ?_ ?_
 · rintro i σ' ys H' hi ⟨_,_,h1,zs,h2,h3,h4⟩;have:=h4.length_eq;rw[AG] at this;exact⟨h1,HR (by omega)⟩
 · rintro i σ' ys H' N hi ⟨⟨v,rfl⟩,⟨S1,B1⟩,h1,zs,h2,h3,h4⟩ hN;refine⟨_,rfl,.inl ⟨rfl,_,SqL.of h2⟩,_,rfl,_,rfl,lf,_,rfl,.inl (SqL.of h2),b,g,l,_,_,rfl,B1,by omega,by omega,IE (by omega),λc H2 c0 c1 B2 S2=>?_⟩;obtain⟨k,rfl⟩:∃k:Nat,c=(k:Int):=⟨c.toNat,by omega⟩;have hk:k<zs.length:=by omega
   have f2:=S2 _ _ h2 fb fg;have g2':=S2 _ _ h1 pb pg;refine⟨lf,zs,(k:Int),k,zs[k],rfl,rfl,f2,by omega,by omega,?_,AB hk,?_⟩
   · unfold PySem.seqIndex?;simp;omega
   · refine⟨by rw[Hm npf];exact g2',hN _ _ _ ⟨⟨_,rfl⟩,⟨?_,?_⟩,Hb,zs.eraseIdx k,?_,?_,?_⟩⟩
     · exact((S1.trans S2).off hlf).off (nf p hp)
     · exact((B2.off fb fg fl).off pb pg pl).mono (by omega)
     · rw[Hm npf.symm,Hb]
     · rw[De];simp[hk];omega
     · rw[D0];exact((NV zs k hk).append_left ys).trans h4
 · rintro σ' ys H' ⟨_,⟨S1,B1⟩,h1,zs,h2,h3,h4⟩;exact q p ys zs H' (nf p hp) h1 h4 (B1.mono (by omega)) S1
theorem VB(F:Fun K "_law_web" "_law_web" Ms f fd)(GB:Γ24 P w K mg base):FnOk P w K mg base Hu 2 f fd ["well","most"] (PQ):=by
 refine F.ok Gg (λvs H Q E h=>?_) (λcdv A outer s H vs Q E hr h=>?_)
 · obtain⟨b,g,l,n,most,rfl,Bg,hn,m1,m2,q⟩:=h;rfl
 obtain⟨b,g,l,n,most,rfl,Bg,hn,m1,m2,q⟩:=h;refine⟨_,(Hd (Hr (i:=2) Gg.nd rfl (Or.inr rfl) (Hf GB (hr.mono (by decide)) rfl (GW (pv 0) (GW G_ GX))))
  (Hd (Hr (i:=3) Gg.nd rfl (Or.inl rfl) (Hf GB (hr.mono (by decide)) rfl (GW (pv 0) (GW (pv 1) GX))))
  (Hd (HG (HI IF (pv 2) G_ (Hz _)) (Hg (Ho (WK rfl (pv 3) rfl B.list_ rfl B.range_))) HF)
  (Hg (Ho (IG (N':=["place","well","pick"]) (js:=[none,some 0,some 2]) rfl (Ig (N:=["well","most","pick","many"]) (outer:=Hj Ms) (by decide+kernel)) (JJ rfl B.range_ (GW (pv 3) GX)) (λ_ _ _ _ _=>(Hq (i:=0) L9 rfl (Or.inl rfl))) (λ_ _ _ _ _=>IB) (λ_ _ _ _ _=>(Nr (HI IF (pv 2) G_ (Hz _)) G_ (Hf GB (hr.mono (by decide)) rfl (GW (pv 1) (GW (Hi HP (pv 0) G_) GX))))))))))),?_⟩
 refine⟨_,rfl,b,g,l,_,4,rfl,Bg,by omega,by decide,by decide,λpk H1 p0 p3 B1 S1=>?_⟩;refine⟨_,rfl,_,rfl,b,g,l,_,most,rfl,B1,by omega,by omega,IE (by omega),λm H2 k0 k1 B2 S2=>?_⟩;have S02:=S1.trans S2;have nf:∀x,H2 x=none→H x=none:=λx hx=>B2.back S02 x hx;obtain⟨M,rfl⟩:∃M:Nat,m=(M:Int):=⟨m.toNat,by omega⟩;dsimp only;refine J4 (λσ' H'=>σ'=[some (.ref b),some (.int most),some (.int pk),some (.int (M:Int))]∧H'=H2) (λZ hZ=>?_) ?_
 · refine⟨_,rfl,rfl,_,rfl,HD (λh=>?_) (λh=>hZ _ _ ⟨rfl,rfl⟩)⟩;refine⟨_,rfl,M,rfl,by omega,λr hr=>?_⟩;have s3:=Hh hr (.lst (((AX M).map (λ(i:Nat)=>(i:Int))).map V.int));exact q r _ _ (nf r hr) ⟨Hb,VX (by omega)⟩ ((B2.same s3).mono (by omega)) (S02.trans s3.sameB)
 rintro σ' H' ⟨rfl,rfl⟩;refine⟨_,rfl,_,rfl,(by omega),(by omega),λp hp=>?_⟩;have sp:=Hh hp (.lst []);obtain⟨pb,pg,pl⟩:=B2.free hp;refine K2 (lo:=0) (n:=M) (λi σ' ys H3=>(∃v,σ'=[v,some (.ref b),some (.int pk)])∧(SameB b g H H3∧Well H3 b g l (n+2+(i:Int)))∧H3 p=some (.lst ys)∧∃L:List Int,ys=L.map V.int∧L.length=i∧∀(j:Nat)y,L[j]?=some y→0≤y∧y≤(j:Int)) ⟨⟨none,rfl⟩,⟨S02.trans sp.sameB,(B2.same sp).mono (by omega)⟩,Hb,[],rfl,rfl,λj y e=>by simp at e⟩ ?_ ?_ ?_
 · rintro i σ' ys H3 hi ⟨_,_,h1,L,rfl,h3,h4⟩;exact⟨h1,HR (by rw[Ab];omega)⟩
 · rintro i σ' ys H3 N hi ⟨⟨v,rfl⟩,⟨S3,B3⟩,h1,L,rfl,h3,h4⟩ hN;refine⟨_,rfl,rfl,_,rfl,HD (λh=>?_) (λh=>?_)⟩
   · refine⟨h1,hN _ _ _ ⟨⟨_,rfl⟩,⟨S3.off (nf p hp),(B3.off pb pg pl).mono (by omega)⟩,Hb,L++[0],by rw[Au];rfl,by simp;omega,QN h4 (by omega) (by omega)⟩⟩
   · refine⟨_,rfl,_,rfl,_,_,rfl,rfl,b,g,l,_,_,rfl,B3,by omega,by omega,IE (by omega),λc H4 c0 c1 B4 S4=>?_⟩;refine⟨S4 _ _ h1 pb pg,hN _ _ _ ⟨⟨_,rfl⟩,⟨(S3.trans S4).off (nf p hp),(B4.off pb pg pl).mono (by omega)⟩,Hb,L++[c],by rw[Au];rfl,by simp;omega,QN h4 (by omega) (by omega)⟩⟩
 · rintro σ' ys H3 ⟨_,⟨S3,B3⟩,h1,L,rfl,h3,h4⟩;exact q p L H3 (nf p hp) ⟨h1,by omega,h4⟩ (B3.mono (by omega)) S3
theorem Xu(F:Fun K "_law_turned" "_law_turned" M1 f fd)(GB:Γ24 P w K mg base):FnOk P w K mg base Hu 2 f fd ["well","row"] (QH):=by
 refine F.ok Gh (λvs H Q E h=>?_) (λcdv A outer s H vs Q E hr h=>?_)
 · obtain⟨b,g,l,a,n,xs,rfl,Bg,hn,ha,ab,ag,lx,q⟩:=h;rfl
 obtain⟨b,g,l,a,n,xs,rfl,Bg,hn,ha,ab,ag,lx,q⟩:=h;refine⟨_,(Hd (Hr (i:=2) Gh.nd rfl (Or.inr rfl) (Kz Mx rfl B.list_ Jc (GW (pv 1) GX)))
  (Hg (Ho (IG (N':=["k","well","left"]) (js:=[none,some 0,some 2]) rfl (Ig (N:=["well","row","left"]) (outer:=Hj M1) (by decide+kernel)) (JJ rfl B.range_ (GW (Hl HY rfl B.len_ HN (GW (pv 1) GX)) GX)) (λ_ _ _ _ _=>(Hq (i:=0) Kj rfl (Or.inl rfl))) (λ_ _ _ _ _=>IB) (λ_ _ _ _ _=>(P0 K rfl Bc DG DH No (pv 2) (GW (Hf GB (hr.mono (by decide)) rfl (GW (pv 1) (GW (Hl (RV K rfl) rfl B.len_ HN (GW (pv 2) GX)) GX))) GX))))))),?_⟩
 refine⟨_,rfl,a,_,rfl,.inl (SqL.of ha),λlf hlf=>?_⟩;have s0:=Hh hlf (.lst xs);have e0:(GY H lf (.lst xs)) lf=some (.lst xs):=Hb;have B0:=Bg.same s0;obtain⟨fb,fg,fl⟩:=Bg.free hlf;have ha0:=s0 _ _ ha;have S0:SameB b g H (GY H lf (.lst xs)):=s0.sameB;generalize GY H lf (.lst xs)=H0 at*;refine⟨_,rfl,a,_,rfl,.inl (SqL.of ha0),_,rfl,(by omega),(by omega),λp hp=>?_⟩;have sp:=Hh hp (.lst []);obtain⟨pb,pg,pl⟩:=B0.free hp;have npf:p≠lf:=λe=>by rw[e,e0] at hp;cases hp
 refine K2 (lo:=0) (n:=xs.length) (λi σ' ys H'=>(∃v,σ'=[v,some (.ref b),some (.ref lf)])∧(SameB b g H H'∧Well H' b g l (n+(i:Int)))∧H' p=some (.lst ys)∧∃zs:List V,H' lf=some (.lst zs)∧zs.length=xs.length - i∧(ys++zs).Perm xs) ⟨⟨none,rfl⟩,⟨S0.trans sp.sameB,(B0.same sp).mono (by omega)⟩,Hb,xs,sp _ _ e0,by simp,C_ _⟩ ?_ ?_ ?_
 · rintro i σ' ys H' hi ⟨_,_,h1,zs,h2,h3,h4⟩;have:=h4.length_eq;rw[AG] at this;exact⟨h1,HR (by omega)⟩
 · rintro i σ' ys H' N hi ⟨⟨v,rfl⟩,⟨S1,B1⟩,h1,zs,h2,h3,h4⟩ hN;refine⟨_,rfl,.inl ⟨rfl,_,SqL.of h2⟩,_,rfl,_,rfl,lf,_,rfl,.inl (SqL.of h2),b,g,l,_,_,rfl,B1,by omega,by omega,IE (by omega),λc H2 c0 c1 B2 S2=>?_⟩;obtain⟨k,rfl⟩:∃k:Nat,c=(k:Int):=⟨c.toNat,by omega⟩;have hk:k<zs.length:=by omega
   have f2:=S2 _ _ h2 fb fg;have g2':=S2 _ _ h1 pb pg;refine⟨lf,zs,(k:Int),k,zs[k],rfl,rfl,f2,by omega,by omega,?_,AB hk,?_⟩
   · unfold PySem.seqIndex?;simp;omega
   · refine⟨by rw[Hm npf];exact g2',hN _ _ _ ⟨⟨_,rfl⟩,⟨?_,?_⟩,Hb,zs.eraseIdx k,?_,?_,?_⟩⟩
     · exact((S1.trans S2).off hlf).off (s0.free hp)
     · exact((B2.off fb fg fl).off pb pg pl).mono (by omega)
     · rw[Hm npf.symm,Hb]
     · rw[De];simp[hk];omega
     · rw[D0];exact((NV zs k hk).append_left ys).trans h4
 · rintro σ' ys H' ⟨_,⟨S1,B1⟩,h1,zs,h2,h3,h4⟩;have:zs=[]:=CH.mp (by omega);subst this;rw[CK] at h4;exact q p ys H' (s0.free hp) h1 h4 (B1.mono (by omega)) S1
theorem Xt(F:Fun K "_law_stands" "_law_stands" Oe f fd)(GI:Γ37 P w K mg base)(GJ:Γ26 P w K mg base)(GB:Γ24 P w K mg base)(GK:Γ35 P w K mg base):FnOk P w K mg base Hu 4 f fd ["well","web","pool","many"] (QG):=by
 refine F.ok Gi (λvs H Q E h=>?_) (λcdv A outer s H vs Q E hr h=>?_)
 · obtain⟨b,g,l,a,c,n,many,W,ws,rfl,Bg,hn,hW,ab,ag,hw,cb,cg,nd,lw,m1,m2,q⟩:=h;rfl
 obtain⟨b,g,l,a,c,n,many,W,ws,rfl,Bg,hn,hW,ab,ag,hw,cb,cg,nd,lw,m1,m2,q⟩:=h;refine⟨_,(Hd (Hr (i:=4) Gi.nd rfl (Or.inl rfl) (Il GX))
  (Hd (Jg Bz rfl (II (Hf GI (hr.mono (by decide)) rfl (GW (pv 0) (GW (Hf GJ (hr.mono (by decide)) rfl (GW (pv 0) (GW (pv 3) GX))) GX)))) (Hq (i:=5) Gi.nd rfl (Or.inl rfl)) (Hg (Jm (J0 Bc BC BD Ke (pv 4) (GW (Iu (GW (pv 5) (GW (Hf GB (hr.mono (by decide)) rfl (GW (pv 0) (GW (Hi HP (Hl HY rfl B.len_ HN (GW (pv 1) GX)) G_) GX))) (GW (Jp Na (Hf GK (hr.mono (by decide)) rfl (GW (pv 0) (GW (pv 2) GX))) Jk (Jl G_)) GX)))) GX)))))
  (Hg (Ho (pv 4))))),?_⟩
 refine⟨I_,λr hr'=>?_⟩;obtain⟨rb,rg,rl⟩:=Bg.free hr';have s0:=Hh hr' (.lst []);have e0:(GY H r (.lst [])) r=some (.lst []):=Hb;have nr:H r=none:=hr';have B0:=Bg.same s0;have ra:r≠a:=λe=>by rw[e,hW.1] at hr';cases hr'
 have rc:r≠c:=λe=>by rw[e,hw.at'] at hr';cases hr'
 have S0:SameB b g H (GY H r (.lst [])):=s0.sameB;generalize GY H r (.lst [])=H0 at*;refine⟨_,rfl,_,rfl,_,rfl,b,g,l,_,many,rfl,B0,by omega,m1,m2,λf fs H1 hf ef asc okf f1 f2 B1 S1=>?_⟩;obtain⟨fb,fg,_⟩:=B0.free hf;refine⟨b,g,l,f,_,_,rfl,B1,by omega,ef,fb,fg,by rw[Ab];omega,λh hv H2 hh eh pm B2 S2=>?_⟩;obtain⟨hs,hp,rfl⟩:=NE pm fs rfl;have S02:=S0.trans (S1.trans S2);have hsl:hs.length≤30:=by rw[hp.length_eq];omega
 have hsn:hs.Nodup:=hp.nodup_iff.mpr (asc.imp λhlt e=>MN hlt e);obtain⟨hb,hg',_⟩:=B1.free hh;have e2:=S2 _ _ (S1 _ _ e0 rb rg) rb rg;have hr2:h≠r:=λe=>by rw[e,S1 _ _ e0 rb rg] at hh;cases hh
 refine⟨h,rfl,⟨_,SqL.of eh⟩,K1 (K:=K) (a:=h) (xs:=hs.map V.str) (λi σ H'=>(∃y,σ=[some (.ref b),some (.ref a),some (.ref c),some (.int many),some (.ref r),y])∧SameB b g H H'∧Well H' b g l (n+1100+101*(i:Int))∧H' h=some (.lst (hs.map V.str))∧∃xs:List Stand,H' r=some (.lst (xs.map λx=>V.ref x.a))∧xs.map (·.hand)=hs.take i∧∀x∈xs,StAt H' W x∧H x.l=none∧x.l≠r) ?_ ?_ ?_ ?_⟩
 · exact⟨⟨none,rfl⟩,S02,B2.mono (by omega),eh,[],e2,rfl,λx hx=>(by simp at hx)⟩
 · rintro i σ H' hi ⟨_,_,_,h,_⟩;exact SqL.of h
 · rintro i x σ H3 hx ⟨⟨y,rfl⟩,S3,B3,h3,xs,e3,hd,g3⟩;rw[Ah] at hx;cases ew:hs[i]? with
   | none=>rw[ew] at hx;cases hx
   | some f'=>
    rw[ew] at hx;cases hx;have hil:i<hs.length:=(Am.mp ew).1;have a3:=S3 _ _ hW.1 ab ag;have w3:=hw.sameW Bg cb cg S3;refine HQ ?_;refine⟨_,rfl,.inl ⟨rfl,_,SqL.of e3⟩,_,rfl,_,rfl,_,rfl,a,_,rfl,.inl (SqL.of a3),_,_,rfl,rfl,b,g,l,_,_,rfl,B3,by omega,by omega,IE (by have:=hW.2.1;rw[Ab];omega),λpo H4 po0 po1 B4 S4=>?_⟩;have w4:WsAt H4 c ws:=w3.sameW B3 cb cg S4;have e4:=S4 _ _ e3 rb rg;refine⟨_,rfl,_,rfl,b,g,l,c,_,_,rfl,B4,by omega,w4.at',cb,cg,by rw[Ab];omega,λpk ys zs H5 hpk epk pm5 B5 S5=>?_⟩;obtain⟨us,up,eu⟩:=NE pm5 ws rfl;have ey:ys=(us.take ys.length).map λx=>V.ref x.1:=by rw[E2,eu,List.take_left]
    have sub1:(us.take ys.length).Sublist us:=Dz _ _;generalize us.take ys.length=us' at ey sub1;subst ey;refine⟨_,rfl,pk,_,rfl,SqL.of epk,λnl hnl=>?_⟩;rw[N4 (k:=10) rfl,←E2] at*;have sub2:(us'.take 10).Sublist us:=(Dz _ _).trans sub1;have l10:(us'.take 10).length≤10:=by rw[AC];omega
    generalize us'.take 10=vs at*;have s6:=Hh hnl (.lst (vs.map λx=>V.ref x.1));have e6:(GY H5 nl (.lst (vs.map λx=>V.ref x.1))) nl=some (.lst (vs.map λx=>V.ref x.1)):=Hb;have B6:=B5.same s6;have S35:=S4.trans S5;have n5:H nl=none:=B5.back (S3.trans S35) nl hnl;generalize GY H5 nl (.lst (vs.map λx=>V.ref x.1))=H6 at*;refine⟨KG,λtp htp=>?_⟩;have s7:=Hh htp (.tup [V.str f',V.int po,V.ref nl]);have e7:(GY H6 tp (.tup [V.str f',V.int po,V.ref nl])) tp=some (.tup [V.str f',V.int po,V.ref nl]):=Hb;have B7:=B6.same s7;have s57:Same H5 (GY H6 tp (.tup [V.str f',V.int po,V.ref nl])):=s6.trans s7;have e6':=s7 _ _ e6;generalize GY H6 tp (.tup [V.str f',V.int po,V.ref nl])=H7 at*;have S37:=S35.trans s57.sameB;have e7r:=s57 _ _ (S5 _ _ e4 rb rg);have w7:∀x∈vs,WishAt H7 x.1 x.2∧WOk x.2:=λx hx=>by have mx:=up.mem_iff.mp (sub2.subset hx);exact⟨(((w4.ok x mx).1).sameW B4 S5).same s57,(w4.ok x mx).2⟩
    have nr7:nl≠r:=λe=>by rw[e,S5 _ _ e4 rb rg] at hnl;cases hnl
    have lx:xs.length≤30:=by have:=congrArg C8 hd;rw[Ab,AC] at this;omega
    have ndv:(vs.map (·.2)).Nodup:=((up.map (·.2)).nodup_iff.mpr nd).sublist (sub2.map _);have fo:FieldOk f':=okf f' (hp.mem_iff.mp (Aq ew));have new:StAt H7 W ⟨tp,f',po,nl,vs⟩:=⟨e7,⟨e6',w7,AF l10 (by decide)⟩,ndv,l10,fo,⟨po0,(by rw[Ab] at po1;show po≤(W.length:Int);omega)⟩⟩;refine⟨r,_,_,rfl,rfl,e7r,?_,?_⟩
    · rw[Ab];exact HR (by omega)
    · have tu:Iz H7 (GY H7 r (.lst ((xs.map λx=>V.ref x.a)++[V.ref tp]))):=λz zs e=>by
       rw[Hm (λq=>by rw[q,e7r] at e;cases e)];exact e
      have ol:∀y:Stand,StAt H7 W y→y.l≠r→StAt (GY H7 r (.lst ((xs.map λx=>V.ref x.a)++[V.ref tp]))) W y:=λy h hyr=>
       ⟨tu _ _ h.at',⟨by rw[Hm hyr];exact h.ws.at',λx hx=>⟨(h.ws.ok x hx).1.keep tu,(h.ws.ok x hx).2⟩,h.ws.len⟩,h.nd,h.few,h.name,h.post⟩
      refine⟨⟨_,rfl⟩,(S3.trans S37).off nr,(B7.off rb rg rl).mono (by omega),by rw[Hm hr2];exact S37 _ _ h3 hb hg',xs++[⟨tp,f',po,nl,vs⟩],by rw[Hb,Au];rfl,?_,λx hx=>?_⟩
      · rw[Au,hd,BY,ew];rfl
      · rcases AM.mp hx with z | z
        · obtain⟨g1,g2,g4⟩:=g3 x z;obtain⟨xb,xg,_⟩:=Bg.free g2;have g5:StAt H7 W x:=⟨s57 _ _ (B4.tup S5 (B3.tup S4 g1.at')),((g1.ws.sameW B3 xb xg S4).sameW B4 xb xg S5).same s57,g1.nd,g1.few,g1.name,g1.post⟩;exact⟨ol x g5 g4,g2,g4⟩
        · rw[Aw.mp z];exact⟨ol _ new nr7,n5,nr7⟩
 · rintro σ H3 ⟨⟨y,rfl⟩,S3,B3,h3,xs,e3,hd,g3⟩;rw[Ab,Bt] at hd;refine⟨_,rfl,q r xs H3 nr ⟨e3,λx hx=>(g3 x hx).1,by rw[hd];exact hsn,?_⟩ (λx hx=>(g3 x hx).2.1) (B3.mono (by rw[Ab];omega)) S3⟩;have:=congrArg C8 hd;rw[Ab] at this;omega
theorem XG(F:Fun K "_law_stands_kept" "_law_stands_kept" M4 f fd)  :FnOk P w K mg base Hu 1 f fd ["stands"] (PK):=by
 refine F.ok XH (λvs H Q E h=>?_) (λcdv A outer s H vs Q E hr h=>?_)
 · obtain⟨l,W,xs,rfl,hx,q⟩:=h;rfl
 obtain⟨l,W,xs,rfl,hx,q⟩:=h;refine⟨_,(Hg (Ho (IG (N':=["hand","post","wishes"]) (js:=[none,none,none]) rfl (Ig (N:=["stands"]) (outer:=Hj M4) (by decide+kernel)) (II (pv 0)) (λ_ _ _ _ _=>(KQ K rfl (n:=3) rfl (HH (Hq (i:=0) Ju rfl (Or.inl rfl)) (HH (Hq (i:=1) Ju rfl (Or.inl rfl)) (HH (Hq (i:=2) Ju rfl (Or.inl rfl)) IR))))) (λ_ _ _ _ _=>IB) (λ_ _ _ _ _=>(Iu (GW (pv 0) (GW (pv 1) (GW (Kz (Xz K rfl) rfl B.list_ Jc (GW (pv 2) GX)) GX)))))))),?_⟩;refine⟨_,rfl,l,rfl,⟨_,SqL.of hx.at'⟩,λr hr=>?_⟩;have hl:=hx.len;refine Kd (xs:=xs.map λx=>V.ref x.a) (λi σ' vs H'=>(∃v1 v2 v3,σ'=[v1,v2,v3])∧Same H H'∧H' r=some (.lst vs)∧∃ys:List Stand,vs=(ys.map λx=>V.ref x.a)∧ys.map HW=(xs.take i).map HW∧∀y∈ys,StAt H' W y∧y.l≠r) ⟨⟨none,none,none,rfl⟩,Hh hr _,Hb,[],rfl,rfl,λy hy=>by simp at hy⟩ ?_ ?_ ?_
 · rintro i σ' vs H' hi ⟨_,s,h1,ys,rfl,h2,h3⟩;refine⟨SqL.of (s _ _ hx.at'),h1,?_⟩;have:=congrArg C8 h2;rw[Ab,Ab,AC] at this;rw[Ab];exact HR (by omega)
 · rintro i x σ' vs H' N hy ⟨⟨v1,v2,v3,rfl⟩,s,h1,ys,rfl,h2,h3⟩ hN;rw[Ah] at hy;cases e1:xs[i]? with
   | none=>rw[e1] at hy;cases hy
   | some x1=>
    rw[e1] at hy;cases hy;have o1:=(hx.ok x1 (Aq e1)).same s;refine⟨x1.a,_,rfl,SqT.of o1.at',rfl,_,_,rfl,_,_,rfl,_,_,rfl,rfl,?_⟩;refine⟨_,rfl,_,rfl,_,rfl,x1.l,_,rfl,.inl (SqL.of o1.ws.at'),λnl hnl=>?_⟩;have s2:=Hh hnl (.lst (x1.ws.map λx=>V.ref x.1));have e2:(GY H' nl (.lst (x1.ws.map λx=>V.ref x.1))) nl=some (.lst (x1.ws.map λx=>V.ref x.1)):=Hb;generalize GY H' nl (.lst (x1.ws.map λx=>V.ref x.1))=H2 at*;refine⟨KG,λtp htp=>?_⟩;have s3:=Hh htp (.tup [V.str x1.hand,V.int x1.post,V.ref nl]);have e3:(GY H2 tp (.tup [V.str x1.hand,V.int x1.post,V.ref nl])) tp=some (.tup [V.str x1.hand,V.int x1.post,V.ref nl]):=Hb;generalize GY H2 tp (.tup [V.str x1.hand,V.int x1.post,V.ref nl])=H3 at*;have s13:=s2.trans s3;have o3:=o1.same s13;have new:StAt H3 W ⟨tp,x1.hand,x1.post,nl,x1.ws⟩:=⟨e3,⟨s3 _ _ e2,o3.ws.ok,o3.ws.len⟩,o3.nd,o3.few,o3.name,o3.post⟩;have h13:=s13 _ _ h1;refine⟨h13,hN _ _ _ ⟨⟨_,_,_,rfl⟩,Jn (s.trans s13) hr,Hb,ys++[⟨tp,x1.hand,x1.post,nl,x1.ws⟩],by rw[Au];rfl,?_,λy hy=>?_⟩⟩
    · rw[Au,h2,BY,e1,Au];rfl
    · have ol:∀y:Stand,StAt H3 W y→y.l≠r→StAt (GY H3 r (.lst ((ys.map λx=>V.ref x.a)++[V.ref tp]))) W y:=λy h hyr=>by
       have tu:Iz H3 (GY H3 r (.lst ((ys.map λx=>V.ref x.a)++[V.ref tp]))):=λz zs e=>by rw[Hm (λq=>by rw[q,h13] at e;cases e)];exact e
       exact⟨tu _ _ h.at',⟨by rw[Hm hyr];exact h.ws.at',λx hx=>⟨(h.ws.ok x hx).1.keep tu,(h.ws.ok x hx).2⟩,h.ws.len⟩,h.nd,h.few,h.name,h.post⟩
      rcases AM.mp hy with z | z
      · exact⟨ol y ((h3 y z).1.same s13) (h3 y z).2,(h3 y z).2⟩
      · rw[Aw.mp z];have nn:nl≠r:=λe=>by rw[e,h1] at hnl;cases hnl
        exact⟨ol _ new nn,nn⟩
 · rintro σ' vs H' ⟨_,s,h1,ys,rfl,h2,h3⟩;rw[Ab,Bt] at h2;refine q r ys H' hr s ⟨h1,λy hy=>(h3 y hy).1,?_,?_⟩ h2
   · have:=congrArg (List.map (·.1)) h2;rw[BK,BK] at this;rw[show(ys.map (·.hand))=xs.map (·.hand) from this];exact hx.nd
   · have:=congrArg C8 h2;rw[Ab,Ab] at this;omega
theorem XJ(F:Fun K "_law_some_piece" "_law_some_piece" N_ f fd)(GB:Γ24 P w K mg base):FnOk P w K mg base Hu 2 f fd ["well","names","grid","wide"] (RC):=by
 refine F.ok Gj (λvs H Q E h=>?_) (λcdv A outer s H vs Q E hr h=>?_)
 · obtain⟨b,g,l,a,t,n,lo,sz,wide,fs,rfl,Bg,hn,hN,ht,z1,z2,w1,w2,q⟩:=h;rfl
 obtain⟨b,g,l,a,t,n,lo,sz,wide,fs,rfl,Bg,hn,hN,ht,z1,z2,w1,w2,q⟩:=h;refine⟨_,(Hd (Hr (i:=4) Gj.nd rfl (Or.inl rfl) (Il GX))
  (Hd (Jg Bz rfl (II (pv 1)) (Hq (i:=5) Gj.nd rfl (Or.inl rfl)) (Hg (HG (HI KI (Hf GB (hr.mono (by decide)) rfl (GW (pv 0) (GW G_ GX))) G_ (Hz _)) (Hd (Hr (i:=6) Gj.nd rfl (Or.inl rfl) (Hi HP (HC IX (pv 2) G_ (λ_ _=>rfl)) (Hi JC (HC IX (pv 2) G_ (λ_ _=>rfl)) (Hi Kb (Hf GB (hr.mono (by decide)) rfl (GW (pv 0) (GW (Hi HP (Hi JC G_ (pv 3)) G_) GX))) G_))))
  (Hd (Hr (i:=7) Gj.nd rfl (Or.inl rfl) (Hf GB (hr.mono (by decide)) rfl (GW (pv 0) (GW G_ GX))))
  (Hd (Hr (i:=8) Gj.nd rfl (Or.inl rfl) (Hf GB (hr.mono (by decide)) rfl (GW (pv 0) (GW (HC IX (pv 2) G_ (λ_ _=>rfl)) GX))))
  (Hg (Jm (J0 Bc BC BD Ke (pv 4) (GW (Iu (GW (pv 5) (GW (Hi HP (pv 6) (HC HZ (Il (GW G_ (GW (Hi Kb (HC IX (pv 2) G_ (λ_ _=>rfl)) G_) (GW (pv 8) GX)))) (pv 7) (λ_ _=>rfl))) GX))) GX))))))) HF)))
  (Hg (Ho (Kz RW rfl B.tuple_ J3 (GW (pv 4) GX)))))),?_⟩
 refine⟨I_,λr hr'=>?_⟩;obtain⟨rb,rg,rl⟩:=Bg.free hr';have s0:=Hh hr' (.lst []);have e0:(GY H r (.lst [])) r=some (.lst []):=Hb;have a0:=s0 _ _ hN.at';have nr:H r=none:=hr';have B0:=Bg.same s0;have t0:=s0 _ _ ht;have ra:r≠a:=λe=>by rw[e,hN.at'] at hr';cases hr'
 have S0:SameB b g H (GY H r (.lst [])):=s0.sameB;generalize GY H r (.lst [])=H0 at*;have fl:=hN.len;refine⟨_,rfl,a,rfl,⟨_,SqL.of a0⟩,K1 (K:=K) (a:=a) (xs:=fs.map V.str) (λi σ H'=>(∃y5 y6 y7 y8,σ=[some (.ref b),some (.ref a),some (.ref t),some (.int wide),some (.ref r),y5,y6,y7,y8])∧SameB b g H H'∧Well H' b g l (n+4*(i:Int))∧H' a=some (.lst (fs.map V.str))∧H' t=some (.tup [.int lo,.int sz])∧∃ps:List (Addr×PP),H' r=some (.lst (ps.map λp=>V.ref p.1))∧(∀p∈ps,H' p.1=some (.tup [.str p.2.1,.int p.2.2]))∧(ps.map (·.2.1)).Sublist (fs.take i)) ?_ ?_ ?_ ?_⟩
 · exact⟨⟨none,none,none,none,rfl⟩,S0,B0.mono (by omega),a0,t0,[],e0,λp hp=>(by simp at hp),EB _⟩
 · rintro i σ H' hi ⟨_,_,_,h,_⟩;exact SqL.of h
 · rintro i x σ H1 hx ⟨⟨y5,y6,y7,y8,rfl⟩,S1,B1,a1,t1,ps,e1,g1,sl⟩;rw[Ah] at hx;cases ef:fs[i]? with
   | none=>rw[ef] at hx;cases hx
   | some f=>
    rw[ef] at hx;cases hx;have hif:i<fs.length:=(Am.mp ef).1;have tk:fs.take (i+1)=fs.take i++[f]:=by rw[BY,ef];rfl
    refine HQ ?_;refine⟨_,rfl,b,g,l,_,6,rfl,B1,by omega,by decide,by decide,λk H2 k0 k1 B2 S2=>⟨_,_,rfl,rfl,_,rfl,HD (λh=>?_) (λh=>?_)⟩⟩
    · have t2:=B1.tup S2 t1;refine⟨_,rfl,t,_,0,_,rfl,rfl,SqT.of t2,rfl,_,rfl,t,_,1,_,rfl,rfl,SqT.of t2,rfl,?_⟩;refine⟨_,rfl,_,rfl,_,_,rfl,rfl,.inl ⟨by decide,by decide⟩,_,_,rfl,rfl,b,g,l,_,_,rfl,B2,by omega,by omega,IE (by omega),λx H3 x0 x1 B3 S3=>?_⟩;refine⟨_,_,rfl,rfl,_,_,rfl,rfl,.inl ⟨by omega,by omega⟩,_,_,rfl,rfl,?_⟩;refine HQ ?_;refine⟨_,rfl,b,g,l,_,3,rfl,B3,by omega,by decide,by decide,λpk H4 p0 p1 B4 S4=>?_⟩;have t4:=B3.tup S4 (B2.tup S3 t2);refine HQ ?_;refine⟨_,rfl,_,rfl,t,_,1,_,rfl,rfl,SqT.of t4,rfl,b,g,l,_,sz,rfl,B4,by omega,by omega,Int.lt_of_le_of_lt z2 (by decide),λwi H5 wi0 wi1 B5 S5=>?_⟩;have t5:=B4.tup S5 t4;have S15:=S2.trans (S3.trans (S4.trans S5));have e5:=S15 _ _ e1 rb rg;refine HQ ?_;refine⟨_,rfl,.inl ⟨rfl,_,SqL.of e5⟩,?_⟩;refine⟨_,rfl,_,rfl,_,rfl,t,_,1,_,rfl,rfl,SqT.of t5,rfl,_,_,rfl,rfl,_,rfl,KG,λwl hwl=>?_⟩;have s6:=Hh hwl (.lst [V.int 0,V.int (sz - 1),V.int wi]);have e6:(GY H5 wl (.lst [V.int 0,V.int (sz - 1),V.int wi])) wl=some (.lst [V.int 0,V.int (sz - 1),V.int wi]):=Hb;have B6:=B5.same s6;generalize GY H5 wl (.lst [V.int 0,V.int (sz - 1),V.int wi])=H6 at*;obtain⟨vv,hvv⟩:∃vv:Int,Ie [V.int 0,V.int (sz - 1),V.int wi] pk=some (.int vv):=by
       have:pk=0∨pk=1∨pk=2:=by omega
       rcases this with rfl | rfl | rfl
       · exact⟨_,rfl⟩
       · exact⟨_,rfl⟩
       · exact⟨_,rfl⟩
      refine⟨_,rfl,wl,_,pk,_,rfl,rfl,SqL.of e6,hvv,_,_,rfl,rfl,HX,λtp htp=>?_⟩;have s7:=Hh htp (.tup [V.str f,V.int (lo+sz*(x - 1)+vv)]);have e7:(GY H6 tp (.tup [V.str f,V.int (lo+sz*(x - 1)+vv)])) tp=some (.tup [V.str f,V.int (lo+sz*(x - 1)+vv)]):=Hb;have B7:=B6.same s7;have S67:Same H5 (GY H6 tp (.tup [V.str f,V.int (lo+sz*(x - 1)+vv)])):=s6.trans s7;have S17:=S15.trans S67.sameB;have er:=S67 _ _ e5;have lp:ps.length≤12:=by have:=sl.length_le;rw[Ab,AC] at this;omega
      generalize GY H6 tp (.tup [V.str f,V.int (lo+sz*(x - 1)+vv)])=H7 at*;refine⟨r,_,_,rfl,rfl,er,?_,?_⟩
      · rw[Ab];exact HR (by omega)
      · have tu:Iz H7 (GY H7 r (.lst ((ps.map λp=>V.ref p.1)++[V.ref tp]))):=λz zs e=>by
         rw[Hm (λq=>by rw[q,er] at e;cases e)];exact e
        have g7:∀p∈ps,H7 p.1=some (.tup [.str p.2.1,.int p.2.2]):=λp hp=>S67 _ _ (B4.tup S5 (B3.tup S4 (B2.tup S3 (B1.tup S2 (g1 p hp)))));refine⟨⟨_,_,_,_,rfl⟩,(S1.trans S17).off nr,(B7.off rb rg rl).mono (by omega),by rw[Hm ra.symm];exact S17 _ _ a1 hN.nb hN.ng,tu _ _ (S67 _ _ t5),ps++[(tp,f,lo+sz*(x - 1)+vv)],by rw[Hb,Au];rfl,λp hp=>?_,?_⟩
        · rcases AM.mp hp with y | y
          · exact tu _ _ (g7 p y)
          · rw[Aw.mp y];exact tu _ _ e7
        · rw[tk,Au];exact List.Sublist.append sl (EB _)
    · exact⟨⟨_,_,_,_,rfl⟩,S1.trans S2,B2.mono (by omega),S2 _ _ a1 hN.nb hN.ng,B1.tup S2 t1,ps,S2 _ _ e1 rb rg,λp hp=>B1.tup S2 (g1 p hp),by rw[tk];exact sl.trans (List.sublist_append_left _ _)⟩
 · rintro σ H1 ⟨⟨y5,y6,y7,y8,rfl⟩,S1,B1,a1,t1,ps,e1,g1,sl⟩;rw[Ab,Bt] at sl;refine⟨_,rfl,r,_,rfl,.inl ⟨SqL.of e1,λu hu=>?_⟩⟩;have s2:=Hh hu (.tup (ps.map λp=>V.ref p.1));refine q u (ps.map (·.2)) _ ⟨ps,rfl,Hb,λp hp=>s2 _ _ (g1 p hp)⟩ ⟨?_,?_,?_⟩ ((B1.same s2).mono (by rw[Ab];omega)) (S1.trans s2.sameB)
   · have:=sl.length_le;rw[Ab] at this ⊢;omega
   · intro x hx;obtain⟨p,hp,rfl⟩:=AU.mp hx;exact hN.ok _ (sl.subset (Bm hp))
   · rw[BK];exact hN.asc.sublist sl
theorem XI(F:Fun K "_law_more_names" "_law_more_names" M3 f fd)(GC:Γ25 P w K mg base)(GB:Γ24 P w K mg base):FnOk P w K mg base Hu 3 f fd ["well","names"] (RA):=by
 refine F.ok Gk (λvs H Q E h=>?_) (λcdv A outer s H vs Q E hr h=>?_)
 · obtain⟨b,g,l,a,n,fs,rfl,Bg,hn,hN,l6,q⟩:=h;rfl
 obtain⟨b,g,l,a,n,fs,rfl,Bg,hn,hN,l6,q⟩:=h;refine⟨_,(Hd (Nu (N':=["k","well"]) (js:=[none,some 0]) (i:=2) Gk.nd rfl (Or.inl rfl) rfl (Ig (N:=["well","names","more"]) (outer:=Hj M3) (by decide+kernel)) (JJ rfl B.range_ (GW (Hf GB (hr.mono (by decide)) rfl (GW (pv 0) (GW G_ GX))) GX)) (λ_ _ _ _ _=>(Hq (i:=0) L8 rfl (Or.inl rfl))) (λ_ _ _ _ _=>IB) (λ_ _ _ _ _=>(Hf GC (hr.mono (by decide)) rfl (GW (pv 1) (GW G_ GX)))))
  (Hg (Ho (VD rfl (Hi T0 (pv 1) (pv 2)) rfl B.sorted_ rfl B.set_)))),?_⟩
 refine⟨_,rfl,b,g,l,_,3,rfl,Bg,by omega,by decide,by decide,λc H1 c0 c1 B1 S1=>?_⟩;obtain⟨M,rfl⟩:∃M:Nat,c=(M:Int):=⟨c.toNat,by omega⟩;refine⟨_,rfl,(by omega),(by omega),λp hp=>?_⟩;have sp:=Hh hp (.lst []);obtain⟨pb,pg,pl⟩:=B1.free hp;have nf:∀x,H1 x=none→H x=none:=λx hx=>B1.back S1 x hx;refine K2 (lo:=0) (n:=M) (λi σ' ys H'=>(∃v,σ'=[v,some (.ref b)])∧(SameB b g H H'∧Well H' b g l (n+1+12*(i:Int)))∧H' p=some (.lst ys)∧∃ts:List Str,ys=ts.map V.str∧ts.length=i∧∀t∈ts,FieldOk t) ⟨⟨none,rfl⟩,⟨S1.trans sp.sameB,(B1.same sp).mono (by omega)⟩,Hb,[],rfl,rfl,λt ht=>by simp at ht⟩ ?_ ?_ ?_
 · rintro i σ' ys H' hi ⟨_,_,h1,L,rfl,h3,h4⟩;exact⟨h1,HR (by rw[Ab];omega)⟩
 · rintro i σ' ys H' N hi ⟨⟨v,rfl⟩,⟨S3,B3⟩,h1,L,rfl,h3,h4⟩ hN;refine⟨_,rfl,b,g,l,_,8,rfl,B3,by omega,by decide,by decide,λx H4 okx B4 S4=>?_⟩;refine⟨S4 _ _ h1 pb pg,hN _ _ _ ⟨⟨_,rfl⟩,⟨(S3.trans S4).off (nf p hp),(B4.off pb pg pl).mono (by omega)⟩,Hb,L++[x],by rw[Au];rfl,by simp;omega,λt ht=>?_⟩⟩;rcases AM.mp ht with z | z
   · exact h4 t z
   · rw[Aw.mp z];exact okx
 · rintro σ' ys H' ⟨_,⟨S3,B3⟩,h1,L,rfl,h3,h4⟩;refine HQ ?_;have a3:=S3 _ _ hN.at' hN.nb hN.ng;refine⟨_,rfl,_,rfl,a,p,_,_,rfl,rfl,a3,h1,?_,λu hu=>?_⟩
   · rw[Ab,Ab];exact AF (show fs.length+L.length≤1000 by omega) (by decide)
   · have s4:=Hh hu (.lst (fs.map V.str++L.map V.str));have e4:(GY H' u (.lst (fs.map V.str++L.map V.str))) u=some (.lst ((fs++L).map V.str)):=by rw[Hb,Au]
     have B4:=B3.same s4;have S4:=S3.trans s4.sameB;generalize GY H' u (.lst (fs.map V.str++L.map V.str))=H4 at*;refine⟨u,_,rfl,SqL.of e4,by simp;omega,λz ms nd me le so hz=>?_⟩;have s5:=Hh hz (.lst (ms.map V.str));obtain⟨zb,zg,zl⟩:=B4.free hz;refine q z ms _ (B4.back S4 z hz) ⟨Hb,Mt so nd,λf hf=>?_,?_,zb,zg⟩ ((B4.same s5).mono (by omega)) (S4.trans s5.sameB)
     · rcases AM.mp ((me f).mp hf) with y | y
       · exact hN.ok f y
       · exact h4 f y
     · rw[AG] at le;omega
theorem X4(F:Fun K "_law_far_piece" "_law_far_piece" NZ f fd)(GB:Γ24 P w K mg base):FnOk P w K mg base Hu 2 f fd ["well","piece"] (RQ):=by
 refine F.ok Gm (λvs H Q E h=>?_) (λcdv A outer s H vs Q E hr h=>?_)
 · obtain⟨b,g,l,c,n,p,rfl,Bg,hn,hp,pok,q⟩:=h;rfl
 obtain⟨b,g,l,c,n,p,rfl,Bg,hn,hp,pok,q⟩:=h;refine⟨_,(Hd (HG (PW.pt (IU (HI (SK (K0 hr)) (pv 1) (Iu GX) (Hz _)) (IV (HI KI (Hf GB (hr.mono (by decide)) rfl (GW (pv 0) (GW G_ GX))) G_ (Hz _))))) (Hg (Ho (pv 1))) HF)
  (Hd (Hr (i:=2) Gm.nd rfl (Or.inl rfl) (Hf GB (hr.mono (by decide)) rfl (GW (pv 0) (GW (Hl HY rfl B.len_ HN (GW (pv 1) GX)) GX))))
  (Hd (Hr (i:=3) Gm.nd rfl (Or.inl rfl) (HC HZ (Il (GW (Hi Jf G_ G_) (GW (Hi Kb G_ (Hi Jf G_ G_)) GX))) (Hf GB (hr.mono (by decide)) rfl (GW (pv 0) (GW G_ GX))) (λ_ _=>rfl)))
  (Hg (Ho (Hi Nd (Hi Nd (Jp LW (pv 1) Jk (Jl (pv 2))) (Iu (GW (Iu (GW (HC IX (HC IX (pv 1) (pv 2) (λ_ _=>rfl)) G_ (λ_ _=>rfl)) (GW (pv 3) GX))) GX))) (Jp LW (pv 1) (Jl (Hi HP (pv 2) G_)) Jk))))))),?_⟩
 have hp0:=hp;obtain⟨ps,rfl,hA,hP⟩:=hp;have lp:ps.length≤100:=by have:=pok.len;rw[Ab] at this;exact this
 refine J4 (λσ' H'=>σ'=L2.start ["well","piece","at","number"] [V.ref b,V.ref c]∧SameB b g H H'∧Well H' b g l (n+1)∧ps≠[]) (λZ hZ=>?_) ?_
 · refine⟨_,rfl,I_,λu hu=>?_⟩;have s0:=Hh hu (.tup []);have e0:(GY H u (.tup [])) u=some (.tup []):=Hb;generalize GY H u (.tup [])=H0 at*;refine⟨c,u,_,rfl,rfl,s0 _ _ hA,e0,_,rfl,?_⟩;have same:∀H',SameB b g H H'→Well H' b g l (n+1)→Q (.ref c) H':=λH' S B'=>q c _ H' ⟨ps,rfl,Bg.tup S hA,λp hp=>Bg.tup S (hP p hp)⟩ pok (B'.mono (by omega)) S;cases ps with
   | nil=>exact Hc (Hc ⟨_,rfl,same _ s0.sameB ((Bg.same s0).mono (by omega))⟩)
   | cons p0 pr=>
    refine Ha ⟨_,rfl,b,g,l,_,8,rfl,Bg.same s0,by omega,by decide,by decide,λk H1 k0 k1 B1 S1=>⟨_,_,rfl,rfl,_,rfl,HD (λh=>?_) (λh=>?_)⟩⟩
    · exact⟨_,rfl,same _ (s0.sameB.trans S1) B1⟩
    · exact hZ _ _ ⟨rfl,s0.sameB.trans S1,B1,by simp⟩
 rintro σ' H1 ⟨rfl,S1,B1,pne⟩;have A1:=Bg.tup S1 hA;have P1:∀p∈ps,H1 p.1=some (.tup [.str p.2.1,.int p.2.2]):=λp hp=>Bg.tup S1 (hP p hp);have ppos:0<ps.length:=FM.mpr pne;refine⟨_,rfl,_,rfl,c,_,rfl,.inr (SqT.of A1),b,g,l,_,_,rfl,B1,by omega,(by rw[Ab];omega),(by rw[Ab];exact IE (by omega)),λk H2 k0 k1 B2 S2=>?_⟩;obtain⟨k,rfl⟩:∃k':Nat,k=(k':Int):=⟨k.toNat,by omega⟩;rw[Ab] at k1;have hk:k<ps.length:=by omega
 have A2:=B1.tup S2 A1;have P2:∀p∈ps,H2 p.1=some (.tup [.str p.2.1,.int p.2.2]):=λp hp=>B1.tup S2 (P1 p hp);obtain⟨p1,ep⟩:∃p1,ps[k]?=some p1:=⟨ps[k],AB hk⟩;have hat:Ie (ps.map λp=>V.ref p.1) (k:Int)=some (V.ref p1.1):=J5 (by rw[Ah,ep];rfl);refine HQ ?_;have cp:MG 10 15:=⟨by decide,by decide,by decide⟩;refine⟨_,_,rfl,rfl,cp,_,_,rfl,rfl,cp,_,_,rfl,rfl,HX,λwl hwl=>?_⟩;dsimp only;generalize(10:Int)^(15:Int).toNat=T at*;have s3:=Hh hwl (.lst [V.int T,V.int (0 - T)]);have e3:(GY H2 wl (.lst [V.int T,V.int (0 - T)])) wl=some (.lst [V.int T,V.int (0 - T)]):=Hb;have B3:=B2.same s3;obtain⟨wb,wg,_⟩:=B2.free hwl;generalize GY H2 wl (.lst [V.int T,V.int (0 - T)])=H3 at*;refine⟨_,rfl,b,g,l,_,2,rfl,B3,by omega,by decide,by decide,λm H4 m0 m1 B4 S4=>?_⟩;have e4:=S4 _ _ e3 wb wg;obtain⟨vv,hvv⟩:∃vv:Int,Ie [V.int T,V.int (0 - T)] m=some (.int vv):=by
  have:m=0∨m=1:=by omega
  rcases this with rfl | rfl
  · exact⟨_,rfl⟩
  · exact⟨_,rfl⟩
 refine⟨wl,_,m,_,rfl,rfl,SqL.of e4,hvv,?_⟩;refine HQ ?_;have S24:=s3.sameB.trans S4;have A4:=B2.tup S24 A2;have P4:∀p∈ps,H4 p.1=some (.tup [.str p.2.1,.int p.2.2]):=λp hp=>B2.tup S24 (P2 p hp);have S04:=S1.trans (S2.trans S24);refine⟨_,rfl,_,rfl,_,rfl,c,_,rfl,A4,λp5 H5 s5 e5=>?_⟩;rw[N4 (n:=k) rfl,←E2] at e5;refine⟨_,rfl,_,rfl,c,_,_,_,rfl,rfl,SqT.of (s5 _ _ A4),hat,p1.1,_,0,_,rfl,rfl,SqT.of (s5 _ _ (P4 p1 (Aq ep))),rfl,_,rfl,HX,λc1 hc1=>?_⟩;have s6:=Hh hc1 (.tup [V.str p1.2.1,V.int vv]);have e6:(GY H5 c1 (.tup [V.str p1.2.1,V.int vv])) c1=some (.tup [V.str p1.2.1,V.int vv]):=Hb;generalize GY H5 c1 (.tup [V.str p1.2.1,V.int vv])=H6 at*;refine⟨OZ,λc2 hc2=>?_⟩;have s7:=Hh hc2 (.tup [V.ref c1]);have e7:(GY H6 c2 (.tup [V.ref c1])) c2=some (.tup [V.ref c1]):=Hb;generalize GY H6 c2 (.tup [V.ref c1])=H7 at*;refine⟨p5,c2,_,_,rfl,rfl,s7 _ _ (s6 _ _ e5),e7,(by rw[Ab,AC];exact AF (show min k ps.length+1≤1000 by omega) (by decide)),λd1 H8 s8 e8=>?_⟩;have t7:=s5.trans (s6.trans s7);refine⟨_,rfl,_,rfl,_,_,rfl,rfl,_,rfl,c,_,rfl,s8 _ _ (t7 _ _ A4),λp9 H9 s9 e9=>?_⟩;rw[Rs (n:=k+1) (by omega),←List.map_drop] at e9;refine⟨d1,p9,_,_,rfl,rfl,s9 _ _ e8,e9,(by rw[AG,Ab,AC,Ab,Db];exact AF (show min k ps.length+1+(ps.length - (k+1))≤1000 by omega) (by decide)),λd2 Hx sx ex=>?_⟩;have tx:=t7.trans (s8.trans (s9.trans sx));have ea:((ps.take k).map λp:Addr×PP=>V.ref p.1)++[V.ref c1]++(ps.drop (k+1)).map (λp:Addr×PP=>V.ref p.1)=(ps.take k++[((c1,p1.2.1,vv):Addr×PP)]++ps.drop (k+1)).map λp:Addr×PP=>V.ref p.1:=by simp
 rw[ea] at ex;have flds:(ps.take k++[((c1,p1.2.1,vv):Addr×PP)]++ps.drop (k+1)).map (·.2.1)=ps.map (·.2.1):=by
  have e0:ps=ps.take k++[p1]++ps.drop (k+1):=by have h1:=(List.take_append_drop (k+1) ps).symm;rw[BY,ep] at h1;exact h1
  conv=>rhs;rw[e0]
  simp
 refine q d2 ((ps.take k++[((c1,p1.2.1,vv):Addr×PP)]++ps.drop (k+1)).map (·.2)) Hx ⟨_,rfl,ex,λy hy=>?_⟩ ⟨?_,?_,?_⟩ ((B4.same tx).mono (by omega)) (S04.trans tx.sameB)
 · rcases AM.mp hy with y1 | y1
   · rcases AM.mp y1 with y2 | y2
     · exact tx _ _ (P4 y (List.mem_of_mem_take y2))
     · rw[Aw.mp y2];exact sx _ _ (s9 _ _ (s8 _ _ (s7 _ _ e6)))
   · exact tx _ _ (P4 y (FC y1))
 · have:=congrArg C8 flds;rw[Ab,Ab] at this;rw[Ab];omega
 · intro x hx;obtain⟨y,hy,rfl⟩:=AU.mp hx;have m2:y.2.1∈ps.map (·.2.1):=by rw[←flds];exact Bm hy
   obtain⟨z,hz,e⟩:=AU.mp m2;rw[←e];exact pok.ok z.2 (Bm hz)
 · have:=pok.asc;rw[BK] at this ⊢;rw[show(ps.take k++[((c1,p1.2.1,vv):Addr×PP)]++ps.drop (k+1)).map ((λx:PP=>x.1)∘λx:Addr×PP=>x.2)=ps.map ((λx:PP=>x.1)∘λx:Addr×PP=>x.2) from flds];exact this
theorem Tz(F:Fun K "law" "law" Jx f fd)(GL:Γ23 P w K mg base)(GM:Γ36 P w K mg base)(GJ:Γ26 P w K mg base)(GN:Γ28 P w K mg base)(GO:Γ34 P w K mg base)(GP:Γ38 P w K mg base)(GQ:Γ41 P w K mg base)(GI:Γ37 P w K mg base)(GB:Γ24 P w K mg base)(GR:Γ42 P w K mg base)(GS:Γ40 P w K mg base)(GT:Γ39 P w K mg base)(GG:Γ33 P w K mg base)(GU:Γ22 P w K mg base)(GV:Γ32 P w K mg base):FnOk P w K mg base Hu 12 f fd ["script"] (LN K):=by
 refine F.ok Gn (λvs H Q E h=>?_) (λcdv A outer s H vs Q E hr h=>?_)
 · obtain⟨a,ns,rfl,hS,h63,q⟩:=h;rfl
 obtain⟨a,ns,rfl,hS,h63,q⟩:=h;refine⟨_,(Hd (Hr (i:=1) Gn.nd rfl (Or.inl rfl) (Hf GL (hr.mono (by decide)) rfl (GW (pv 0) GX)))
  (Hd (Hr (i:=2) Gn.nd rfl (Or.inl rfl) (Hi Np (Hf GB (hr.mono (by decide)) rfl (GW (pv 1) (GW G_ GX))) G_))
  (Hd (Hr (i:=3) Gn.nd rfl (Or.inl rfl) (Hf GM (hr.mono (by decide)) rfl (GW (pv 1) (GW (HC HZ (Il (GW G_ (GW G_ GX))) (pv 2) (λ_ _=>rfl)) GX))))
  (Hd (Hr (i:=4) Gn.nd rfl (Or.inl rfl) (Hf GJ (hr.mono (by decide)) rfl (GW (pv 1) (GW (HC HZ (Il (GW G_ (GW G_ (GW G_ GX)))) (Hf GB (hr.mono (by decide)) rfl (GW (pv 1) (GW G_ GX))) (λ_ _=>rfl)) GX))))
  (Hd (Hr (i:=5) Gn.nd rfl (Or.inl rfl) (Hf GN (hr.mono (by decide)) rfl (GW (pv 1) GX)))
  (Hd (Hr (i:=6) Gn.nd rfl (Or.inl rfl) (Hi HP G_ (Hf GB (hr.mono (by decide)) rfl (GW (pv 1) (GW G_ GX)))))
  (Hd (Hr (i:=7) Gn.nd rfl (Or.inl rfl) (Hf GO (hr.mono (by decide)) rfl (GW (pv 1) (GW (pv 4) (GW (pv 5) (GW (pv 6) (GW (Hi HP G_ (Hf GB (hr.mono (by decide)) rfl (GW (pv 1) (GW (HC HZ (Il (GW G_ (GW G_ GX))) (pv 2) (λ_ _=>rfl)) GX)))) GX)))))))
  (Hd (Hr (i:=8) Gn.nd rfl (Or.inl rfl) (Hf GP (hr.mono (by decide)) rfl (GW (pv 1) (GW (pv 3) (GW (pv 7) (GW (HC HZ (Il (GW G_ (GW G_ GX))) (pv 2) (λ_ _=>rfl)) GX))))))
  (Hd (HG (HI IF (Hf GB (hr.mono (by decide)) rfl (GW (pv 1) (GW G_ GX))) G_ (Hz _)) (Hg (Hr (i:=8) Gn.nd rfl (Or.inl rfl) (Il GX))) HF)
  (Hd (Hr (i:=9) Gn.nd rfl (Or.inl rfl) (Hf GQ (hr.mono (by decide)) rfl (GW (pv 1) (GW (pv 4) GX))))
  (Hd (Hr (i:=10) Gn.nd rfl (Or.inl rfl) (Il GX))
  (Hd (Jg Bz rfl (II (Hf GI (hr.mono (by decide)) rfl (GW (pv 1) (GW (pv 8) GX)))) (J2 rfl (HH (Hq (i:=11) Gn.nd rfl (Or.inl rfl)) (HH (Hq (i:=12) Gn.nd rfl (Or.inl rfl)) (HH (Hq (i:=13) Gn.nd rfl (Or.inl rfl)) IR)))) (Hg (Jm (J0 Bc BC BD Ke (pv 10) (GW (Iu (GW (pv 11) (GW (Hf GB (hr.mono (by decide)) rfl (GW (pv 1) (GW (Hi HP (Hl HY rfl B.len_ HN (GW (pv 3) GX)) G_) GX))) (GW (SQ (pv 13)) GX)))) GX)))))
  (Hd (Jg Bz rfl (JJ rfl B.range_ (GW (Hi HP G_ (Hl (N2 rfl) rfl B.min_ MM (GW G_ (GW (Hl HY rfl B.len_ HN (GW (pv 0) GX)) GX)))) GX)) (Hq (i:=14) Gn.nd rfl (Or.inl rfl)) (Hd (Hr (i:=15) Gn.nd rfl (Or.inr rfl) (Hf GR (hr.mono (by decide)) rfl (GW (pv 1) (GW (Hf GS (hr.mono (by decide)) rfl (GW (pv 1) (GW (pv 9) (GW (pv 5) (GW (pv 6) GX))))) GX))))
  (Hd (Hr (i:=16) Gn.nd rfl (Or.inl rfl) (Hl NJ rfl B.sorted_ Mp (GW (IG (N':=["one","piece"]) (js:=[none,some 15]) rfl (Ig (N:=["script","well","large","web","names","grid","wide","pool","stands","own","others","hand","post","wishes","k","piece","due","some","handed"]) (outer:=Hj Jx) (by decide+kernel)) (II (pv 8)) (λ_ _ _ _ _=>(Hq (i:=0) L7 rfl (Or.inl rfl))) (λ_ _ _ _ _=>Mf (Ii (Hl (Vz K rfl rfl) rfl B.any_ Pn (GW (IG (N':=["wish","piece"]) (js:=[none,some 1]) rfl (Ig (N:=["one","piece"]) (outer:=O1 (Hj Jx) (Vo Jx 12 1)) (by decide+kernel)) (UY K rfl (HC (Ma K rfl) (pv 0) G_ (λ_ _=>rfl))) (λ_ _ _ _ _=>(Hq (i:=0) L4 rfl (Or.inl rfl))) (λ_ _ _ _ _=>IB) (λ_ _ _ _ _=>(Hf GV (hr.mono (by decide)) rfl (GW (pv 0) (GW (pv 1) GX))))) GX)))) (λ_ _ _ _ _=>(HC (Ma K rfl) (pv 0) G_ (λ_ _=>rfl)))) GX)))
  (Hg (Jg Bz rfl (II (Il (GW (pv 8) (GW (pv 10) GX)))) (Hq (i:=17) Gn.nd rfl (Or.inl rfl)) (Hd (Hr (i:=18) Gn.nd rfl (Or.inl rfl) (Iu (GW (Kz Mx rfl B.list_ Jc (GW (pv 3) GX)) (GW (Hf GT (hr.mono (by decide)) rfl (GW (pv 17) GX)) GX))))
  (Hd (HG (Im (Ii (Hf GG (hr.mono (by decide)) rfl (GW (Hf GU (hr.mono (by decide)) rfl (GW (HC IX (pv 18) G_ (λ_ _=>rfl)) (GW (HC IX (pv 18) G_ (λ_ _=>rfl)) (GW (pv 15) GX)))) (GW (pv 16) GX))))) (Hg (Ho Ij)) HF)
  (Hg (HG (Im (Ii (Hf GG (hr.mono (by decide)) rfl (GW (pv 18) (GW (Iu (GW (pv 3) (GW (pv 17) GX))) GX))))) (Hg (Ho Ij)) HF)))))))))
  (Hg (Ho Ij))))))))))))))),?_⟩
 refine⟨_,rfl,a,ns,rfl,hS,h63,λb g l H1 B1 S1 nb ng=>?_⟩;refine⟨_,rfl,b,g,l,_,8,rfl,B1,by decide,by decide,by decide,λc H2 c0 c1 B2 S2=>⟨_,_,rfl,rfl,⟨by decide,by decide⟩,?_⟩⟩;dsimp only;have lg01:c / 7=0∨c / 7=1:=by omega
 generalize c / 7=lg at lg01;have pair:∀x y:Int,∃z:Int,Ie [V.int x,V.int y] lg=some (.int z)∧(z=x∨z=y):=λx y=>by
  rcases lg01 with rfl | rfl
  · exact⟨x,rfl,.inl rfl⟩
  · exact⟨y,rfl,.inr rfl⟩
 refine HQ ?_;refine⟨_,rfl,HX,λu1 hu1=>?_⟩;have s3:=Hh hu1 (.lst [V.int 10,V.int 24]);have e3:(GY H2 u1 (.lst [V.int 10,V.int 24])) u1=some (.lst [V.int 10,V.int 24]):=Hb;have B3:=B2.same s3;generalize GY H2 u1 (.lst [V.int 10,V.int 24])=H3 at*;obtain⟨most,hmost,mo⟩:=pair 10 24;refine⟨_,rfl,u1,_,lg,_,rfl,rfl,SqL.of e3,hmost,b,g,l,_,most,rfl,B3,by decide,by omega,by omega,λwa W H4 nwa hW4 B4 S4=>?_⟩;obtain⟨wb,wg,_⟩:=B3.free nwa;refine HQ ?_;refine⟨_,rfl,KG,λu2 hu2=>?_⟩;have s5:=Hh hu2 (.lst [V.int 3,V.int 3,V.int 6]);have e5:(GY H4 u2 (.lst [V.int 3,V.int 3,V.int 6])) u2=some (.lst [V.int 3,V.int 3,V.int 6]):=Hb;have B5:=B4.same s5;have hW5:HV (GY H4 u2 (.lst [V.int 3,V.int 3,V.int 6])) wa W:=⟨s5 _ _ hW4.1,hW4.2⟩;obtain⟨u2b,u2g,_⟩:=B4.free hu2;generalize GY H4 u2 (.lst [V.int 3,V.int 3,V.int 6])=H5 at*;refine⟨_,rfl,b,g,l,_,3,rfl,B5,by decide,by decide,by decide,λc2 H6 c20 c21 B6 S6=>?_⟩;obtain⟨mf,hmf,mf1,mf6⟩:∃z:Int,Ie [V.int 3,V.int 3,V.int 6] c2=some (.int z)∧1≤z∧z≤6:=by
  have:c2=0∨c2=1∨c2=2:=by omega
  rcases this with rfl | rfl | rfl
  · exact⟨3,rfl,by decide,by decide⟩
  · exact⟨3,rfl,by decide,by decide⟩
  · exact⟨6,rfl,by decide,by decide⟩
 have hW6:HV H6 wa W:=⟨S6 _ _ hW5.1 wb wg,hW5.2⟩;refine⟨u2,_,c2,_,rfl,rfl,SqL.of (S6 _ _ e5 u2b u2g),hmf,b,g,l,_,mf,rfl,B6,by decide,mf1,by omega,λna fs H7 n7 e7 asc7 ok7 l1 l6 B7 S7=>?_⟩;obtain⟨nab,nag,_⟩:=B6.free n7;have N7:NamesAt H7 b g na fs:=⟨e7,nab,nag,by omega,ok7,asc7⟩;have hW7:HV H7 wa W:=⟨S7 _ _ hW6.1 wb wg,hW6.2⟩;refine HQ ?_;refine⟨_,rfl,b,g,l,_,rfl,B7,by decide,λt lo sz H8 et lo1 lo2 sz1 sz2 B8 S8=>?_⟩;have N8:=N7.sameB S8;have hW8:HV H8 wa W:=⟨S8 _ _ hW7.1 wb wg,hW7.2⟩;refine HQ ?_;refine⟨_,rfl,b,g,l,_,4,rfl,B8,by decide,by decide,by decide,λc3 H9 c30 c31 B9 S9=>⟨_,_,rfl,rfl,?_⟩⟩;have N9:=N8.sameB S9;have hW9:HV H9 wa W:=⟨S9 _ _ hW8.1 wb wg,hW8.2⟩;have t9:=B8.tup S9 et;dsimp only;obtain⟨wide,ew,wd1,wd2⟩:∃wide:Int,1+c3=wide∧1≤wide∧wide≤4:=⟨_,rfl,by omega,by omega⟩;rw[ew];refine HQ ?_;refine⟨_,rfl,_,rfl,_,rfl,_,rfl,_,rfl,HX,λu3 hu3=>?_⟩;have s10:=Hh hu3 (.lst [V.int 8,V.int 60]);have e10:(GY H9 u3 (.lst [V.int 8,V.int 60])) u3=some (.lst [V.int 8,V.int 60]):=Hb;have B10:=B9.same s10;have N10:=N9.sameB s10.sameB;have hW10:HV (GY H9 u3 (.lst [V.int 8,V.int 60])) wa W:=⟨s10 _ _ hW9.1,hW9.2⟩;have t10:=s10 _ _ t9;generalize GY H9 u3 (.lst [V.int 8,V.int 60])=H10 at*;obtain⟨mp,hmp,mpo⟩:=pair 8 60;refine⟨_,rfl,u3,_,lg,_,rfl,rfl,SqL.of e10,hmp,b,g,l,_,mp,rfl,B10,by decide,by omega,IE (by omega),λc4 H11 c40 c41 B11 S11=>⟨_,_,rfl,rfl,?_⟩⟩;have N11:=N10.sameB S11;have hW11:HV H11 wa W:=⟨S11 _ _ hW10.1 wb wg,hW10.2⟩;have t11:=B10.tup S11 t10;refine⟨b,g,l,na,t,_,lo,sz,wide,2+c4,fs,rfl,B11,by decide,N11,t11,sz1,sz2,wd1,by omega,by omega,by omega,λpa ws H12 n12 W12 lw ndw B12 S12=>?_⟩;obtain⟨pab,pag,_⟩:=B11.free n12;have N12:=N11.sameB S12;have hW12:HV H12 wa W:=⟨S12 _ _ hW11.1 wb wg,hW11.2⟩;have t12:=B11.tup S12 t11;refine HQ ?_;refine⟨_,rfl,_,rfl,_,rfl,HX,λu4 hu4=>?_⟩;have s13:=Hh hu4 (.lst [V.int 8,V.int 30]);have e13:(GY H12 u4 (.lst [V.int 8,V.int 30])) u4=some (.lst [V.int 8,V.int 30]):=Hb;have B13:=B12.same s13;have N13:=N12.sameB s13.sameB;have hW13:HV (GY H12 u4 (.lst [V.int 8,V.int 30])) wa W:=⟨s13 _ _ hW12.1,hW12.2⟩;have t13:=s13 _ _ t12;have W13:=W12.same s13;generalize GY H12 u4 (.lst [V.int 8,V.int 30])=H13 at*;obtain⟨ms,hms,mso⟩:=pair 8 30;refine⟨_,rfl,u4,_,lg,_,rfl,rfl,SqL.of e13,hms,b,g,l,wa,pa,_,ms,W,ws,rfl,B13,by omega,hW13,wb,wg,W13,pab,pag,ndw,by omega,by omega,by omega,λsa xs H14 n14 X14 fr14 B14 S14=>?_⟩;obtain⟨sab,sag,_⟩:=B13.free n14;have N14:=N13.sameB S14;have hW14:HV H14 wa W:=⟨S14 _ _ hW13.1 wb wg,hW13.2⟩;have t14:=B13.tup S14 t13;have lfree:∀x∈xs,x.l≠b∧x.l≠g:=λx hx=>⟨(B13.free (fr14 x hx)).1,(B13.free (fr14 x hx)).2.1⟩;refine HQ ?_;dsimp only;refine J4 (λσ' H'=>∃(sa:Addr)(xs:List Stand),σ'=[some (.ref a),some (.ref b),some (.int lg),some (.ref wa),some (.ref na),some (.ref t),some (.int wide),some (.ref pa),some (.ref sa),none,none,none,none,none,none,none,none,none,none]∧StsAt H' W sa xs∧sa≠b∧sa≠g∧(∀x∈xs,x.l≠b∧x.l≠g)∧SameB b g H14 H'∧Well H' b g l 20000) (λZ hZ=>?_) ?_
 · refine⟨_,rfl,b,g,l,_,8,rfl,B14,by omega,by decide,by decide,λc5 H15 c50 c51 B15 S15=>⟨rfl,_,rfl,HD (λh=>?_) (λh=>?_)⟩⟩
   · refine⟨I_,λu5 hu5=>?_⟩;have s16:=Hh hu5 (.lst []);obtain⟨ub,ug,_⟩:=B15.free hu5;exact hZ _ _ ⟨u5,[],rfl,⟨Hb,λx hx=>(by simp at hx),Fu,by decide⟩,ub,ug,λx hx=>(by simp at hx),S15.trans s16.sameB,(B15.same s16).mono (by omega)⟩
   · exact hZ _ _ ⟨sa,xs,rfl,X14.sameW B14 sab sag lfree S15,sab,sag,lfree,S15,B15.mono (by omega)⟩
 clear X14 fr14 lfree n14 sab sag;have S1e:SameB b g H1 H14:=S2.trans (s3.sameB.trans (S4.trans (s5.sameB.trans (S6.trans (S7.trans (S8.trans (S9.trans (s10.sameB.trans (S11.trans (S12.trans (s13.sameB.trans S14)))))))))));rintro σ' H15 ⟨sa,xs,rfl,X15,sab,sag,lfree,S15,B15⟩;have N15:=N14.sameB S15;have hW15:HV H15 wa W:=⟨S15 _ _ hW14.1 wb wg,hW14.2⟩;have t15:=B14.tup S15 t14;refine⟨_,rfl,_,rfl,b,g,l,na,_,fs,rfl,B15,by decide,⟨N15.at',N15.asc,N15.ok,by have:=N15.len;omega,N15.nb,N15.ng⟩,N15.len,λoa os H16 n16 O16 B16 S16=>?_⟩;have X16:=X15.sameW B15 sab sag lfree S16;have hW16:HV H16 wa W:=⟨S16 _ _ hW15.1 wb wg,hW15.2⟩;have t16:=B15.tup S16 t15;refine HQ ?_;refine⟨I_,λra hra=>?_⟩;obtain⟨rab,rag,ral⟩:=B16.free hra;have s17:=Hh hra (.lst []);have e17:(GY H16 ra (.lst [])) ra=some (.lst []):=Hb;have B17:=B16.same s17;have X17:=X16.same s17;generalize GY H16 ra (.lst [])=H17 at*;have S1f:SameB b g H1 H16:=S1e.trans (S15.trans S16);have lx:=X16.len;refine HQ ?_;refine⟨_,rfl,_,rfl,b,g,l,sa,_,_,rfl,B17,by decide,X17.at',sab,sag,by rw[Ab];omega,λta tv H18 n18 e18 pm B18 S18=>?_⟩;obtain⟨ys,yp,rfl⟩:=NE pm xs rfl;obtain⟨tab,tag,_⟩:=B17.free n18;have tra:ta≠ra:=λe=>by rw[e,e17] at n18;cases n18
 have e18r:=S18 _ _ e17 rab rag;have ly:ys.length≤30:=by rw[yp.length_eq];exact lx
 refine⟨ta,rfl,⟨_,SqL.of e18⟩,K1 (K:=K) (a:=ta) (xs:=ys.map λx=>V.ref x.a) (λi σ H'=>(∃y11 y12 y13,σ=[some (.ref a),some (.ref b),some (.int lg),some (.ref wa),some (.ref na),some (.ref t),some (.int wide),some (.ref pa),some (.ref sa),some (.ref oa),some (.ref ra),y11,y12,y13,none,none,none,none,none])∧SameB b g H16 H'∧Well H' b g l (20160+(i:Int))∧H' ta=some (.lst (ys.map λx=>V.ref x.a))∧∃zs:List Stand,H' ra=some (.lst (zs.map λx=>V.ref x.a))∧zs.map hw=(ys.take i).map Sf∧∀z∈zs,StAt H' W z∧(z.l≠b∧z.l≠g)∧z.l≠ra) ?_ ?_ ?_ ?_⟩
 · exact⟨⟨none,none,none,rfl⟩,s17.sameB.trans S18,B18.mono (by omega),e18,[],e18r,rfl,λz hz=>(by simp at hz)⟩
 · rintro i σ H' hi ⟨_,_,_,h,_⟩;exact SqL.of h
 · rintro i v σ H19 hv ⟨⟨y11,y12,y13,rfl⟩,S19,B19,e19,zs,r19,hz,g19⟩;rw[Ah] at hv;cases ew:ys[i]? with
   | none=>rw[ew] at hv;cases hv
   | some y1=>
    rw[ew] at hv;cases hv;have hil:i<ys.length:=(Am.mp ew).1;have my:y1∈xs:=yp.mem_iff.mp (Aq ew);have o19:=(X16.ok y1 my).sameW B16 (lfree y1 my) S19;have w19:=S19 _ _ hW16.1 wb wg;refine⟨y1.a,_,rfl,SqT.of o19.at',rfl,_,_,rfl,_,_,rfl,_,_,rfl,rfl,?_⟩;refine⟨_,rfl,.inl ⟨rfl,_,SqL.of r19⟩,_,rfl,_,rfl,_,rfl,wa,_,rfl,.inl (SqL.of w19),_,_,rfl,rfl,b,g,l,_,_,rfl,B19,by omega,by omega,IE (by have:=hW16.2.1;rw[Ab];omega),λpo H20 po0 po1 B20 S20=>?_⟩;have o20:=o19.sameW B19 (lfree y1 my) S20;refine⟨_,rfl,y1.l,_,rfl,SqL.of o20.ws.at',λnl hnl=>?_⟩;rw[←List.map_reverse];have s21:=Hh hnl (.lst (y1.ws.reverse.map λx=>V.ref x.1));have e21:(GY H20 nl (.lst (y1.ws.reverse.map λx=>V.ref x.1))) nl=some (.lst (y1.ws.reverse.map λx=>V.ref x.1)):=Hb;have B21:=B20.same s21;obtain⟨nlb,nlg,_⟩:=B20.free hnl;have r20:=S20 _ _ r19 rab rag;have nlr:nl≠ra:=λe=>by rw[e,r20] at hnl;cases hnl
    generalize GY H20 nl (.lst (y1.ws.reverse.map λx=>V.ref x.1))=H21 at*;refine⟨KG,λtp htp=>?_⟩;have s22:=Hh htp (.tup [V.str y1.hand,V.int po,V.ref nl]);have e22:(GY H21 tp (.tup [V.str y1.hand,V.int po,V.ref nl])) tp=some (.tup [V.str y1.hand,V.int po,V.ref nl]):=Hb;have B22:=B21.same s22;have s02:Same H20 (GY H21 tp (.tup [V.str y1.hand,V.int po,V.ref nl])):=s21.trans s22;have e21':=s22 _ _ e21;generalize GY H21 tp (.tup [V.str y1.hand,V.int po,V.ref nl])=H22 at*;have S22:=S20.trans s02.sameB;have r22:=s02 _ _ r20;have o22:=o20.same s02;have lz:zs.length≤30:=by have:=congrArg C8 hz;rw[Ab,Ab,AC] at this;omega
    have new:StAt H22 W ⟨tp,y1.hand,po,nl,y1.ws.reverse⟩:=⟨e22,⟨e21',λx hx=>o22.ws.ok x (List.mem_reverse.mp hx),by show y1.ws.reverse.length≤800;rw[DV];exact o22.ws.len⟩,by show(y1.ws.reverse.map (·.2)).Nodup;rw[List.map_reverse];exact(List.reverse_perm _).nodup_iff.mpr o22.nd,by show y1.ws.reverse.length≤10;rw[DV];exact o22.few,o22.name,⟨po0,(by rw[Ab] at po1;show po≤(W.length:Int);omega)⟩⟩;refine⟨ra,_,_,rfl,rfl,r22,?_,?_⟩
    · rw[Ab];exact HR (by omega)
    · have tu:Iz H22 (GY H22 ra (.lst ((zs.map λx=>V.ref x.a)++[V.ref tp]))):=λz zs e=>by
       rw[Hm (λq=>by rw[q,r22] at e;cases e)];exact e
      have ol:∀y:Stand,StAt H22 W y→y.l≠ra→StAt (GY H22 ra (.lst ((zs.map λx=>V.ref x.a)++[V.ref tp]))) W y:=λy h hyr=>
       ⟨tu _ _ h.at',⟨by rw[Hm hyr];exact h.ws.at',λx hx=>⟨(h.ws.ok x hx).1.keep tu,(h.ws.ok x hx).2⟩,h.ws.len⟩,h.nd,h.few,h.name,h.post⟩
      refine⟨⟨_,_,_,rfl⟩,(S19.trans S22).off hra,(B22.off rab rag ral).mono (by omega),by rw[Hm tra];exact S22 _ _ e19 tab tag,zs++[⟨tp,y1.hand,po,nl,y1.ws.reverse⟩],by rw[Hb,Au];rfl,?_,λx hx=>?_⟩
      · rw[Au,hz,BY,ew,Au];rfl
      · rcases AM.mp hx with z | z
        · obtain⟨g1,g2,g4⟩:=g19 x z;exact⟨ol x ((g1.sameW B19 g2 S20).same s02) g4,g2,g4⟩
        · rw[Aw.mp z];exact⟨ol _ new nlr,⟨nlb,nlg⟩,nlr⟩
 · rintro σ H19 ⟨⟨y11,y12,y13,rfl⟩,S19,B19,e19,zs,r19,hz,g19⟩;dsimp only;rw[Ab,Bt] at hz;have zfree:∀z∈zs,z.l≠b∧z.l≠g:=λz h=>(g19 z h).2.1;have hh:zs.map (·.hand)=ys.map (·.hand):=by
    have:=congrArg (List.map (·.1)) hz;rw[BK,BK] at this;exact this
   have Z19:StsAt H19 W ra zs:=⟨r19,λz h=>(g19 z h).1,by rw[hh];exact(yp.map _).nodup_iff.mpr X16.nd,by have:=congrArg C8 hh;rw[Ab,Ab] at this;omega⟩;have hzp:∀p,(Ic zs p).Perm (Ic xs p):=λp=>by rw[UR p hz];exact Wf p yp
   have X19:=X16.sameW B16 sab sag lfree S19;have O19:=O16.sameB S19;have hW19:HV H19 wa W:=⟨S19 _ _ hW16.1 wb wg,hW16.2⟩;have t19:=B16.tup S19 t16;have ly':ys.length≤30:=ly;obtain⟨N,eN,N0,N1⟩:∃N:Int,4+(if((ns.map V.int).length:Int)<40 then((ns.map V.int).length:Int) else 40)=N∧0≤N∧N≤44:=⟨_,rfl,by split<;>omega,by split<;>omega⟩
   refine⟨_,rfl,a,_,rfl,.inl (U5 hS nb ng S1 (S1f.trans S19)),_,_,rfl,_,_,rfl,rfl,N,congrArg (λn=>[V.int n]) eN,by omega,by omega,N5 (lo:=0) (n:=N.toNat) (λi σ H'=>(∃y14 y15 y16 y17 y18,σ=[some (.ref a),some (.ref b),some (.int lg),some (.ref wa),some (.ref na),some (.ref t),some (.int wide),some (.ref pa),some (.ref sa),some (.ref oa),some (.ref ra),y11,y12,y13,y14,y15,y16,y17,y18])∧SameB b g H19 H'∧Well H' b g l (20200+100*(i:Int))) ?_ ?_ ?_⟩
   · exact⟨⟨none,none,none,none,none,rfl⟩,λ_ _ h _ _=>h,B19.mono (by rw[Ab];omega)⟩
   · rintro i σ H20 hi ⟨⟨y14,y15,y16,y17,y18,rfl⟩,S20,B20⟩;have X20:=X19.sameW B19 sab sag lfree S20;have Z20:=Z19.sameW B19 rab rag zfree S20;have O20:=O19.sameB S20;have t20:=B19.tup S20 t19;have hW20:HV H20 wa W:=⟨S20 _ _ hW19.1 wb wg,hW19.2⟩;refine⟨_,rfl,_,rfl,_,rfl,_,rfl,_,rfl,b,g,l,oa,t,_,lo,sz,wide,os,rfl,B20,by omega,O20,t20,sz1,sz2,wd1,by omega,λpc0 p0 H21 hp21 ok21 B21 S21=>?_⟩;refine⟨b,g,l,pc0,_,p0,rfl,B21,by omega,hp21,ok21,λpc p H22 hp22 ok22 B22 S22=>?_⟩;have S02:=S21.trans S22;have X22:=X20.sameW B20 sab sag lfree S02;have Z22:=Z20.sameW B20 rab rag zfree S02;have hW22:HV H22 wa W:=⟨S02 _ _ hW20.1 wb wg,hW20.2⟩;refine HQ ?_;refine⟨_,rfl,sa,rfl,⟨_,SqL.of X22.at'⟩,λr hr=>?_⟩;refine Kd (xs:=xs.map λx=>V.ref x.a) (λi σ' ys H'=>(∃v,σ'=[v,some (.ref pc)])∧Same H22 H'∧H' r=some (.lst ys)∧ys=(Ic (xs.take i) p).map V.str) ⟨⟨none,rfl⟩,Hh hr _,Hb,rfl⟩ ?_ ?_ ?_
     · rintro i σ' ys H' hi ⟨_,s,h1,h2⟩;refine⟨SqL.of (s _ _ X22.at'),h1,?_⟩;rw[h2,Ab];have:=Ll (xs.take i) p;rw[AC] at this;exact HR (by omega)
     · rintro i x σ' ys H' N hy ⟨⟨v,rfl⟩,s,h1,h2⟩ hN;rw[Ah] at hy;cases e1:xs[i]? with
       | none=>rw[e1] at hy;cases hy
       | some x1=>
        rw[e1] at hy;cases hy;have o1:=(X22.ok x1 (Aq e1)).same s;have ow:=o1.ws;have owl:=ow.len;have hp1:=hp22.same s;refine⟨_,rfl,x1.a,_,2,_,rfl,rfl,SqT.of o1.at',rfl,x1.l,rfl,⟨_,SqL.of ow.at'⟩,λr2 hr2=>?_⟩;refine Kd (xs:=x1.ws.map λx=>V.ref x.1) (λi σ' ys H3=>(∃v,σ'=[v,some (.ref pc)])∧Same H' H3∧H3 r2=some (.lst ys)∧ys=((x1.ws.take i).map λw=>IH w.2 p).map V.bl) ⟨⟨none,rfl⟩,Hh hr2 _,Hb,rfl⟩ ?_ ?_ ?_
        · rintro j σ' ys H3 hi ⟨_,s,h1,h2⟩;refine⟨SqL.of (s _ _ ow.at'),h1,?_⟩;rw[h2,Ab,Ab,AC];exact HR (by omega)
        · rintro j x σ' ys H3 N3 hx ⟨⟨v,rfl⟩,s,h1,h2⟩ hN3;rw[Ah] at hx;cases e2:x1.ws[j]? with
          | none=>rw[e2] at hx;cases hx
          | some w1=>
           rw[e2] at hx;cases hx;refine⟨_,rfl,_,rfl,w1.1,pc,w1.2,p,rfl,((ow.ok w1 (Aq e2)).1).same s,hp1.same s,ok22,λH4 s4=>⟨s4 _ _ h1,hN3 _ _ _ ⟨⟨_,rfl⟩,?_,Hb,?_⟩⟩⟩
           · exact Jn (s.trans s4) hr2
           · rw[h2,JL e2,Au,Au];rfl
        · rintro σ' ys' H3 ⟨_,s3,h31,h32⟩;rw[Ab,Bt] at h32;subst h32;refine⟨r2,_,rfl,SqL.of h31,_,rfl,?_⟩;have:(x1.ws.map λw=>IH w.2 p).any id=IZ x1.ws p:=by
           rw[Du];rfl
          rw[this];have sn:=Rx p e1;by_cases hw':IZ x1.ws p=true
          · rw[if_pos hw'] at sn;rw[hw'];refine Hc ⟨_,rfl,x1.a,_,0,_,rfl,rfl,SqT.of (s3 _ _ o1.at'),rfl,s3 _ _ h1,hN _ _ _ ⟨⟨_,rfl⟩,Jn (s.trans s3) hr,Hb,?_⟩⟩;rw[h2,sn,Au];rfl
          · rw[if_neg hw',CK] at sn;rw[EO] at hw';rw[hw'];refine Ha (hN _ _ _ ⟨⟨_,rfl⟩,s.trans s3,s3 _ _ h1,?_⟩);rw[h2,sn]
     · rintro σ' ys' H23 ⟨_,s23,h231,h232⟩;rw[Ab,Bt] at h232;subst h232;have hle:=Ll xs p;refine⟨r,_,rfl,SqL.of h231,by omega,λdu ds pm so hdu=>?_⟩;have s24:=Hh hdu (.lst (ds.map V.str));have e24:(GY H23 du (.lst (ds.map V.str))) du=some (.lst (ds.map V.str)):=Hb;generalize GY H23 du (.lst (ds.map V.str))=H24 at*;have s224:=s23.trans s24;obtain⟨okd,ndd,ld⟩:=PZ X22 pm;refine HQ ?_;refine⟨_,rfl,_,rfl,HX,λu6 hu6=>?_⟩;have s25:=Hh hu6 (.lst [V.ref sa,V.ref ra]);have e25:(GY H24 u6 (.lst [V.ref sa,V.ref ra])) u6=some (.lst [V.ref sa,V.ref ra]):=Hb;generalize GY H24 u6 (.lst [V.ref sa,V.ref ra])=H25 at*;have s225:=s224.trans s25;have e25d:=s25 _ _ e24;refine⟨u6,rfl,⟨_,SqL.of e25⟩,K1 (K:=K) (a:=u6) (xs:=[V.ref sa,V.ref ra]) (λj σ H'=>(∃y17 y18,σ=[some (.ref a),some (.ref b),some (.int lg),some (.ref wa),some (.ref na),some (.ref t),some (.int wide),some (.ref pa),some (.ref sa),some (.ref oa),some (.ref ra),y11,y12,y13,some (.int (0+(i:Int))),some (.ref pc),some (.ref du),y17,y18])∧Same H25 H') ⟨⟨_,_,rfl⟩,Same.refl _⟩ (λj σ H' _ ⟨_,e⟩=>SqL.of (e _ _ e25)) ?_ ?_⟩
       · rintro j v σ H26 hv ⟨⟨y17,y18,rfl⟩,s26⟩;obtain⟨la,qs,rfl,Q26,qp⟩:∃(la:Addr)(qs:List Stand),v= .ref la∧StsAt H26 W la qs∧(Ic qs p).Perm (Ic xs p):=by
          match j,hv with
          | 0,hv=>cases hv;exact⟨sa,xs,rfl,X22.same (s225.trans s26),C_ _⟩
          | 1,hv=>cases hv;exact⟨ra,zs,rfl,Z22.same (s225.trans s26),hzp p⟩
          | j+2,hv=>cases hv
         have hW26:HV H26 wa W:=⟨(s225.trans s26) _ _ hW22.1,hW22.2⟩;have d26:=s26 _ _ e25d;have p26:=hp22.same (s225.trans s26);refine HQ ?_;refine⟨_,rfl,wa,_,rfl,.inl (SqL.of hW26.1),λlw hlw=>?_⟩;have s27:=Hh hlw (.lst (W.map V.int));have e27:(GY H26 lw (.lst (W.map V.int))) lw=some (.lst (W.map V.int)):=Hb;generalize GY H26 lw (.lst (W.map V.int))=H27 at*;refine⟨_,rfl,la,W,qs,rfl,Q26.same s27,λka ks H28 nka s28 K28 ek=>?_⟩;refine⟨HX,λtp htp=>?_⟩;have s29:=Hh htp (.tup [V.ref lw,V.ref ka]);have e29:(GY H28 tp (.tup [V.ref lw,V.ref ka])) tp=some (.tup [V.ref lw,V.ref ka]):=Hb;generalize GY H28 tp (.tup [V.ref lw,V.ref ka])=H29 at*;have s269:=s27.trans (s28.trans s29);have L29:HV H29 lw W:=⟨(s28.trans s29) _ _ e27,hW26.2⟩;have K29:=K28.same s29;refine HQ ?_;refine⟨_,rfl,tp,_,0,_,rfl,rfl,SqT.of e29,rfl,_,rfl,tp,_,1,_,rfl,rfl,SqT.of e29,rfl,_,rfl,lw,ka,pc,W,ks,p,rfl,L29,K29,p26.same s269,ok22,λgr ms H30 s30 n30 e30 pm30 so30=>?_⟩;have hkq:Ic ks p=Ic qs p:=We p ek;have ems:ms=ds:=Wi (pm30.trans ((Fb hkq).trans (qp.trans pm.symm))) (PZ K29 pm30).2.1 so30 (Mt so ndd);subst ems;have d30:=(s269.trans s30) _ _ d26;have l900:(ms.map V.str).length≤900:=by rw[Ab];omega
         refine⟨_,rfl,6,by decide,_,_,_,rfl,by decide,Li e30 (NW ms okd) l900,Li d30 (NW ms okd) l900,UM _,λH31 s31=>⟨_,rfl,Ha ?_⟩⟩;refine⟨_,rfl,_,rfl,_,rfl,HX,λtq htq=>?_⟩;have s32:=Hh htq (.tup [V.ref wa,V.ref la]);have e32:(GY H31 tq (.tup [V.ref wa,V.ref la])) tq=some (.tup [V.ref wa,V.ref la]):=Hb;generalize GY H31 tq (.tup [V.ref wa,V.ref la])=H32 at*;have s292:=s30.trans (s31.trans s32);have s262:=s269.trans s292;refine⟨6,by decide,_,_,JW W (ks.map HW),rfl,by decide,Q1 (s292 _ _ e29) ⟨s292 _ _ L29.1,L29.2⟩ (K29.same s292),by rw[ek];exact Q1 e32 ⟨s262 _ _ hW26.1,hW26.2⟩ (Q26.same s262),UL _ _,λH33 s33=>⟨_,rfl,Ha ⟨⟨_,_,rfl⟩,s26.trans (s262.trans s33)⟩⟩⟩
       · rintro σ H26 ⟨⟨y17,y18,rfl⟩,s26⟩;exact⟨⟨_,_,_,_,_,rfl⟩,S20.trans (S02.trans (s225.trans s26).sameB),(B22.same (s225.trans s26)).mono (by omega)⟩
   · rintro σ H20 ⟨⟨y14,y15,y16,y17,y18,rfl⟩,S20,B20⟩;exact q H20
end
open PySem.W (nsIn mg_of mg_none_of fnOf keepIn codeIn)
abbrev dF(n:Str)(s:Stmt):=fnOf n n (Jj s) (Jd s) (Hj s) .none
theorem Iy{st:Stmt}{f:Addr}{fd:Bv}{p0:Str}(F:Fun K x x st f fd)(h:∀(kV doc pm:Value)(an:Option Addr)(cdv ct u0:Value),bindArgs (fnOf x x (Jj st) (Jd st) (Hj st) .none kV doc pm an cdv ct) ⟨[u0],[]⟩=pure [(p0,u0)]:=by intros;rfl):Binds K fd [p0] []:=
 F.binds λkV doc pm an cdv ct=>lS λu0=>l0 (h kV doc pm an cdv ct u0)
theorem IK{st:Stmt}{f:Addr}{fd:Bv}{p0 p1:Str}(F:Fun K x x st f fd)(h:∀(kV doc pm:Value)(an:Option Addr)(cdv ct u0 u1:Value),bindArgs (fnOf x x (Jj st) (Jd st) (Hj st) .none kV doc pm an cdv ct) ⟨[u0,u1],[]⟩=pure [(p0,u0),(p1,u1)]:=by intros;rfl):Binds K fd [p0,p1] []:=
 F.binds λkV doc pm an cdv ct=>lS λu0=>lS λu1=>l0 (h kV doc pm an cdv ct u0 u1)
theorem Si{st:Stmt}{f:Addr}{fd:Bv}{p0 p1 p2:Str}(F:Fun K x x st f fd)(h:∀(kV doc pm:Value)(an:Option Addr)(cdv ct u0 u1 u2:Value),bindArgs (fnOf x x (Jj st) (Jd st) (Hj st) .none kV doc pm an cdv ct) ⟨[u0,u1,u2],[]⟩=pure [(p0,u0),(p1,u1),(p2,u2)]:=by intros;rfl):Binds K fd [p0,p1,p2] []:=
 F.binds λkV doc pm an cdv ct=>lS λu0=>lS λu1=>lS λu2=>l0 (h kV doc pm an cdv ct u0 u1 u2)
theorem OS{st:Stmt}{f:Addr}{fd:Bv}{p0 p1 p2 p3:Str}(F:Fun K x x st f fd)(h:∀(kV doc pm:Value)(an:Option Addr)(cdv ct u0 u1 u2 u3:Value),bindArgs (fnOf x x (Jj st) (Jd st) (Hj st) .none kV doc pm an cdv ct) ⟨[u0,u1,u2,u3],[]⟩=pure [(p0,u0),(p1,u1),(p2,u2),(p3,u3)]:=by intros;rfl):Binds K fd [p0,p1,p2,p3] []:=
 F.binds λkV doc pm an cdv ct=>lS λu0=>lS λu1=>lS λu2=>lS λu3=>l0 (h kV doc pm an cdv ct u0 u1 u2 u3)
theorem Sh{st:Stmt}{f:Addr}{fd:Bv}{p0 p1 p2 p3 p4:Str}(F:Fun K x x st f fd)(h:∀(kV doc pm:Value)(an:Option Addr)(cdv ct u0 u1 u2 u3 u4:Value),bindArgs (fnOf x x (Jj st) (Jd st) (Hj st) .none kV doc pm an cdv ct) ⟨[u0,u1,u2,u3,u4],[]⟩=pure [(p0,u0),(p1,u1),(p2,u2),(p3,u3),(p4,u4)]:=by intros;rfl):Binds K fd [p0,p1,p2,p3,p4] []:=
 F.binds λkV doc pm an cdv ct=>lS λu0=>lS λu1=>lS λu2=>lS λu3=>lS λu4=>l0 (h kV doc pm an cdv ct u0 u1 u2 u3 u4)
structure KF(K:Af)(x:Str)(st:Stmt)(f:Addr)(fd:Bv):Prop where
 a:nsIn K A0 x=some (some (.ref f))
 F:Fun K x x st f fd
theorem all_mk{l:E_}{w:World}{mg:Str→Option Value}{fa f1 f2 f3 f4 f5 f6 f7 f8 f9 f10 f11 f12 f13 f14 f15 f16 f17 f18 f19 f20 f21 f22 f23 f24 f25 f26 f27 f28 f29 f30 f31 f32 f33 f34 f35 f36 f37 f38 f39 f40 f41 f42 f43 f44:Addr}{g1 g2 g3 g4 g5 g6 g7 g8 g9 g10 g11 g12 g13 g14 g15 g16 g17 g18 g19 g20 g21 g22 g23 g24 g25 g26 g27 g28 g29 g30 g31 g32 g33 g34 g35 g36 g37 g38 g39 g40 g41 g42 g43 g44:Bv}(X:K.In h)(G:h.Ns A0 mg)(hfa:mg "law"=some (.ref fa))
 (h1:KF K "is_whole" NL f1 g1)
 (h2:KF K "is_end" Ni f2 g2)
 (h3:KF K "is_span" ND f3 g3)
 (h4:KF K "span_holds" Og f4 g4)
 (h5:KF K "is_field" Mk f5 g5)
 (h6:KF K "is_wish_part" Od f6 g6)
 (h7:KF K "is_piece_part" NY f7 g7)
 (h8:KF K "fields_ascend" M5 f8 g8)
 (h9:KF K "is_wish" Mr f9 g9)
 (h10:KF K "is_piece" Ml f10 g10)
 (h11:KF K "check_piece" Oa f11 g11)
 (h12:KF K "are_wishes" Mz f12 g12)
 (h13:KF K "are_unlike_wishes" Ol f13 g13)
 (h14:KF K "wish_takes" M2 f14 g14)
 (h15:KF K "one_takes" Mw f15 g15)
 (h16:KF K "is_name" NB f16 g16)
 (h17:KF K "is_web" Mh f17 g17)
 (h18:KF K "check_web" NF f18 g18)
 (h19:KF K "is_post" NC f19 g19)
 (h20:KF K "is_stand" NX f20 g20)
 (h21:KF K "are_stands" Ln f21 g21)
 (h22:KF K "check_stands" Oc f22 g22)
 (h23:KF K "who_gets" Mn f23 g23)
 (h24:KF K "_law_well" Lo f24 g24)
 (h25:KF K "_law_take" NQ f25 g25)
 (h26:KF K "_law_name" Mm f26 g26)
 (h27:KF K "_law_fields" NK f27 g27)
 (h28:KF K "_law_base" NM f28 g28)
 (h29:KF K "_law_grid" NN f29 g29)
 (h30:KF K "_law_span" NP f30 g30)
 (h31:KF K "_law_wish" NR f31 g31)
 (h32:KF K "_law_wishes" Of f32 g32)
 (h33:KF K "_law_wants" NG f33 g33)
 (h34:KF K "_law_alike" Mv f34 g34)
 (h35:KF K "_law_pool" NO f35 g35)
 (h36:KF K "_law_picked" M0 f36 g36)
 (h37:KF K "_law_web" Ms f37 g37)
 (h38:KF K "_law_turned" M1 f38 g38)
 (h39:KF K "_law_stands" Oe f39 g39)
 (h40:KF K "_law_stands_kept" M4 f40 g40)
 (h41:KF K "_law_some_piece" N_ f41 g41)
 (h42:KF K "_law_more_names" M3 f42 g42)
 (h43:KF K "_law_far_piece" NZ f43 g43)
 (h44:KF K "law" Jx f44 g44)
 {tML':Tok} (eML':nsIn K A0 "MOST_LETTERS"=some (some (.int 8 tML')))
 {tMR':Tok} (eMR':nsIn K A0 "MOST_ROADS"=some (some (.int 23 tMR')))
 {tMH':Tok} (eMH':nsIn K A0 "MOST_HANDS"=some (some (.int 30 tMH')))
 {tMW':Tok} (eMW':nsIn K A0 "MOST_WISHES"=some (some (.int 10 tMW')))
 (z_len:nsIn K A0 "len"=some none)
 (z_range:nsIn K A0 "range"=some none)
 (z_isinstance:nsIn K A0 "isinstance"=some none)
 (z_int:nsIn K A0 "int"=some none)
 (z_bool:nsIn K A0 "bool"=some none)
 (z_tuple:nsIn K A0 "tuple"=some none)
 (z_list:nsIn K A0 "list"=some none)
 (z_max:nsIn K A0 "max"=some none)
 (z_min:nsIn K A0 "min"=some none)
 (z_all:nsIn K A0 "all"=some none)
 (z_zip:nsIn K A0 "zip"=some none)
 (z_str:nsIn K A0 "str"=some none)
 (z_dict:nsIn K A0 "dict"=some none)
 (z_sorted:nsIn K A0 "sorted"=some none)
 (z_set:nsIn K A0 "set"=some none)
 (z_any:nsIn K A0 "any"=some none)
 (z_sum:nsIn K A0 "sum"=some none)
 (z_enumerate:nsIn K A0 "enumerate"=some none)
 (z_repr:nsIn K A0 "repr"=some none)
 (z_ord:nsIn K A0 "ord"=some none)
 (z_chr:nsIn K A0 "chr"=some none)
 (z_abs:nsIn K A0 "abs"=some none)
 (z_reversed:nsIn K A0 "reversed"=some none)
 :∃fd:Bv,(∀(s:Shared)(v:Value),BindsTo s fd ⟨[v],[]⟩ [("script",v)])∧∀base:Heap,K.In base→base.Ns A0 mg→FnOk l.prog w K mg base Hu 12 fa fd ["script"] (LN K):=by
 have e:=hfa.symm.trans (PySem.W.mg_of X G h44.a);cases e;obtain⟨_,⟨⟨oc,od,kV,dc,pm,an,cd,ct,sl,rfl,l',c'⟩,k'⟩⟩:=h44;have B:Bl mg:=⟨mg_none_of X G z_len,mg_none_of X G z_range,mg_none_of X G z_isinstance,mg_none_of X G z_int,mg_none_of X G z_bool,mg_none_of X G z_tuple,mg_none_of X G z_list,mg_none_of X G z_max,mg_none_of X G z_min,mg_none_of X G z_all,mg_none_of X G z_zip,mg_none_of X G z_str,mg_none_of X G z_dict,mg_none_of X G z_sorted,mg_none_of X G z_set,mg_none_of X G z_any,mg_none_of X G z_sum,mg_none_of X G z_enumerate,mg_none_of X G z_repr,mg_none_of X G z_ord,mg_none_of X G z_chr,mg_none_of X G z_abs,mg_none_of X G z_reversed⟩;refine⟨CT "law" "law" (Jj Jx) (Jd Jx) (Hj Jx) .none kV dc pm an cd ct,λs v=> .of_eq rfl,λbase _ _  =>?_⟩;have QML':=mg_of X G eML';have QMR':=mg_of X G eMR';have QMH':=mg_of X G eMH';have QMW':=mg_of X G eMW';have Go:Γ0 l.prog w K mg base:=⟨_,_,W6 B QML' QMR' QMH' QMW' h1.F,Iy h1.F,h1.F.2,mg_of X G h1.a⟩;have Gp:Γ1 l.prog w K mg base:=⟨_,_,Ve B QML' QMR' QMH' QMW' h2.F Go,Iy h2.F,h2.F.2,mg_of X G h2.a⟩;have Gr:Γ2 l.prog w K mg base:=⟨_,_,V9 B QML' QMR' QMH' QMW' h3.F Gp,Iy h3.F,h3.F.2,mg_of X G h3.a⟩;have Gz:Γ3 l.prog w K mg base:=⟨_,_,Xw B QML' QMR' QMH' QMW' h4.F,IK h4.F,h4.F.2,mg_of X G h4.a⟩;have Gq:Γ4 l.prog w K mg base:=⟨_,_,W0 B QML' QMR' QMH' QMW' h5.F,Iy h5.F,h5.F.2,mg_of X G h5.a⟩;have Gu:Γ5 l.prog w K mg base:=⟨_,_,XB B QML' QMR' QMH' QMW' h6.F Gq Gr,Iy h6.F,h6.F.2,mg_of X G h6.a⟩;have Gv:Γ6 l.prog w K mg base:=⟨_,_,X3 B QML' QMR' QMH' QMW' h7.F Gq Go,Iy h7.F,h7.F.2,mg_of X G h7.a⟩;have Gs:Γ7 l.prog w K mg base:=⟨_,_,X2 B QML' QMR' QMH' QMW' h8.F,Iy h8.F,h8.F.2,mg_of X G h8.a⟩;have Gx:Γ8 l.prog w K mg base:=⟨_,_,VA B QML' QMR' QMH' QMW' h9.F Gs Gu,Iy h9.F,h9.F.2,mg_of X G h9.a⟩;have Gw:Γ9 l.prog w K mg base:=⟨_,_,W1 B QML' QMR' QMH' QMW' h10.F Gs Gv,Iy h10.F,h10.F.2,mg_of X G h10.a⟩;have G9:Γ10 l.prog w K mg base:=⟨_,_,XD B QML' QMR' QMH' QMW' h11.F Gw,Iy h11.F,h11.F.2,mg_of X G h11.a⟩;have Gy:Γ11 l.prog w K mg base:=⟨_,_,Xq B QML' QMR' QMH' QMW' h12.F Gx,Iy h12.F,h12.F.2,mg_of X G h12.a⟩;have G4:Γ12 l.prog w K mg base:=⟨_,_,XE B QML' QMR' QMH' QMW' h13.F Gy,Iy h13.F,h13.F.2,mg_of X G h13.a⟩;have G0:Γ13 l.prog w K mg base:=⟨_,_,Xx B QML' QMR' QMH' QMW' h14.F Gz,IK h14.F,h14.F.2,mg_of X G h14.a⟩;have GA:Γ14 l.prog w K mg base:=⟨_,_,WI B QML' QMR' QMH' QMW' h15.F G0,IK h15.F,h15.F.2,mg_of X G h15.a⟩;have G2:Γ15 l.prog w K mg base:=⟨_,_,V7 B QML' QMR' QMH' QMW' h16.F Gq,Iy h16.F,h16.F.2,mg_of X G h16.a⟩;have G1:Γ16 l.prog w K mg base:=⟨_,_,Vf B QML' QMR' QMH' QMW' h17.F Go,Iy h17.F,h17.F.2,mg_of X G h17.a⟩;have G6:Γ17 l.prog w K mg base:=⟨_,_,WF B QML' QMR' QMH' QMW' h18.F G1,Iy h18.F,h18.F.2,mg_of X G h18.a⟩;have G3:Γ18 l.prog w K mg base:=⟨_,_,V8 B QML' QMR' QMH' QMW' h19.F Go,IK h19.F,h19.F.2,mg_of X G h19.a⟩;have G5:Γ19 l.prog w K mg base:=⟨_,_,W2 B QML' QMR' QMH' QMW' h20.F G2 G3 G4,IK h20.F,h20.F.2,mg_of X G h20.a⟩;have G7:Γ20 l.prog w K mg base:=⟨_,_,Xp B QML' QMR' QMH' QMW' h21.F G5,IK h21.F,h21.F.2,mg_of X G h21.a⟩;have G8:Γ21 l.prog w K mg base:=⟨_,_,XA B QML' QMR' QMH' QMW' h22.F G6 G7,IK h22.F,h22.F.2,mg_of X G h22.a⟩;have GU:Γ22 l.prog w K mg base:=⟨_,_,Xg B QML' QMR' QMH' QMW' h23.F G8 G9 GA,Si h23.F,h23.F.2,mg_of X G h23.a⟩;have GL:Γ23 l.prog w K mg base:=⟨_,_,Xe B QML' QMR' QMH' QMW' h24.F,Iy h24.F,h24.F.2,mg_of X G h24.a⟩;have GB:Γ24 l.prog w K mg base:=⟨_,_,Xd B QML' QMR' QMH' QMW' h25.F,IK h25.F,h25.F.2,mg_of X G h25.a⟩;have GC:Γ25 l.prog w K mg base:=⟨_,_,W9 B QML' QMR' QMH' QMW' h26.F GB,IK h26.F,h26.F.2,mg_of X G h26.a⟩;have GJ:Γ26 l.prog w K mg base:=⟨_,_,Xr B QML' QMR' QMH' QMW' h27.F GC GB,IK h27.F,h27.F.2,mg_of X G h27.a⟩;have GD:Γ27 l.prog w K mg base:=⟨_,_,W7 B QML' QMR' QMH' QMW' h28.F GB,Iy h28.F,h28.F.2,mg_of X G h28.a⟩;have GN:Γ28 l.prog w K mg base:=⟨_,_,W8 B QML' QMR' QMH' QMW' h29.F GB GD,Iy h29.F,h29.F.2,mg_of X G h29.a⟩;have GE:Γ29 l.prog w K mg base:=⟨_,_,WC B QML' QMR' QMH' QMW' h30.F GB,Si h30.F,h30.F.2,mg_of X G h30.a⟩;have GF:Γ30 l.prog w K mg base:=⟨_,_,Xf B QML' QMR' QMH' QMW' h31.F GB GE,OS h31.F,h31.F.2,mg_of X G h31.a⟩;have GH:Γ31 l.prog w K mg base:=⟨_,_,Xv B QML' QMR' QMH' QMW' h32.F GB GF,Sh h32.F,h32.F.2,mg_of X G h32.a⟩;have GV:Γ32 l.prog w K mg base:=⟨_,_,WH B QML' QMR' QMH' QMW' h33.F,IK h33.F,h33.F.2,mg_of X G h33.a⟩;have GG:Γ33 l.prog w K mg base:=⟨_,_,WG B QML' QMR' QMH' QMW' h34.F  (PySem.W.mg_of X G h34.a),IK h34.F,h34.F.2,mg_of X G h34.a⟩;have GO:Γ34 l.prog w K mg base:=⟨_,_,WA B QML' QMR' QMH' QMW' h35.F GH,Sh h35.F,h35.F.2,mg_of X G h35.a⟩;have GK:Γ35 l.prog w K mg base:=⟨_,_,Xs B QML' QMR' QMH' QMW' h36.F GB,IK h36.F,h36.F.2,mg_of X G h36.a⟩;have GM:Γ36 l.prog w K mg base:=⟨_,_,VB B QML' QMR' QMH' QMW' h37.F GB,IK h37.F,h37.F.2,mg_of X G h37.a⟩;have GI:Γ37 l.prog w K mg base:=⟨_,_,Xu B QML' QMR' QMH' QMW' h38.F GB,IK h38.F,h38.F.2,mg_of X G h38.a⟩
 have GP:Γ38 l.prog w K mg base:=⟨_,_,Xt B QML' QMR' QMH' QMW' h39.F GI GJ GB GK,OS h39.F,h39.F.2,mg_of X G h39.a⟩;have GT:Γ39 l.prog w K mg base:=⟨_,_,XG B QML' QMR' QMH' QMW' h40.F,Iy h40.F,h40.F.2,mg_of X G h40.a⟩;have GS:Γ40 l.prog w K mg base:=⟨_,_,XJ B QML' QMR' QMH' QMW' h41.F GB,OS h41.F,h41.F.2,mg_of X G h41.a⟩;have GQ:Γ41 l.prog w K mg base:=⟨_,_,XI B QML' QMR' QMH' QMW' h42.F GC GB,IK h42.F,h42.F.2,mg_of X G h42.a⟩;have GR:Γ42 l.prog w K mg base:=⟨_,_,X4 B QML' QMR' QMH' QMW' h43.F GB,IK h43.F,h43.F.2,mg_of X G h43.a⟩;exact Tz B QML' QMR' QMH' QMW' (fun_mk (st:=Jx) l' c' k') GL GM GJ GN GO GP GQ GI GB GR GS GT GG GU GV
theorem walk{l:E_}{q:Bb}{loose:List Str}{XP:(Str→Option Value)→Heap→Prop}{YP:World→Heap→Prop}{d:DefRec}{K:Params→Af}(hn:l.most=some 63)(hdf:d.params.defaults=[])
 (hY:∀(w:World)(h:Heap),YP w h→(K w.params).In h)
 (F:∀(w:World)(mg:Str→Option Value)(fa:Addr)(h:Heap),(K w.params).In h→h.Ns A0 mg→mg d.name=some (.ref fa)→
  ∃fd:Bv,(∀(s:Shared)(u:Value),BindsTo s fd ⟨[u],[]⟩ [("script",u)])∧∀base:Heap,(K w.params).In base→base.Ns A0 mg→FnOk l.prog w (K w.params) mg base Hu 12 fa fd ["script"] (LN (K w.params))):
 PySem.W.WalkO q loose XP YP l.row.toRowW d [] (λf vs=>PySem.call f vs):=
 L2.walk_of (n:=63) (k:=12) (x:="script") (CX:=λ_=>Hu) (sp:=λw=>LN (K w.params)) hn (by decide) hdf ⟨rfl,by decide,by decide,rfl⟩ hY F (λ_ _ a ns hl _ hS=>⟨a,ns,rfl,hS,hl,λ_=>rfl⟩) λ_ _ _ _ _ z=>z
end K63
namespace PySem.W.Fast
theorem tw3375978105095833920:0=0:=rfl
theorem tw8037723869393226402:0=0:=rfl
theorem tw17987013604675690606:0=0:=rfl
theorem tw4303118788592118608:0=0:=rfl
theorem tw14237584282918781427:0=0:=rfl
theorem tw6673122994420771381:0=0:=rfl
theorem tw12867152734027897848:0=0:=rfl
theorem tw18206301583773928924:0=0:=rfl
theorem tw6312243835124368638:0=0:=rfl
theorem tw16048912766961074318:0=0:=rfl
theorem tw9585484853395951648:0=0:=rfl
theorem tw6394648392604930144:0=0:=rfl
theorem tw14891798973256118400:0=0:=rfl
theorem tw1006240217214919872:0=0:=rfl
theorem tw17204090086129694944:0=0:=rfl
theorem tw7245358195019340160:0=0:=rfl
theorem tw6075568992172488128:0=0:=rfl
theorem tw9147356164195284480:0=0:=rfl
theorem tw2973484443932910208:0=0:=rfl
theorem tw14211654128949441152:0=0:=rfl
theorem tw1381939769239523008:0=0:=rfl
theorem tw1181205331104819936:0=0:=rfl
theorem tw2031834284213258080:0=0:=rfl
theorem tw13873453009540277088:0=0:=rfl
theorem tw16715186492437628800:0=0:=rfl
theorem tw11207695235646331840:0=0:=rfl
theorem tw11275490602526496769:0=0:=rfl
theorem tw1882796688747335713:0=0:=rfl
theorem tw2275451775452202081:0=0:=rfl
theorem tw15233958605728924993:0=0:=rfl
theorem tw4985775666303981025:0=0:=rfl
theorem tw18004136041093096993:0=0:=rfl
theorem tw13581181094224987841:0=0:=rfl
theorem tw11827521574409162529:0=0:=rfl
theorem tw1940231591355416449:0=0:=rfl
theorem tw14081462756645066625:0=0:=rfl
theorem tw9036603061425891746:0=0:=rfl
theorem tw12196493940885327298:0=0:=rfl
theorem tw3388164175277561346:0=0:=rfl
theorem tw9081190503629781890:0=0:=rfl
theorem tw16649003916166633410:0=0:=rfl
theorem tw4088897342372688931:0=0:=rfl
theorem tw12927135277529583779:0=0:=rfl
theorem tw17644826878688049379:0=0:=rfl
theorem tw6841340796531129603:0=0:=rfl
theorem tw7343647095772799267:0=0:=rfl
theorem tw2072025417277605219:0=0:=rfl
theorem tw13313091484252048771:0=0:=rfl
theorem tw5581871198546828675:0=0:=rfl
theorem tw13308066062131432003:0=0:=rfl
theorem tw9414417690892931971:0=0:=rfl
theorem tw16440965143516789731:0=0:=rfl
theorem tw16508551212290154596:0=0:=rfl
theorem tw769793909870097508:0=0:=rfl
theorem tw13462370684606446820:0=0:=rfl
theorem tw12839907586059899268:0=0:=rfl
theorem tw15296749458080726532:0=0:=rfl
theorem tw10441874281333872164:0=0:=rfl
theorem tw1496544545850256996:0=0:=rfl
theorem tw14766660373839778564:0=0:=rfl
theorem tw5917931481934421924:0=0:=rfl
theorem tw14603414727942271173:0=0:=rfl
theorem tw11538734971781475781:0=0:=rfl
theorem tw12067970189651838405:0=0:=rfl
theorem tw2566686535786610245:0=0:=rfl
theorem tw13592376225249472101:0=0:=rfl
theorem tw1881924529066122021:0=0:=rfl
theorem tw16803411208142699686:0=0:=rfl
theorem tw1273228627772414150:0=0:=rfl
theorem tw8939035028410851878:0=0:=rfl
theorem tw7561400686794936006:0=0:=rfl
theorem tw13741554311377027878:0=0:=rfl
theorem tw5720616781925204774:0=0:=rfl
theorem tw11681555695475069063:0=0:=rfl
theorem tw1685051201503733223:0=0:=rfl
theorem tw3697296592143486471:0=0:=rfl
theorem tw5726780142288026407:0=0:=rfl
theorem tw6309397293533885480:0=0:=rfl
theorem tw17483729603929544808:0=0:=rfl
theorem tw678868997143316680:0=0:=rfl
theorem tw12496336823764817160:0=0:=rfl
theorem tw12648013594395786696:0=0:=rfl
theorem tw3209280739850603016:0=0:=rfl
theorem tw10275345251537704584:0=0:=rfl
theorem tw10440425770392697544:0=0:=rfl
theorem tw8712997868313082664:0=0:=rfl
theorem tw11429576125389249480:0=0:=rfl
theorem tw11752970188854647849:0=0:=rfl
theorem tw12717681910160876681:0=0:=rfl
theorem tw4319895620640666793:0=0:=rfl
theorem tw3499702056235439337:0=0:=rfl
theorem tw18122260329260776809:0=0:=rfl
theorem tw12018074708882246121:0=0:=rfl
theorem tw15318909780029825705:0=0:=rfl
theorem tw14068498738675672777:0=0:=rfl
theorem tw2419313583176358601:0=0:=rfl
theorem tw11548509558568624873:0=0:=rfl
theorem tw11031717905237577449:0=0:=rfl
theorem tw7322204937204326185:0=0:=rfl
theorem tw13907567020042647369:0=0:=rfl
theorem tw7869563116338176873:0=0:=rfl
theorem tw17829417606279406537:0=0:=rfl
theorem tw2346936224835087305:0=0:=rfl
theorem tw18286128446680595466:0=0:=rfl
theorem tw18037574588103793866:0=0:=rfl
theorem tw1771143016767206730:0=0:=rfl
theorem tw3420883765999068554:0=0:=rfl
theorem tw822795964364630410:0=0:=rfl
theorem tw17009702739854523818:0=0:=rfl
theorem tw9341924103774325194:0=0:=rfl
theorem tw9571289609430299114:0=0:=rfl
theorem tw9043861542115232266:0=0:=rfl
theorem tw10378459251149290090:0=0:=rfl
theorem tw8879986634463411850:0=0:=rfl
theorem tw12580937023720545994:0=0:=rfl
theorem tw1393575310258023146:0=0:=rfl
theorem tw2893514231686673226:0=0:=rfl
theorem tw16973024928123091786:0=0:=rfl
theorem tw11905942163466686378:0=0:=rfl
theorem tw7659499443853039627:0=0:=rfl
theorem tw7789692584621109643:0=0:=rfl
theorem tw16164855780058456523:0=0:=rfl
theorem tw5046773809792398795:0=0:=rfl
theorem tw7070629995929503339:0=0:=rfl
theorem tw16935271938989677227:0=0:=rfl
theorem tw8107231985336067819:0=0:=rfl
theorem tw6153371795996403499:0=0:=rfl
theorem tw3035292933172709195:0=0:=rfl
theorem tw8266639009048437643:0=0:=rfl
theorem tw3250575577687865259:0=0:=rfl
theorem tw10424883124498180011:0=0:=rfl
theorem tw11002297458616706060:0=0:=rfl
theorem tw8370877635909590028:0=0:=rfl
theorem tw11178533323592246604:0=0:=rfl
theorem tw12328276418527756652:0=0:=rfl
theorem tw15860128449168855532:0=0:=rfl
theorem tw16536289997330302636:0=0:=rfl
theorem tw10531970185084998412:0=0:=rfl
theorem tw17703294578341092268:0=0:=rfl
theorem tw17369762209878201389:0=0:=rfl
theorem tw15039594562007278701:0=0:=rfl
theorem tw15165696246089564269:0=0:=rfl
theorem tw15641785630302433389:0=0:=rfl
theorem tw17125419352549616845:0=0:=rfl
theorem tw13699900623740502349:0=0:=rfl
theorem tw11605756672636143021:0=0:=rfl
theorem tw10165266074806513069:0=0:=rfl
theorem tw3954791142742481645:0=0:=rfl
theorem tw435426077897631565:0=0:=rfl
theorem tw12059417057452463053:0=0:=rfl
theorem tw1552672387303414830:0=0:=rfl
theorem tw5541754566942089326:0=0:=rfl
theorem tw4595340010859178126:0=0:=rfl
theorem tw8042476943578290318:0=0:=rfl
theorem tw13703311638513301806:0=0:=rfl
theorem tw8102454861315036590:0=0:=rfl
theorem tw13657430352610749006:0=0:=rfl
theorem tw12905952888865538638:0=0:=rfl
theorem tw8374242730013793006:0=0:=rfl
theorem tw389324640584588046:0=0:=rfl
theorem tw2481353718398034862:0=0:=rfl
theorem tw6561117416576586927:0=0:=rfl
theorem tw3711782086571838735:0=0:=rfl
theorem tw5226689144239110447:0=0:=rfl
theorem tw16579464445399226735:0=0:=rfl
theorem tw17017392169581232559:0=0:=rfl
theorem tw8646717326249717231:0=0:=rfl
theorem tw15380295418736291375:0=0:=rfl
theorem tw4130268423016154735:0=0:=rfl
theorem tw630825036452915855:0=0:=rfl
theorem tw10636119558608616175:0=0:=rfl
theorem tw3465558261573853999:0=0:=rfl
theorem tw16076168277451128687:0=0:=rfl
theorem tw3002305887059407759:0=0:=rfl
theorem tw14722794913412663215:0=0:=rfl
theorem tw11254035922532366255:0=0:=rfl
theorem tw13510615813197148143:0=0:=rfl
theorem tw6453357462005698576:0=0:=rfl
theorem tw1012631138419299568:0=0:=rfl
theorem tw631135339388101008:0=0:=rfl
theorem tw16989974659738404272:0=0:=rfl
theorem tw143333514556338864:0=0:=rfl
theorem tw14962307821831317168:0=0:=rfl
theorem tw10905869629814006480:0=0:=rfl
theorem tw11621616602539861808:0=0:=rfl
theorem tw9849353050536273744:0=0:=rfl
theorem tw15147791518118337392:0=0:=rfl
theorem tw17402914880046614448:0=0:=rfl
theorem tw15248479202802090960:0=0:=rfl
theorem tw18175878638090809328:0=0:=rfl
theorem tw6367972593476965489:0=0:=rfl
theorem tw748586896409653393:0=0:=rfl
theorem tw11524365618480097585:0=0:=rfl
theorem tw14540947427418469841:0=0:=rfl
theorem tw3326922755147605521:0=0:=rfl
theorem tw1359024339243684593:0=0:=rfl
theorem tw14644345956177262321:0=0:=rfl
theorem tw6899071268811707185:0=0:=rfl
theorem tw7434562905939945393:0=0:=rfl
theorem tw14070070312979454098:0=0:=rfl
theorem tw17740517317666769266:0=0:=rfl
theorem tw10924507402168206770:0=0:=rfl
theorem tw4894792455788897746:0=0:=rfl
theorem tw18233289949496808050:0=0:=rfl
theorem tw4183490355170386674:0=0:=rfl
theorem tw13849924120415697714:0=0:=rfl
theorem tw1895300652381907890:0=0:=rfl
theorem tw7159072989514068179:0=0:=rfl
theorem tw8066424518302446963:0=0:=rfl
theorem tw12363328706997157555:0=0:=rfl
theorem tw989306569439348499:0=0:=rfl
theorem tw7340871295237221139:0=0:=rfl
theorem tw11271669965625573363:0=0:=rfl
theorem tw13760298937652191348:0=0:=rfl
theorem tw16376901299886156948:0=0:=rfl
theorem tw300491972570281140:0=0:=rfl
theorem tw8741231783057797428:0=0:=rfl
theorem tw6815712064855733652:0=0:=rfl
theorem tw4551110329848306100:0=0:=rfl
theorem tw13274565351683615188:0=0:=rfl
theorem tw17979570084586717940:0=0:=rfl
theorem tw3976463443175164692:0=0:=rfl
theorem tw2804091060578466612:0=0:=rfl
theorem tw16165881689705711444:0=0:=rfl
theorem tw4908004631506481012:0=0:=rfl
theorem tw9947317560122953716:0=0:=rfl
theorem tw12392827995885123765:0=0:=rfl
theorem tw18216361277225034933:0=0:=rfl
theorem tw6782267248120615125:0=0:=rfl
theorem tw12749801815015635253:0=0:=rfl
theorem tw15797611810704858485:0=0:=rfl
theorem tw1580558545212659061:0=0:=rfl
theorem tw16658798448973064725:0=0:=rfl
theorem tw17708885580152030773:0=0:=rfl
theorem tw12704912488952123957:0=0:=rfl
theorem tw16799272561257839157:0=0:=rfl
theorem tw5658162166840568469:0=0:=rfl
theorem tw6422948479294870229:0=0:=rfl
theorem tw10027432674190875381:0=0:=rfl
theorem tw8203081821233323797:0=0:=rfl
theorem tw13697531319538623413:0=0:=rfl
theorem tw16567421824623322262:0=0:=rfl
theorem tw2385874265090708662:0=0:=rfl
theorem tw8516928380912634102:0=0:=rfl
theorem tw7346077261096389878:0=0:=rfl
theorem tw2671663783274073366:0=0:=rfl
theorem tw8964422269005523638:0=0:=rfl
theorem tw6025657178765016758:0=0:=rfl
theorem tw6251000802346094326:0=0:=rfl
theorem tw11002327955855325110:0=0:=rfl
theorem tw10020655860988799958:0=0:=rfl
theorem tw7216482364021203991:0=0:=rfl
theorem tw11965538739161091159:0=0:=rfl
theorem tw18068307590914377079:0=0:=rfl
theorem tw10245002386956415383:0=0:=rfl
theorem tw1962002274703044023:0=0:=rfl
theorem tw9622772169875747351:0=0:=rfl
theorem tw7534687284391421527:0=0:=rfl
theorem tw383536253043366487:0=0:=rfl
theorem tw3804531079791860343:0=0:=rfl
theorem tw14392906426710500215:0=0:=rfl
theorem tw12853925373903332247:0=0:=rfl
theorem tw11655568486187979671:0=0:=rfl
theorem tw15838469613882568695:0=0:=rfl
theorem tw8931960531896406104:0=0:=rfl
theorem tw11668843727702674616:0=0:=rfl
theorem tw18433676245540209880:0=0:=rfl
theorem tw13984518914773578040:0=0:=rfl
theorem tw7784023922726808120:0=0:=rfl
theorem tw10655172681403583096:0=0:=rfl
theorem tw9454349399856681624:0=0:=rfl
theorem tw9454667338494324376:0=0:=rfl
theorem tw9898904868639476408:0=0:=rfl
theorem tw14236399067968114360:0=0:=rfl
theorem tw1142517674040970008:0=0:=rfl
theorem tw14261498801548586808:0=0:=rfl
theorem tw8490921441637565272:0=0:=rfl
theorem tw7871251182386176952:0=0:=rfl
theorem tw73063670359987321:0=0:=rfl
theorem tw7171287129473290361:0=0:=rfl
theorem tw12879708061093488793:0=0:=rfl
theorem tw4607271327255567705:0=0:=rfl
theorem tw14138215249767435801:0=0:=rfl
theorem tw10836686625124201081:0=0:=rfl
theorem tw15189746458216806169:0=0:=rfl
theorem tw5149025444134549433:0=0:=rfl
theorem tw8283509165772546266:0=0:=rfl
theorem tw1447163269080733946:0=0:=rfl
theorem tw3082403745836337434:0=0:=rfl
theorem tw5922592712067967386:0=0:=rfl
theorem tw4307623244453522938:0=0:=rfl
theorem tw16205132062189599290:0=0:=rfl
theorem tw14321239188374442906:0=0:=rfl
theorem tw10338448288991005851:0=0:=rfl
theorem tw10894181030764079419:0=0:=rfl
theorem tw12245223408351060731:0=0:=rfl
theorem tw9379051827635931035:0=0:=rfl
theorem tw3932899334381353883:0=0:=rfl
theorem tw526859271338437563:0=0:=rfl
theorem tw15406858153222737948:0=0:=rfl
theorem tw10249465170112388316:0=0:=rfl
theorem tw6299363362289717500:0=0:=rfl
theorem tw4152110812517835068:0=0:=rfl
theorem tw10103682392523713980:0=0:=rfl
theorem tw12964075413810270012:0=0:=rfl
theorem tw2452483664418877244:0=0:=rfl
theorem tw11854208064838641564:0=0:=rfl
theorem tw414004394932021277:0=0:=rfl
theorem tw10424890835404314877:0=0:=rfl
theorem tw1549692392131666333:0=0:=rfl
theorem tw5014788326459022877:0=0:=rfl
theorem tw610740337732560477:0=0:=rfl
theorem tw14528937984066051102:0=0:=rfl
theorem tw11768062354800961854:0=0:=rfl
theorem tw4468455640192289182:0=0:=rfl
theorem tw12359476321569198654:0=0:=rfl
theorem tw12192871319483842206:0=0:=rfl
theorem tw14516264760500170526:0=0:=rfl
theorem tw16961595882508412063:0=0:=rfl
theorem tw11990643078048523519:0=0:=rfl
theorem tw10593860899823741215:0=0:=rfl
theorem tw6794565189020931423:0=0:=rfl
theorem tw3123974088760968575:0=0:=rfl
theorem tw5872145500368893343:0=0:=rfl
theorem tw3959846030030785215:0=0:=rfl
theorem tw17205141806488105823:0=0:=rfl
theorem tw3896475608521934783:0=0:=rfl
theorem tw8973180349472226303:0=0:=rfl
theorem tw5086586019823181823:0=0:=rfl
end PySem.W.Fast
open PySem PySem.W PyProof.Rows
set_option hygiene false in
local macro_rules | `(tactic| walk_at "kF")=> `(tactic| (refine' K63.KF.mk ?a (L2.fun_mk ?l ?c ?k);(case a=>k_is);(case l=>k_is);(case c=>k_is);(case k=>k_is)))
set_option maxRecDepth 100000 in
set_option maxHeartbeats 0 in
theorem PySem.Challenge.cw_newsways_k63_who_is_given_holds : PySem.Challenge.rw_newsways_k63_who_is_given.Holds := by
 w_on;o_law;k_head;(case hw=>w_witness2)
 k_fill
 refine K63.walk (l:=PySem.Challenge.rw_newsways_k63_who_is_given) rfl rfl (λw h Y=>PySem.W.kIn_of Y) ?F
 case F=>
  intro w mg fa h KX G hmg;refine' K63.all_mk KX G hmg ?h1 ?h2 ?h3 ?h4 ?h5 ?h6 ?h7 ?h8 ?h9 ?h10 ?h11 ?h12 ?h13 ?h14 ?h15 ?h16 ?h17 ?h18 ?h19 ?h20 ?h21 ?h22 ?h23 ?h24 ?h25 ?h26 ?h27 ?h28 ?h29 ?h30 ?h31 ?h32 ?h33 ?h34 ?h35 ?h36 ?h37 ?h38 ?h39 ?h40 ?h41 ?h42 ?h43 ?h44 ?eML' ?eMR' ?eMH' ?eMW'  ?z_len ?z_range ?z_isinstance ?z_int ?z_bool ?z_tuple ?z_list ?z_max ?z_min ?z_all ?z_zip ?z_str ?z_dict ?z_sorted ?z_set ?z_any ?z_sum ?z_enumerate ?z_repr ?z_ord ?z_chr ?z_abs ?z_reversed
  (case h1=>walk_at "kF");(case h2=>walk_at "kF");(case h3=>walk_at "kF");(case h4=>walk_at "kF");(case h5=>walk_at "kF");(case h6=>walk_at "kF");(case h7=>walk_at "kF");(case h8=>walk_at "kF");(case h9=>walk_at "kF");(case h10=>walk_at "kF");(case h11=>walk_at "kF");(case h12=>walk_at "kF");(case h13=>walk_at "kF");(case h14=>walk_at "kF");(case h15=>walk_at "kF");(case h16=>walk_at "kF");(case h17=>walk_at "kF");(case h18=>walk_at "kF");(case h19=>walk_at "kF");(case h20=>walk_at "kF");(case h21=>walk_at "kF");(case h22=>walk_at "kF");(case h23=>walk_at "kF");(case h24=>walk_at "kF");(case h25=>walk_at "kF");(case h26=>walk_at "kF");(case h27=>walk_at "kF");(case h28=>walk_at "kF");(case h29=>walk_at "kF");(case h30=>walk_at "kF");(case h31=>walk_at "kF");(case h32=>walk_at "kF");(case h33=>walk_at "kF");(case h34=>walk_at "kF");(case h35=>walk_at "kF");(case h36=>walk_at "kF");(case h37=>walk_at "kF");(case h38=>walk_at "kF");(case h39=>walk_at "kF");(case h40=>walk_at "kF");(case h41=>walk_at "kF");(case h42=>walk_at "kF");(case h43=>walk_at "kF");(case h44=>walk_at "kF")
  (case eML'=>k_is);(case eMR'=>k_is);(case eMH'=>k_is);(case eMW'=>k_is)
  (case z_len=>k_is);(case z_range=>k_is);(case z_isinstance=>k_is);(case z_int=>k_is);(case z_bool=>k_is);(case z_tuple=>k_is);(case z_list=>k_is);(case z_max=>k_is);(case z_min=>k_is);(case z_all=>k_is);(case z_zip=>k_is);(case z_str=>k_is);(case z_dict=>k_is);(case z_sorted=>k_is);(case z_set=>k_is);(case z_any=>k_is);(case z_sum=>k_is);(case z_enumerate=>k_is);(case z_repr=>k_is);(case z_ord=>k_is);(case z_chr=>k_is);(case z_abs=>k_is);(case z_reversed=>k_is)
